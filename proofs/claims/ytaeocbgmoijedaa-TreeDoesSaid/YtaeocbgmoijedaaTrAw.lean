/-
  The chapter's example is answered.
-/
import Derived.Test.YtaeocbgmoijedaaTrPut
import Derived.Test.YtaeocbgmoijedaaTrScan
import Derived.Test.YtaeocbgmoijedaaText
import Derived.Lib.SlBytesConst
namespace Go.Proofs.Ytaeocbgmoijedaa
open Go.RowKit

/-- what Put leaves, where whether there is room is known -/
def PutDone (W : World) (g : Nat) (room : Int) (r : Int) (L' : List Kv) (e : Ending) (w' : World) : Prop :=
  e = .returned (.int .i64 r) ∧ TreeAt w' (fun b => b = g) g room L' ∧ Spared W w' (fun b => b = g)
theorem put_mark (W : World) (g : Nat) (room : Int) (L : List Kv) (t : TreeAt W (fun b => b = g) g room L) (hl : L.length ≤ 99999) (k v : Key) (mk mv : Nat × Nat) (hk : k.length ≤ 1000000000) (hv : v.length ≤ 1000000000) (r : Int) (L' : List Kv) (hr : if (sizeL (putL k v L) : Int) ≤ room then r = 0 ∧ L' = putL k v L else r = 4 ∧ L' = L) :
    Calls Try.prog 13 #[.pointer (some ⟨g, 0, none⟩), .slice (some ⟨W.heap.size, 0, none⟩) k.length k.length, .slice (some ⟨W.heap.size + 1, 0, none⟩) v.length v.length] ((W.alloc (.cells (k.map bv).toArray 5 mk)).alloc (.cells (v.map bv).toArray 5 mv)) (PutDone W g room r L') := by
  have hb : Below W.heap.size W ((W.alloc (.cells (k.map bv).toArray 5 mk)).alloc (.cells (v.map bv).toArray 5 mv)) := ((Below.refl _ _).alloc (Nat.le_refl _) _).alloc (by simp) _
  have S1 := (seen_mark W 5 k mk).alloc (.cells (v.map bv).toArray 5 mv)
  have S2 := seen_mark (W.alloc (.cells (k.map bv).toArray 5 mk)) 5 v mv
  rw [show (W.alloc (.cells (k.map bv).toArray 5 mk)).heap.size = W.heap.size + 1 by simp] at S2
  refine (put_any _ (fun b => b = g) (fun b hb2 => by subst hb2; exact Nat.lt_of_lt_of_le t.lt hb.size) g room L _ _ k v k.length k.length v.length v.length (t.below hb) hl S1 rfl S2 rfl hk hv).mono ?_
  rintro e w' ⟨hs, ho⟩
  have hs2 : Spared W w' (fun b => b = g) := (Spared.of_below hb _).trans hs (fun _ h => .inl h)
  rcases ho with ⟨h1, rfl, h3⟩ | ⟨h1, rfl, h3⟩
  · rw [if_neg (by omega)] at hr
    obtain ⟨rfl, rfl⟩ := hr
    exact ⟨rfl, h3, hs2⟩
  · rw [if_pos h1] at hr
    obtain ⟨rfl, rfl⟩ := hr
    exact ⟨rfl, h3, hs2⟩

theorem aw1 : putL [98] [49] [] = [([98], [49])] := by rfl
theorem aw2 : putL [97] [50, 50] [([98], [49])] = [([97], [50, 50]), ([98], [49])] := by rfl
theorem aw3 : scanL [] [] 9 [([97], [50, 50]), ([98], [49])] = [([97], [50, 50]), ([98], [49])] := by rfl
theorem aw4 : sizeL [([97], [50, 50]), ([98], [49])] = 5 := by rfl
theorem aw5 : putL [99] [51, 51, 51, 51, 51, 51] [([97], [50, 50]), ([98], [49])] = [([97], [50, 50]), ([98], [49]), ([99], [51, 51, 51, 51, 51, 51])] := by rfl
theorem aw6 : sizeL [([97], [50, 50]), ([98], [49]), ([99], [51, 51, 51, 51, 51, 51])] = 12 := by rfl

/-- the i-th pair of what a scan found, as it lies -/
theorem found_at {B0 : Nat} {W : World} {acc : List (El 0)} {A : Option Addr} {n c : Nat} (hf : Found B0 W acc (.slice A n c)) {L : List Kv} (hL : acc.map kv0 = L) (i : Nat) (hi : i < L.length) :
    ∃ b off A0 c0 A1 c1, A = some ⟨b, off, none⟩ ∧ b < W.heap.size ∧ W.cell? ⟨b, off + i * 2, none⟩ = some (.slice A0 L[i].1.length c0) ∧ W.cell? ⟨b, off + i * 2 + 1, none⟩ = some (.slice A1 L[i].2.length c1) ∧ Seen W A0 L[i].1 ∧ Seen W A1 L[i].2 ∧ (L[i].1.length ≤ 1000000000 ∧ L[i].2.length ≤ 1000000000) := by
  have hl : i < acc.length := by rw [← hL, List.length_map] at hi; exact hi
  obtain ⟨A', c', hv⟩ := hf.form
  injection hv with e1 e2 e3
  subst e1 e2 e3
  have hc := own_cells hf.row
  obtain ⟨b, off, hA, hb, _, h0, h1⟩ := pair_cells hc.1 i hl
  have he := hf.each acc[i] (List.getElem_mem hl)
  have hkv : kv0 acc[i] = L[i] := by subst hL; simp
  have k1 : (epiece 0 acc[i]).2.1 = L[i].1 := congrArg Prod.fst hkv
  have k2 : (eval0 acc[i]).2.1 = L[i].2 := congrArg Prod.snd hkv
  have s1 : Seen W (epiece 0 acc[i]).1 (epiece 0 acc[i]).2.1 := he.1.1.seen
  have s2 : Seen W (eval0 acc[i]).1 (eval0 acc[i]).2.1 := he.2.1.seen
  have m1 : (epiece 0 acc[i]).2.1.length ≤ 1000000000 := he.1.2.2
  have m2 : (eval0 acc[i]).2.1.length ≤ 1000000000 := he.2.2.2
  unfold pv at h0 h1
  rw [k1] at h0 s1 m1
  rw [k2] at h1 s2 m2
  exact ⟨b, off, _, _, _, _, hA, hb, h0, h1, s1, s2, m1, m2⟩

set_option maxRecDepth 100000 in
set_option maxHeartbeats 2000000 in
theorem awake_any (w : World) :
    Calls Try.prog 9 #[] w fun e w' => e = .returned (.bool true) ∧ Below w.heap.size w w' := by
  have hcc := fun (w : World) (C : Array Value) (n c : Nat) => Lib.run_convert_bytes_const (P := Try.prog) w 31 5 C n c Try.underlying31 Try.underlying5
  have hc2 : ∀ (W : World) (O : Obj) (C : Array Value) (n c : Nat), (convert 31 31 (.slice (some ⟨W.heap.size + 1, 0, none⟩) n c)).run Try.prog ((W.alloc O).alloc (.cells C 5)) = .ok (.slice (some ⟨W.heap.size + 1, 0, none⟩) n c) ((W.alloc O).alloc (.cells C 5 (C.size, C.size + 1))) := by
    intro W O C n c
    have := hcc (W.alloc O) C n c
    simpa using this
  have HN := Lib.hid (new_any w 10)
  have H1 : Hid (∀ W : World, TreeAt W (fun b => b = w.heap.size) w.heap.size 10 [] → Calls Try.prog 13 #[.pointer (some ⟨w.heap.size, 0, none⟩), .slice (some ⟨W.heap.size, 0, none⟩) 1 1, .slice (some ⟨W.heap.size + 1, 0, none⟩) 1 1] ((W.alloc (.cells #[.int .u8 98] 5 (1, 2))).alloc (.cells #[.int .u8 49] 5 (1, 2))) (PutDone W w.heap.size 10 0 [([98], [49])])) := fun W t =>
    put_mark W w.heap.size 10 [] t (by simp) [98] [49] (1, 2) (1, 2) (by simp) (by simp) 0 _ (by decide)
  have H2 : Hid (∀ W : World, TreeAt W (fun b => b = w.heap.size) w.heap.size 10 [([98], [49])] → Calls Try.prog 13 #[.pointer (some ⟨w.heap.size, 0, none⟩), .slice (some ⟨W.heap.size, 0, none⟩) 1 1, .slice (some ⟨W.heap.size + 1, 0, none⟩) 2 2] ((W.alloc (.cells #[.int .u8 97] 5 (1, 2))).alloc (.cells #[.int .u8 50, .int .u8 50] 5 (2, 3))) (PutDone W w.heap.size 10 0 [([97], [50, 50]), ([98], [49])])) := fun W t =>
    put_mark W w.heap.size 10 [([98], [49])] t (by simp) [97] [50, 50] (1, 2) (2, 3) (by simp) (by simp) 0 _ (by decide)
  have H3 : Hid (∀ W : World, TreeAt W (fun b => b = w.heap.size) w.heap.size 10 [([97], [50, 50]), ([98], [49])] → Calls Try.prog 13 #[.pointer (some ⟨w.heap.size, 0, none⟩), .slice (some ⟨W.heap.size, 0, none⟩) 1 1, .slice (some ⟨W.heap.size + 1, 0, none⟩) 6 6] ((W.alloc (.cells #[.int .u8 99] 5 (1, 2))).alloc (.cells #[.int .u8 51, .int .u8 51, .int .u8 51, .int .u8 51, .int .u8 51, .int .u8 51] 5 (6, 7))) (PutDone W w.heap.size 10 4 [([97], [50, 50]), ([98], [49])])) := fun W t =>
    put_mark W w.heap.size 10 [([97], [50, 50]), ([98], [49])] t (by simp) [99] [51, 51, 51, 51, 51, 51] (1, 2) (6, 7) (by simp) (by simp) 4 _ (by decide)
  go_enter Try.func9, Try.ntmps9
  go_wp2_with fail
  with_reducible refine HN.out.mono ?_
  rintro e w1 ⟨rfl, hb1, hsz, ht1⟩
  clear hsz
  have B1 := Lib.hid hb1
  have T1 := Lib.hid (ht1 (fun b => b = w.heap.size) rfl)
  clear hb1 ht1
  go_wp2_with fail
  with_reducible refine (H1.out w1 T1.out).mono ?_
  rintro e w2 ⟨rfl, ht2, hs2⟩
  have B2 : Hid (Below w.heap.size w w2) := hs2.below B1.out (fun k hk => by omega)
  have T2 := Lib.hid ht2
  clear ht2 hs2
  go_wp2_with fail
  with_reducible refine (H2.out w2 T2.out).mono ?_
  rintro e w3 ⟨rfl, ht3, hs3⟩
  have B3 : Hid (Below w.heap.size w w3) := hs3.below B2.out (fun k hk => by omega)
  have T3 := Lib.hid ht3
  clear ht3 hs3
  go_wp2_with fail
  with_reducible refine (H3.out w3 T3.out).mono ?_
  rintro e w4 ⟨rfl, ht4, hs4⟩
  have B4 : Hid (Below w.heap.size w w4) := hs4.below B3.out (fun k hk => by omega)
  have T4 := Lib.hid ht4
  have HS := Lib.hid (scan_any w4 (fun b => b = w.heap.size) w.heap.size 10 _ none none [] [] 0 0 0 0 9 ht4 (Seen.nil _ _) rfl (Seen.nil _ _) rfl (by omega))
  clear ht4 hs4
  go_wp2_with fail
  with_reducible refine HS.out.mono ?_
  rintro e w5 ⟨hb5, B0, acc, v, rfl, hB0, hf, hacc⟩
  rw [aw3] at hacc
  obtain ⟨A, c, rfl⟩ := hf.form
  have hlen : acc.length = 2 := by rw [← List.length_map (f := kv0), hacc]; rfl
  rw [hlen] at hf ⊢
  obtain ⟨b, off, A0, c0, A1, c1, rfl, _, q0, q1, s0, s1, _, _⟩ := found_at hf hacc 0 (by simp)
  simp only [List.getElem_cons_zero, Nat.zero_mul, Nat.add_zero] at q0 q1 s0
  have hq : w5.cell? ⟨b, off, none⟩ = some (.slice A0 1 c0) := q0
  have B5 : Hid (Below w.heap.size w w5) := hop B4.out hb5
  have T5 := Lib.hid (T4.out.below hb5)
  have HSZ := Lib.hid (size_any w5 _ _ _ _ T5.out)
  rw [aw4] at HSZ
  have HHE := Lib.hid (theight_any w5 _ _ _ _ T5.out)
  clear q0 q1 s1 hf hacc hlen hb5 HS
  have hcv : (convert 31 9 (.slice A0 1 c0)).run Try.prog w5 = .ok (.string ⟨#[97]⟩) w5 := s0.text (P := Try.prog) 31 9 5 Try.underlying31 Try.underlying5 Try.underlying9 c0
  clear s0
  go_wp2_with fail
  with_reducible refine HSZ.out.mono ?_
  rintro e w6 ⟨rfl, rfl⟩
  go_wp2_with fail
  with_reducible refine HHE.out.mono ?_
  rintro e w7 ⟨⟨H, rfl, h7, rfl, hh1, hh2⟩, hb7⟩
  have hh0 : h7 = 0 := by
    refine Classical.byContradiction fun hne => ?_
    have h1 := hh2 hne
    have h2 := four_pow h7
    simp at h1
    omega
  subst hh0
  have HSO := Lib.hid (tsound_any w7 _ _ _ _ (T5.out.below hb7))
  have B7 : Hid (Below w.heap.size w w7) := hop B5.out hb7
  clear hb7 hh1 hh2
  go_wp2_with fail
  with_reducible refine HSO.out.mono ?_
  rintro e w8 ⟨rfl, hb8⟩
  have B8 : Hid (Below w.heap.size w w8) := hop B7.out hb8
  clear hb8
  go_wp2_with fail
  go_ret
  exact ⟨rfl, B8.out⟩
end Go.Proofs.Ytaeocbgmoijedaa
