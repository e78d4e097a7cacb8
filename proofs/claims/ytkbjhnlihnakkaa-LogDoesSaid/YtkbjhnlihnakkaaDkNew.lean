/-
  A new disk: New, Of. Conditions: as each says.
-/
import Derived.Test.YtkbjhnlihnakkaaDkImage
import Derived.Test.YtkbjhnlihnakkaaDkSync
namespace Go.Proofs.Ytkbjhnlihnakkaa
open Go.RowKit

def Dsk.new (n : Nat) : Dsk := ⟨List.replicate n (List.replicate 64 0), [], false, 0, 0⟩
theorem Dsk.new_ok {n : Nat} (h : n ≤ 4096) : (Dsk.new n).Ok :=
  ⟨fun r hr => by rw [List.eq_of_mem_replicate hr]; simp, fun p hp => by simp [Dsk.new] at hp, fun p hp => by simp [Dsk.new] at hp, by simpa [Dsk.new] using h⟩

theorem info59z : (Try.prog.info? 70).map (fun i => (i.zero, i.size, i.bytes)) = some (some (.agg (List.replicate 64 (bv 0)).toArray), 64, 64) := by kernel_rfl
theorem made_same (z : Value) (m k : Nat) (hm : 0 < m) : (madeCells (List.replicate m z).toArray k).toList = List.replicate k z := by
  refine List.eq_replicate_iff.2 ⟨by simp [madeCells], fun b hb => ?_⟩
  simp only [madeCells, Array.toList_map, List.mem_map] at hb
  obtain ⟨i, _, rfl⟩ := hb
  have hlt : i % m < m := Nat.mod_lt _ hm
  simp [hlt]
theorem made_zero (n : Nat) : (madeCells (List.replicate 64 (bv 0)).toArray (n * 64)).toList = (krows (List.replicate n (List.replicate 64 0))).flatten := by
  have e1 : (madeCells (List.replicate 64 (bv 0)).toArray (n * 64)).toList = List.replicate (n * 64) (bv 0) := made_same _ _ _ (by decide)
  have e2 : (krows (List.replicate n (List.replicate 64 (0 : UInt8)))).flatten = List.replicate (n * 64) (bv 0) := by
    refine List.eq_replicate_iff.2 ⟨?_, fun b hb => ?_⟩
    · rw [flat_length (m := 64)]
      · simp [krows]
      · exact krows_len (fun r hr => by rw [List.eq_of_mem_replicate hr]; simp)
    · obtain ⟨r, hr, hb⟩ := List.mem_flatten.1 hb
      obtain ⟨x, hx, rfl⟩ := List.mem_map.1 hr
      rw [List.eq_of_mem_replicate hx] at hb
      obtain ⟨y, hy, rfl⟩ := List.mem_map.1 hb
      rw [List.eq_of_mem_replicate hy]
  rw [e1, e2]
theorem make_blocks (n : Nat) (h : n ≤ 4096) (W : World) : (Instr.makeSlice 65 (.int .i64 (n : Int)) (.int .i64 (n : Int))).run Try.prog W = .ok (.slice (some ⟨W.heap.size, 0, none⟩) n n) (W.alloc (.cells (krows (List.replicate n (List.replicate 64 0))).flatten.toArray 70)) := by
  obtain ⟨i0, hi, hz0, hz1, hz2⟩ := info_parts info59z
  have hr := run_make (P := Try.prog) W 65 70 i0 _ Try.underlying65 hi hz0 .i64 .i64 (n : Int) (n : Int) (by omega) (by omega) (by rw [hz2]; omega) (by omega)
  rw [hr, hz1, show ((n : Nat) : Int).toNat = n from rfl]
  have e := made_zero n
  rw [← e]
  rfl

/-- what a call leaves that makes a disk -/
def Fresh (w : World) (s : Dsk) (e : Ending) (w' : World) : Prop :=
  ∃ g F, e = .returned (.tuple #[.pointer (some ⟨g, 0, none⟩), .int .i64 0]) ∧ DiskAt w' g F s ∧ (∀ k, F k → w.heap.size ≤ k) ∧ Below w.heap.size w w'

theorem new_bad (w : World) (n : Int) (h : ¬ (1 ≤ n ∧ n ≤ 4096)) : Calls Try.prog 31 #[.int .i64 n] w fun e w' => e = .returned (.tuple #[.pointer none, .int .i64 1]) ∧ w' = w := by
  by_cases h1 : n < 1
  · go_enter Try.func31, Try.ntmps31
    go_wp2
    go_ret2
    exact ⟨rfl, rfl⟩
  · have h2 : n > 4096 := by omega
    go_enter Try.func31, Try.ntmps31
    go_wp2
    go_ret2
    exact ⟨rfl, rfl⟩
set_option maxRecDepth 100000 in
theorem new_any (w : World) (n : Nat) (h1 : 1 ≤ n) (h2 : n ≤ 4096) : Calls Try.prog 31 #[.int .i64 (n : Int)] w (Fresh w (Dsk.new n)) := by
  have hmk := make_blocks n h2 w
  have HK : Hid (krows (Dsk.new n).K = krows (List.replicate n (List.replicate 64 0))) := rfl
  generalize krows (List.replicate n (List.replicate 64 0)) = R at hmk HK
  go_enter Try.func31, Try.ntmps31
  go_wp2
  go_ret2
  have hb : Below w.heap.size w ((w.alloc (Obj.cells R.flatten.toArray 70)).alloc (Obj.cells (dkCells w.heap.size n (.slice none 0 0) false 0 0).toArray 68)) := ((Below.refl _ _).alloc (Nat.le_refl _) _).alloc (by simp) _
  refine ⟨w.heap.size + 1, fun k => k = w.heap.size ∨ k = w.heap.size + 1, rfl, ⟨w.heap.size, .slice none 0 0, ?_, ?_, World.ownsRow_nil _ _ _ _, .inr rfl, .inl rfl, (fun k hk => by cases hk), (by omega), (fun k hk => ?_), Dsk.new_ok h2⟩, (fun k hk => by omega), hb⟩
  · have hn := Blk.new (w.alloc (Obj.cells R.flatten.toArray 70)) (dkCells w.heap.size n (.slice none 0 0) false 0 0) 68
    simpa [Dsk.new, dkCells] using hn
  · rw [HK.out]
    exact (Blk.new w R.flatten _).alloc _
  · show k < _
    have : k = w.heap.size ∨ k = w.heap.size + 1 := hk
    simp
    omega

/-- l's piece of 64 bytes, number k -/
def chunk (l : List UInt8) (k : Nat) : List UInt8 := (l.drop (k * 64)).take 64
theorem chunk_length {l : List UInt8} {n k : Nat} (hn : l.length = n * 64) (hk : k < n) : (chunk l k).length = 64 := by
  unfold chunk; rw [List.length_take, List.length_drop]; omega
theorem chunks_flat : ∀ (n : Nat) (l : List UInt8) (K : List (List UInt8)), l.length = n * 64 → K.length = n → (∀ i, i < n → K[i]? = some (chunk l i)) → K.flatten = l
  | 0, l, K, hl, hK, _ => by
    obtain rfl : l = [] := List.eq_nil_of_length_eq_zero (by omega)
    obtain rfl : K = [] := List.eq_nil_of_length_eq_zero hK
    rfl
  | n + 1, l, [], _, hK, _ => by simp at hK
  | n + 1, l, x :: K, hl, hK, h => by
    have h0 := h 0 (by omega)
    have hx : x = l.take 64 := by simpa [chunk] using h0
    have ih := chunks_flat n (l.drop 64) K (by rw [List.length_drop]; omega) (by simpa using hK) (fun i hi => by
      have := h (i + 1) (by omega)
      rw [List.getElem?_cons_succ] at this
      rw [this]
      unfold chunk
      rw [List.drop_drop, Nat.succ_mul, Nat.add_comm])
    rw [List.flatten_cons, ih, hx, List.take_append_drop]

theorem size8 : (Try.prog.info? 5).map (·.size) = some 1 := by kernel_rfl
theorem cut_rest (A : Option Addr) (n c m : Nat) (hm : m ≤ n) (W : World) : (Instr.slice 22 (.slice A n c) (some (.int .i64 (m : Int))) none none).run Try.prog W = .ok (.slice (if c = m then A else A.map (·.add (m * 1))) (n - m) (c - m)) W := by
  have e2 : Try.prog.elem 22 = 5 := by kernel_rfl
  obtain ⟨i, hi, hz⟩ := Option.map_eq_some_iff.1 info8d
  simp only [Prod.mk.injEq] at hz
  rw [run_slice_l W 22 A n c (by kernel_rfl) .i64 (m : Int) (by omega) (by omega), e2]
  simp [sizeOf, typeInfo, hi, hz.2.1, sliced]

theorem of_bad (w : World) (A : Option Addr) (l : List UInt8) (c : Nat) (hl : l.length ≤ 9223372036854775807) (h : ¬ (l.length % 64 = 0 ∧ 1 ≤ l.length / 64 ∧ l.length / 64 ≤ 4096)) :
    Calls Try.prog 10 #[.slice A l.length c] w fun e w' => e = .returned (.tuple #[.pointer none, .int .i64 1]) ∧ w' = w := by
  by_cases h1 : l.length % 64 = 0
  · have h1' : (l.length : Int) % 64 = 0 := by omega
    have h2 : ¬ (1 ≤ (l.length : Int) / 64 ∧ (l.length : Int) / 64 ≤ 4096) := by omega
    have H2 := Lib.hid h2
    clear h2 h h1
    go_enter Try.func10, Try.ntmps10
    go_wp2_with (go_at_call 31; refine (new_bad _ _ H2.out).mono ?_; rintro e w' ⟨rfl, hw'⟩; obtain rfl := hw'.symm)
    go_ret2
    exact ⟨rfl, rfl⟩
  · have h1' : ¬ (l.length : Int) % 64 = 0 := by omega
    clear h h1
    go_enter Try.func10, Try.ntmps10
    go_wp2
    go_ret2
    exact ⟨rfl, rfl⟩

/-- what a new disk's durable blocks are, when the first k pieces of l were copied -/
def OfAt (l : List UInt8) (n k : Nat) (s : Dsk) : Prop := s.K.length = n ∧ s.M = [] ∧ s.off = false ∧ s.left = 0 ∧ s.calls = 0 ∧ ∀ i, i < k → s.K[i]? = some (chunk l i)

set_option maxRecDepth 100000 in
set_option maxHeartbeats 400000 in
theorem of_any (w : World) (A : Option Addr) (l : List UInt8) (c n : Nat) (hn : l.length = n * 64) (hlc : l.length ≤ c) (hs : Seen w A l) (h1 : 1 ≤ n) (h2 : n ≤ 4096) :
    Calls Try.prog 10 #[.slice A l.length c] w fun e w' => ∃ s, OfAt l n n s ∧ Fresh w s e w' := by
  have hc : n * 64 ≤ c := by omega
  rw [hn]
  have HN := Lib.hid hn
  have HS := Lib.hid hs
  clear hs hn hlc
  go_enter Try.func10, Try.ntmps10
  go_wp2_with (go_at_call 31; refine (new_any _ n h1 h2).mono ?_; rintro e w1 ⟨g, F, rfl, hd, hF, hb⟩; obtain ⟨gd, v, hd⟩ := hd; obtain ⟨c0, _⟩ := hd.cells; have hlK : (Dsk.new n).K.length = n := (by simp [Dsk.new]); rw [hlK] at c0; have HD := Lib.hid hd; have HF := Lib.hid hF; have HB := Lib.hid hb; clear hd hF hb hlK)
  go_loopw [26] (fun a wr => ∃ k : Nat, a = .int .i64 k ∧ k ≤ n ∧ ∃ s, OfAt l n k s ∧ DiskIn wr g gd v F s ∧ Spared w1 wr F) (fun a _ => n - (intOf a).toNat)
  case atStart => exact ⟨0, rfl, Nat.zero_le _, Dsk.new n, ⟨by simp [Dsk.new], rfl, rfl, rfl, rfl, fun i hi => by omega⟩, HD.out, .refl _ _⟩
  case round =>
    obtain ⟨k, rfl, hk, s, hof, hd, hsp⟩ := hrel
    have HO := Lib.hid hof
    have H1 := Lib.hid hd
    have HSP := Lib.hid hsp
    obtain ⟨d0, _⟩ := hd.cells
    rw [hof.1] at d0
    clear hof hd hsp c0
    by_cases hlt : k < n
    · have hkl : (k : Int) < (n : Int) := by omega
      have hs1 := HS.out.keep (w' := wr) (Nat.le_trans HB.out.size HSP.out.size) (fun b o hb => by
        rw [World.cell?_of_block (a := ⟨b, o, none⟩) (HSP.out.block b (Nat.lt_of_lt_of_le hb HB.out.size) (fun hf => by have := HF.out b hf; omega)), World.cell?_of_block (a := ⟨b, o, none⟩) (HB.out.block b hb)])
      have hct := cut_rest A (n * 64) c (k * 64) (by omega)
      have HDR := Lib.hid (hs1.drop (k * 64) c (by rw [HN.out]; exact hc))
      generalize (if c = k * 64 then A else A.map (·.add (k * 64 * 1))) = A2 at hct HDR
      clear hs1
      have e1 : ((k : Int) * 64) = ((k * 64 : Nat) : Int) := by omega
      rw [← e1] at hct
      have h64 : (k : Int) * 64 ≤ (n : Int) * 64 := by omega
      clear e1
      have hw : IntKind.i64.wrap ((k : Int) * 64) = (k : Int) * 64 := by rw [IntKind.wrap_i64]; omega
      go_wp2
      go_still_tail 11, (by kernel_rfl)
      have HX : Hid ((chunk l k).length = 64) := chunk_length HN.out hlt
      refine wpList_copy_into (w := wr.drew) rfl (.tmp 35) (.tmp 39) 22 rfl 5 Try.underlying22 size8 gd (k * 64) 64 64 A2 (l.drop (k * 64)) (n * 64 - k * 64) (c - k * 64) rfl rfl (by rw [List.length_drop, HN.out]) (krows s.K).flatten 70 H1.out.2.1.drew (HDR.out.below (Below.refl _ _).drew) (by omega) 64 (by omega) (by rw [flat_length (m := 64) _ (krows_len H1.out.2.2.2.2.2.2.2.2.len)]; simp only [krows, List.length_map]; rw [HO.out.1]; omega) ?_
      intro w2 hb2 hg2
      have HD2 := Lib.hid ((H1.out.still (Below.refl _ _).drew).laid k (by rw [HO.out.1]; exact hlt) (chunk l k) HX.out hb2.out hg2.out)
      have HSP2 := Lib.hid (HSP.out.trans (Spared.drew (Spared.refl wr F)) (fun _ h => .inl h) |>.trans (.of_grown hg2.out (F := F) (fun q e _ => by injection e with e; rw [← e]; exact H1.out.2.2.2.2.1)) (fun _ h => .inl h))
      clear hb2 hg2
      go_wp2
      go_roundw
      case rel =>
        refine ⟨k + 1, by go_num, by omega, { s with K := s.K.set k (chunk l k) }, ⟨by show (s.K.set k _).length = n; rw [List.length_set]; exact HO.out.1, HO.out.2.1, HO.out.2.2.1, HO.out.2.2.2.1, HO.out.2.2.2.2.1, fun i hi => ?_⟩, HD2.out, HSP2.out⟩
        show (s.K.set k _)[i]? = _
        by_cases hik : i = k
        · subst hik
          rw [List.getElem?_set_self (by rw [HO.out.1]; exact hlt)]
        · rw [List.getElem?_set_ne (by omega)]
          exact HO.out.2.2.2.2.2 i (by omega)
      case measure => simp [intOf]; omega
    · obtain rfl : k = n := by omega
      go_wp2
      go_ret2
      exact ⟨s, HO.out, g, F, rfl, H1.out.at_, HF.out, HSP.out.below HB.out HF.out⟩
end Go.Proofs.Ytkbjhnlihnakkaa
