/-
  without, of a leaf: the leaf without the pair of a key, which it has. Conditions: the keys rise; at most 1000 pairs.
-/
import Derived.Test.YtaeocbgmoijedaaTrWith
namespace Go.Proofs.Ytaeocbgmoijedaa
open Go.RowKit

/-- what without answers -/
def LessOut (w : World) (F : Nat → Prop) (h : Nat) (l : List Kv) (n : Nat) (k : Key) (e : Ending) (w' : World) : Prop :=
  (∃ q : Pg h, e = .returned (pval h q) ∧ EOk w' F (h + 1) q ∧ Inner (h + 1) q ∧ flats h q.els = delL k l ∧ (n ≤ q.els.length + 1 ∧ q.els.length ≤ n)) ∧ Below w.heap.size w w'

set_option maxHeartbeats 2000000 in
set_option maxRecDepth 100000 in
theorem lessLeaf_any (w : World) (F : Nat → Prop) (hF : ∀ b, F b → b < w.heap.size) (p : Pg 0) (hp : EOk w F 1 p) (hs : Srt (flats 0 p.els)) (hn : p.els.length ≤ 1000) (Ak : Option Addr) (k : Key) (nk ck : Nat) (hsk0 : Seen w Ak k) (hkl : k.length = nk) (hhas : hasL k (flats 0 p.els) = true) :
    Calls Try.prog 32 #[pval 0 p, .slice Ak nk ck] w (LessOut w F 0 (flats 0 p.els) p.els.length k) := by
  obtain ⟨f, A, els, c⟩ := p
  obtain ⟨n, hnn⟩ : ∃ n, n = els.length := ⟨_, rfl⟩
  have HPV : Hid (pval 0 ⟨f, A, els, c⟩ = .agg #[.slice f.1 f.2.1.length f.2.2, .slice A n c, .slice none 0 0]) := by rw [hnn]; rfl
  obtain ⟨Af, hAf⟩ : ∃ Af, Af = f.1 := ⟨_, rfl⟩
  obtain ⟨nf, hnf⟩ : ∃ nf, nf = f.2.1.length := ⟨_, rfl⟩
  obtain ⟨cf, hcf⟩ : ∃ cf, cf = f.2.2 := ⟨_, rfl⟩
  rw [← hAf, ← hnf, ← hcf] at HPV
  obtain ⟨w2, hw2⟩ : ∃ w2, w2 = (w.alloc (.cells #[.slice Af nf cf, .slice A n c, .slice none 0 0] 55)).alloc (.cells #[.slice none 0 0, .slice none 0 0, .slice none 0 0] 55) := ⟨_, rfl⟩
  have HBW : Hid (Below w.heap.size w w2) := by rw [hw2]; exact ((Below.refl _ _).alloc (Nat.le_refl _) _).alloc (by simp) _
  have hp2 := EOk.wider hp HBW.out
  have hF2 := Wider.lt hF HBW.out.size
  obtain ⟨F2, hF2e⟩ : ∃ F2, F2 = Wider w w2 F := ⟨_, rfl⟩
  have HF2 := Lib.hid hF2e
  rw [← hF2e] at hp2 hF2
  have hsk : Seen w2 Ak k := hsk0.below HBW.out
  have HPL : Hid (∀ W, Below w2.heap.size w2 W → Calls Try.prog 47 #[.agg #[.slice Af nf cf, .slice A n c, .slice none 0 0], .slice Ak nk ck] W fun e w' => e = .returned (.tuple #[.int .i64 ((low k (flats 0 els)).length : Nat), .bool true]) ∧ Below W.heap.size W w') := fun W hW => by
    have := place_any W F2 ⟨f, A, els, c⟩ Ak k nk ck (hp2.below hW) (by dsimp only at hn ⊢; omega) hs (hsk.below hW) hkl
    rw [HPV.out] at this
    dsimp only at hhas
    rw [← hhas]
    exact this
  clear hF2e hF hp hAf hnf hcf
  obtain ⟨_, h2, h3, h4⟩ := hp2
  dsimp only at h2 h3 h4 hn hs hhas ⊢
  obtain ⟨j, hj1, hj2, hj3, ht1, ht2⟩ := leaf_cut hs k
  rw [hhas] at hj3
  obtain ⟨i, hi⟩ : ∃ i, i = (low k (flats 0 els)).length := ⟨_, rfl⟩
  rw [← hi] at hj1 hj3 ht1 HPL
  have hji : j = i + 1 := hj3
  obtain ⟨L, hL⟩ : ∃ L, L = els.take i ++ els.drop j := ⟨_, rfl⟩
  obtain ⟨N, hN⟩ : ∃ N, L.length = N := ⟨_, rfl⟩
  obtain ⟨m2, hm2⟩ : ∃ m2, m2 = n - j := ⟨_, rfl⟩
  have HFL : Hid (flats 0 L = delL k (flats 0 els)) := by
    show _ = _
    rw [hL, flats_append, ht1, ht2]
    rfl
  have HLEN : Hid (n ≤ N + 1 ∧ N ≤ n) := by
    show _ ∧ _
    rw [← hN, hL, List.length_append, List.length_take, List.length_drop]
    omega
  obtain ⟨i0, z0, R⟩ := rowP
  have hcut1 : ∀ W, (Instr.slice 28 (.slice A n c) none (some (.int .i64 (i : Int))) none).run Try.prog W = .ok (.slice A i c) W := R.head A n c i (by omega)
  have hcut2 := R.tail A n c j (by omega)
  have hdr := h2.drop j 2 c (by rw [rowCells_length]; exact Nat.mul_le_mul_right _ h3)
  have htk := h2.take (i * 2)
  rw [show j * 2 = j * esize 0 from rfl] at hdr
  rw [show i * 2 = i * esize 0 from rfl] at htk
  rw [rowCells_drop] at hdr
  rw [rowCells_take] at htk
  rw [show (fun a : Addr => a.add (j * esize 0)) = (fun a : Addr => a.add (j * 2)) from rfl] at hdr
  rw [← hm2] at hcut2
  generalize (if c = j then A else A.map fun a => a.add (j * 2)) = A' at *
  have HCON : Hid (∀ W, Below w2.heap.size w2 W → Calls Try.prog 48 #[.slice (some ⟨W.heap.size, 0, none⟩) 2 2] (W.alloc (.cells #[.slice A i c, .slice A' m2 (c - j)] 28)).drew fun e w' =>
      (∃ A2 c2, e = .returned (.slice A2 N c2) ∧ Cells w' F2 A2 (rowCells 0 L) ∧ N ≤ c2) ∧ Below W.heap.size W w') := fun W hW => by
    have hal : Below W.heap.size W (W.alloc (.cells #[.slice A i c, .slice A' m2 (c - j)] 28)).drew := ((Below.refl _ _).alloc (Nat.le_refl _) _).drew
    have hB := (Blk.new W [.slice A i c, .slice A' m2 (c - j)] 28).drew
    have hlt : (els.take i).length = i := by rw [List.length_take]; omega
    have hld : (els.drop j).length = m2 := by rw [List.length_drop]; omega
    have hL2 : (([(A, els.take i, c), (A', els.drop j, c - j)] : List (Option Addr × List (El 0) × Nat)).map fun r => r.2.1).flatten = L := by rw [hL]; simp
    have := joinP (W.alloc (.cells #[.slice A i c, .slice A' m2 (c - j)] 28)).drew F2 (fun b hb => by have := hF2 b hb; have := hW.size; simp; omega) W.heap.size 2 2 [(A, els.take i, c), (A', els.drop j, c - j)] N rfl (by omega) (by simp) (fun t ht => by
      rw [Nat.zero_add]
      match t, ht with
      | 0, _ => rw [hB.cell (i := 0) (by simp)]; simp [hlt]
      | 1, _ => rw [hB.cell (i := 1) (by simp)]; simp [hld]) (fun r hr => by
      rcases List.mem_cons.1 hr with rfl | hr
      · exact Cells.below (htk.below hW) hal
      · rw [List.mem_singleton.1 hr]; exact Cells.below (hdr.below hW) hal) (by rw [hL2]; exact hN) (by have := HLEN.out; omega)
    rw [hL2] at this
    refine this.mono ?_
    rintro e w' ⟨h1, hb⟩
    exact ⟨h1, hop hal hb⟩
  have HABV : Hid (∀ W, Below w2.heap.size w2 W → ∀ (A2 : Option Addr) (c2 : Nat), Cells W F2 A2 (rowCells 0 L) → N ≤ c2 → Calls Try.prog 44 #[.slice A2 N c2] W fun e w' =>
      (∃ q : Pg 0, e = .returned (pval 0 q) ∧ IsPg W F2 0 L q) ∧ Below W.heap.size W w') := fun W hW A2 c2 hc hm => by
    have hok : AllOk W F2 0 L := by
      rw [hL]
      exact AllOk.append (AllOk.below (AllOk.take h4 i) hW) (AllOk.below (AllOk.drop h4 j) hW)
    exact leaf_any W F2 A2 L N c2 hc hok hN hm
  have HNL := Lib.hid hN
  rw [HPV.out]
  have HW : Hid ((w.alloc (.cells #[.slice Af nf cf, .slice A n c, .slice none 0 0] 55)).alloc (.cells #[.slice none 0 0, .slice none 0 0, .slice none 0 0] 55) = w2) := hw2.symm
  have HB0 : Hid (Blk w2 w.heap.size [.slice Af nf cf, .slice A n c, .slice none 0 0] 55) := by rw [hw2]; exact (Blk.new w _ _).alloc _
  have HB2 : Hid (Blk w2 (w.heap.size + 1) [.slice none 0 0, .slice none 0 0, .slice none 0 0] 55) := by
    have := Blk.new (w.alloc (.cells #[.slice Af nf cf, .slice A n c, .slice none 0 0] 55)) [.slice none 0 0, .slice none 0 0, .slice none 0 0] 55
    rw [show (w.alloc (.cells #[.slice Af nf cf, .slice A n c, .slice none 0 0] 55)).heap.size = w.heap.size + 1 by simp] at this
    rw [hw2]; exact this
  have HSZ : Hid (w2.heap.size = w.heap.size + 1 + 1) := by rw [hw2]; show _ = _; simp
  have HK : Hid (∀ W, Below w2.heap.size w2 W → W.cell? ⟨w.heap.size, 1, none⟩ = some (.slice A n c)) := fun W hW => (HB0.out.below hW HB0.out.lt).cell (i := 1) (by simp)
  have HKS : Hid (∀ W, Below w2.heap.size w2 W → ∀ u0 u1 u2 : Value, (((W.setCell ⟨w.heap.size + 1, 0, none⟩ u0).setCell ⟨w.heap.size + 1, 1, none⟩ u1).setCell ⟨w.heap.size + 1, 2, none⟩ u2).cell? ⟨w.heap.size, 1, none⟩ = some (.slice A n c)) := fun W hW u0 u1 u2 =>
    ((((HB0.out.below hW HB0.out.lt).other ⟨w.heap.size + 1, 0, none⟩ u0 (by simp)).other ⟨w.heap.size + 1, 1, none⟩ u1 (by simp)).other ⟨w.heap.size + 1, 2, none⟩ u2 (by simp)).cell (i := 1) (by simp)
  obtain ⟨FL, hFL⟩ : ∃ FL, FL = flats 0 els := ⟨_, rfl⟩
  rw [← hFL] at HFL ⊢
  rw [← hnn]
  have hj2' : j ≤ n := by omega
  have hnm : n ≤ 1000 := by omega
  have hi1 : i ≤ 1000 := by omega
  have hcut3 : ∀ W, (Instr.slice 28 (.slice A n c) (some (.int .i64 ((i : Int) + 1))) none none).run Try.prog W = .ok (.slice A' m2 (c - j)) W := by
    rw [show (i : Int) + 1 = (j : Int) by omega]; exact hcut2
  have hwr : IntKind.i64.wrap ((i : Int) + 1) = (i : Int) + 1 := by rw [IntKind.wrap_i64]; omega
  have x0 := HB0.out.cell (i := 0) (by simp)
  have x1 := HB0.out.cell (i := 1) (by simp)
  have x2 := HB0.out.cell (i := 2) (by simp)
  simp only [List.getElem_cons_zero, List.getElem_cons_succ] at x0 x1 x2
  clear h2 h3 h4 htk hdr R hi hj3 ht1 ht2 hL hN hm2 hsk hkl hw2 hs HPV hFL hnn hF2 hn hj2 hji hcut2 hhas hsk0
  go_enter Try.func32, Try.ntmps32
  go_wp2_with fail
  rw [HW.out]
  with_reducible refine (isLeaf_yes _ Af A nf cf n c).mono ?_
  rintro e w3 ⟨rfl, hb3⟩
  have bd3 : Below w2.heap.size w2 w3 := hb3
  clear x0 x1 x2 hb3
  have x0 := (HB0.out.below bd3 HB0.out.lt).cell (i := 0) (by simp)
  have x1 := (HB0.out.below bd3 HB0.out.lt).cell (i := 1) (by simp)
  have x2 := (HB0.out.below bd3 HB0.out.lt).cell (i := 2) (by simp)
  simp only [List.getElem_cons_zero, List.getElem_cons_succ] at x0 x1 x2
  go_wp2_with fail
  with_reducible refine (HPL.out _ bd3).mono ?_
  rintro e w5 ⟨rfl, hb5⟩
  have bd5 : Below w2.heap.size w2 w5 := hop bd3 hb5
  clear x0 x1 x2 hb5
  have bd : Below w2.heap.size w2 w5.drew := bd5.drew
  go_wp2_with fail
  go_region_held_law (fun w' => w'.cell? ⟨w.heap.size, 1, none⟩ = some (.slice A n c))
    (first | exact HK.out _ bd | exact HK.out _ bd7 | exact HK.out _ bd8 | exact HS8.out _ _ _ | exact HK.out _ (bd.alloc bd.size _))
    (first
      | (go_at_call 48; (with_reducible refine (HCON.out _ bd5).mono ?_); rintro e w7 ⟨⟨A2, c2, rfl, hc7, hm7⟩, hb7⟩; have bd7 : Below w2.heap.size w2 w7 := hop bd5 hb7; have C7 := Lib.hid hc7; have M7 := Lib.hid hm7; clear hb7 hc7 hm7)
      | (go_at_call 44; (with_reducible refine (HABV.out _ bd7 A2 c2 C7.out M7.out).mono ?_); rintro e w8 ⟨⟨q, rfl, hq⟩, hb8⟩; have bd8 : Below w2.heap.size w2 w8 := hop bd7 hb8; have Q8 := Lib.hid (hq.below hb8); clear hb8 hq; obtain ⟨a0, m0, d0, a1, n1, d1, a2, m2', d2, hxf⟩ := page_form 0 q; have XF := Lib.hid hxf; unfold pval; rw [hxf]; clear hxf; have r0 := (HB2.out.below bd8 HB2.out.lt).cell (i := 0) (by simp); have r1 := (HB2.out.below bd8 HB2.out.lt).cell (i := 1) (by simp); have r2 := (HB2.out.below bd8 HB2.out.lt).cell (i := 2) (by simp); have f0 := (HB2.out.below bd8 HB2.out.lt).free 0; have f1 := (HB2.out.below bd8 HB2.out.lt).free 1; have f2 := (HB2.out.below bd8 HB2.out.lt).free 2; have HS8 := Lib.hid (HKS.out _ bd8)))
  have HBE : Hid (∀ u0 u1 u2 : Value, Below w.heap.size w (((w8.setCell ⟨w.heap.size + 1, 0, none⟩ u0).setCell ⟨w.heap.size + 1, 1, none⟩ u1).setCell ⟨w.heap.size + 1, 2, none⟩ u2)) := fun u0 u1 u2 => (((hop HBW.out bd8).setCell (by simp) _).setCell (by simp) _).setCell (by simp) _
  have HQE : Hid (∀ u0 u1 u2 : Value, EOk (((w8.setCell ⟨w.heap.size + 1, 0, none⟩ u0).setCell ⟨w.heap.size + 1, 1, none⟩ u1).setCell ⟨w.heap.size + 1, 2, none⟩ u2) F 1 q) := fun u0 u1 u2 => by
    have := Q8.out.ok
    rw [HF2.out] at this
    have hsz := HSZ.out
    exact this.narrow ((((Spared.refl w8 _).setCell (by omega) _ _).setCell (by omega) _ _).setCell (by omega) _ _)
  have HQV : Hid (pval 0 q = .agg #[.slice a0 m0 d0, .slice a1 n1 d1, .slice a2 m2' d2]) := by show pval _ _ = _; unfold pval; rw [XF.out]
  have HQF : Hid (flats 0 q.els = delL k FL) := by show _ = _; rw [Q8.out.els]; exact HFL.out
  have HQN : Hid (n ≤ q.els.length + 1 ∧ q.els.length ≤ n) := by show _ ∧ _; rw [Q8.out.els, HNL.out]; exact HLEN.out
  simp only [List.getElem_cons_zero, List.getElem_cons_succ] at r0 r1 r2
  go_wp2_with fail
  exact bodyPost_ret (v := pval 0 q) (by rw [HQV.out]; simp [results, Try.results32, go_sem, r0, r1, r2]) rfl ⟨⟨q, rfl, HQE.out _ _ _, Q8.out.inner, HQF.out, HQN.out⟩, HBE.out _ _ _⟩
end Go.Proofs.Ytaeocbgmoijedaa
