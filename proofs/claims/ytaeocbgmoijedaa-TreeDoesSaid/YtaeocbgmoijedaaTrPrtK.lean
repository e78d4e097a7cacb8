/-
  parts of a page that refers to pages: the page itself, or two that have half of it each. Conditions: at most 16 of what it has, each of which may stand below a page.
-/
import Derived.Test.YtaeocbgmoijedaaTrSmall
import Derived.Test.YtaeocbgmoijedaaTrConK
import Derived.Test.YtaeocbgmoijedaaTrOwn
import Derived.Test.YtaeocbgmoijedaaTrGet
import Derived.Deep.RegionHeldLaw
import Derived.Deep.RegionHeld3
namespace Go.Proofs.Ytaeocbgmoijedaa
open Go.RowKit

/-- a clone of what is there -/
theorem clonedK (h : Nat) (W : World) (F : Nat → Prop) (hF : ∀ b, F b → b < W.heap.size) (A : Option Addr) (l : List (El (h + 1))) (n c : Nat) (hn : l.length = n) (h0 : 0 < n) (h1 : n ≤ 1000000) (hc : Cells W F A (rowCells (h + 1) l)) :
    Calls Try.prog 52 #[.slice A n c] W fun e w' => (∃ A1 c1, e = .returned (.slice A1 n c1) ∧ Cells w' F A1 (rowCells (h + 1) l) ∧ n ≤ c1) ∧ Below W.heap.size W w' := by
  have hlen : (rowCells (h + 1) l).length = n * 3 := by rw [rowCells_length, hn]; rfl
  obtain ⟨b, off, rfl, _⟩ := hc.at_ 0 (by rw [hlen]; omega)
  refine (cloneK_any W F ⟨b, off, none⟩ (rowCells (h + 1) l) n c hlen hc (rowCells_one (h + 1) l) h1).mono ?_
  rintro e w' ⟨⟨A1, c1, rfl, hown⟩, hb⟩
  obtain ⟨h2, h3⟩ := own_cells hown
  exact ⟨⟨A1, c1, rfl, h2.moved (.refl _ _) (fun i hi => .inl (hF i hi)), h3⟩, hb⟩

set_option maxHeartbeats 1000000 in
set_option maxRecDepth 100000 in
theorem halfK_any (h : Nat) (w : World) (F : Nat → Prop) (hF : ∀ b, F b → b < w.heap.size) (p : Pg (h + 1)) (hp : EOk w F ((h + 1) + 1) p) (hin : Inner ((h + 1) + 1) p) (h8 : 8 < p.els.length) (h16 : p.els.length ≤ 16) :
    Calls Try.prog 31 #[pval (h + 1) p] w fun e w' => (∃ (A : Option Addr) (c : Nat) (x y : Pg (h + 1)), e = .returned (.slice A 2 c) ∧ 2 ≤ c ∧ Cells w' F A (rowCells ((h + 1) + 1) [x, y]) ∧ IsPg w' F (h + 1) (p.els.take (p.els.length / 2)) x ∧ IsPg w' F (h + 1) (p.els.drop (p.els.length / 2)) y) ∧ Below w.heap.size w w' := by
  obtain ⟨f, A, els, c⟩ := p
  obtain ⟨h1, h2, h3, h4⟩ := hp
  dsimp only at h1 h2 h3 h4 h8 h16 ⊢
  obtain ⟨m1, hm1⟩ : ∃ m1, m1 = els.length / 2 := ⟨_, rfl⟩
  obtain ⟨n, hn⟩ : ∃ n, n = els.length := ⟨_, rfl⟩
  obtain ⟨m2, hm2⟩ : ∃ m2, m2 = n - m1 := ⟨_, rfl⟩
  rw [← hm1]
  have hq : (n : Int) / 2 = (m1 : Int) := by omega
  obtain ⟨i0, z0, R⟩ := rowK
  have hcut1 : ∀ W, (Instr.slice 53 (.slice A n c) none (some (.int .i64 (m1 : Int))) none).run Try.prog W = .ok (.slice A m1 c) W := R.head A n c m1 (by omega)
  have hcut2 := R.tail A n c m1 (by omega)
  have hdr := h2.drop m1 3 c (by rw [rowCells_length]; exact Nat.mul_le_mul_right _ h3)
  have htk := h2.take (m1 * 3)
  rw [show m1 * 3 = m1 * esize (h + 1) from rfl] at hdr htk
  rw [rowCells_drop] at hdr
  rw [rowCells_take] at htk
  rw [show (fun a : Addr => a.add (m1 * esize (h + 1))) = (fun a : Addr => a.add (m1 * 3)) from rfl] at hdr
  rw [← hm2] at hcut2
  generalize (if c = m1 then A else A.map fun a => a.add (m1 * 3)) = A' at *
  have HT := Lib.hid htk
  have HDR := Lib.hid hdr
  have HCL1 : Hid (∀ W, Below w.heap.size w W → Calls Try.prog 52 #[.slice A m1 c] W fun e w' => (∃ A1 c1, e = .returned (.slice A1 m1 c1) ∧ Cells w' F A1 (rowCells (h + 1) (els.take m1)) ∧ m1 ≤ c1) ∧ Below W.heap.size W w') := fun W hW =>
    clonedK h W F (fun b hb => Nat.lt_of_lt_of_le (hF b hb) hW.size) A _ m1 c (by rw [List.length_take]; omega) (by omega) (by omega) (HT.out.below hW)
  have HCL2 : Hid (∀ W, Below w.heap.size w W → Calls Try.prog 52 #[.slice A' m2 (c - m1)] W fun e w' => (∃ A1 c1, e = .returned (.slice A1 m2 c1) ∧ Cells w' F A1 (rowCells (h + 1) (els.drop m1)) ∧ m2 ≤ c1) ∧ Below W.heap.size W w') := fun W hW =>
    clonedK h W F (fun b hb => Nat.lt_of_lt_of_le (hF b hb) hW.size) A' _ m2 (c - m1) (by rw [List.length_drop]; omega) (by omega) (by omega) (HDR.out.below hW)
  have HLF1 : Hid (∀ W, Below w.heap.size w W → ∀ A1 c1, Cells W F A1 (rowCells (h + 1) (els.take m1)) → m1 ≤ c1 → Calls Try.prog 45 #[.slice A1 m1 c1] W fun e w' => (∃ p : Pg (h + 1), e = .returned (pval (h + 1) p) ∧ IsPg W F (h + 1) (els.take m1) p) ∧ Below W.heap.size W w') := fun W hW A1 c1 hc hm =>
    above_any W F h A1 (els.take m1) m1 c1 hc (AllOk.below (AllOk.take h4 m1) hW) (fun x hx => hin.full (List.mem_of_mem_take hx)) (by rw [List.length_take]; omega) hm (by omega)
  have HLF2 : Hid (∀ W, Below w.heap.size w W → ∀ A1 c1, Cells W F A1 (rowCells (h + 1) (els.drop m1)) → m2 ≤ c1 → Calls Try.prog 45 #[.slice A1 m2 c1] W fun e w' => (∃ p : Pg (h + 1), e = .returned (pval (h + 1) p) ∧ IsPg W F (h + 1) (els.drop m1) p) ∧ Below W.heap.size W w') := fun W hW A1 c1 hc hm =>
    above_any W F h A1 (els.drop m1) m2 c1 hc (AllOk.below (AllOk.drop h4 m1) hW) (fun x hx => hin.full (List.mem_of_mem_drop hx)) (by rw [List.length_drop]; omega) hm (by omega)
  have HPV : Hid (pval (h + 1) ⟨f, A, els, c⟩ = .agg #[.slice f.1 f.2.1.length f.2.2, .slice none 0 0, .slice A n c]) := by rw [hn]; rfl
  have HFB : Hid (∀ b, F b → b < w.heap.size) := hF
  have hn8 : 8 < n := by omega
  have hn16 : n ≤ 16 := by omega
  have hni : ((n : Int) ≤ 8) = False := by simp; omega
  rw [HPV.out]
  have HM1 := Lib.hid hm1
  have HM2 := Lib.hid hm2
  clear hF h1 h2 h3 h4 htk hdr R hin hn h8 h16 hm1 hm2
  generalize f.1 = Af at *
  generalize f.2.1.length = nf at *
  generalize f.2.2 = cf at *
  obtain ⟨w1, hw1⟩ : ∃ w1, w1 = w.alloc (.cells #[.slice Af nf cf, .slice none 0 0, .slice A n c] 55) := ⟨_, rfl⟩
  have HW : Hid (w.alloc (.cells #[.slice Af nf cf, .slice none 0 0, .slice A n c] 55) = w1) := hw1.symm
  have HB1 : Hid (Blk w1 w.heap.size [.slice Af nf cf, .slice none 0 0, .slice A n c] 55) := by rw [hw1]; exact Blk.new w _ _
  have HBW : Hid (Below w.heap.size w w1) := by rw [hw1]; exact (Below.refl _ _).alloc (Nat.le_refl _) _
  clear hw1
  have k1 := HB1.out.cell (i := 2) (by simp)
  have k0 := HB1.out.cell (i := 0) (by simp)
  have k2 := HB1.out.cell (i := 1) (by simp)
  simp only [List.getElem_cons_zero, List.getElem_cons_succ] at k0 k1 k2
  go_enter Try.func31, Try.ntmps31
  go_wp2_with fail
  rw [HW.out]
  refine (count_node _ Af A nf cf n c (by omega)).mono ?_
  rintro e w3 ⟨rfl, hb3⟩
  have B3 := Lib.hid (HB1.out.below hb3 HB1.out.lt)
  have W3 := Lib.hid (hop HBW.out hb3)
  clear hb3 k0 k1 k2 HB1
  have k1 := B3.out.cell (i := 2) (by simp)
  have k0 := B3.out.cell (i := 0) (by simp)
  have k2 := B3.out.cell (i := 1) (by simp)
  simp only [List.getElem_cons_zero, List.getElem_cons_succ] at k0 k1 k2
  go_wp2_with fail
  refine (count_node _ Af A nf cf n c (by omega)).mono ?_
  rintro e w4 ⟨rfl, hb4⟩
  have B4 := Lib.hid (B3.out.below hb4 B3.out.lt)
  have W4 := Lib.hid (hop W3.out hb4)
  clear hb4 k0 k1 k2 B3
  have k1 := B4.out.cell (i := 2) (by simp)
  have k0 := B4.out.cell (i := 0) (by simp)
  have k2 := B4.out.cell (i := 1) (by simp)
  simp only [List.getElem_cons_zero, List.getElem_cons_succ] at k0 k1 k2
  go_wp2_with fail
  refine (isLeaf_no _ Af none A nf cf 0 0 n c (by omega)).mono ?_
  rintro e w5 ⟨rfl, hb5⟩
  have B5 := Lib.hid (B4.out.below hb5 B4.out.lt)
  have W5 := Lib.hid (hop W4.out hb5)
  clear hb5 k0 k1 k2 B4
  have k1 := B5.out.cell (i := 2) (by simp)
  simp only [List.getElem_cons_zero, List.getElem_cons_succ] at k1
  go_wp2_with fail
  have bd : Below w5.heap.size w5 w5.drew := (Below.refl _ _).drew
  have HK : Hid (∀ W, Below w5.heap.size w5 W → W.cell? ⟨w.heap.size, 2, none⟩ = some (.slice A n c)) := fun W hW => (B5.out.below hW B5.out.lt).cell (i := 2) (by simp)
  go_region_held_law (fun w' => w'.cell? ⟨w.heap.size, 2, none⟩ = some (.slice A n c))
    (first | exact HK.out _ bd | exact HK.out _ bd6 | exact HK.out _ bd7 | exact HK.out _ bd8 | exact HK.out _ bd9 | go_keep)
    (first
      | (go_at_call 52; (with_reducible refine (HCL1.out _ (hop W5.out bd)).mono ?_); rintro e w6 ⟨⟨A1, c1, rfl, hc6, hm6⟩, hb6⟩; have bd6 : Below w5.heap.size w5 w6 := undrew hb6; have C6 := Lib.hid hc6; have M6 := Lib.hid hm6; clear hb6 hc6 hm6)
      | (go_at_call 45; (with_reducible refine (HLF1.out _ (hop W5.out bd6) A1 c1 C6.out M6.out).mono ?_); rintro e w7 ⟨⟨x, rfl, hx⟩, hb7⟩; have bd7 : Below w5.heap.size w5 w7 := hop bd6 hb7; have X7 := Lib.hid (hx.below hb7); clear hb7 hx)
      | (go_at_call 52; (with_reducible refine (HCL2.out _ (hop W5.out bd7)).mono ?_); rintro e w8 ⟨⟨A2, c2, rfl, hc8, hm8⟩, hb8⟩; have bd8 : Below w5.heap.size w5 w8 := hop bd7 hb8; have C8 := Lib.hid hc8; have M8 := Lib.hid hm8; have X8 := Lib.hid (X7.out.below hb8); clear hb8 hc8 hm8)
      | (go_at_call 45; (with_reducible refine (HLF2.out _ (hop W5.out bd8) A2 c2 C8.out M8.out).mono ?_); rintro e w9 ⟨⟨y, rfl, hy⟩, hb9⟩; have bd9 : Below w5.heap.size w5 w9 := hop bd8 hb9; have X9 := Lib.hid (X8.out.below hb9); have Y9 := Lib.hid (hy.below hb9); clear hb9 hy; obtain ⟨a0, m0, d0, a1, n1, d1, a2, m2', d2, hxf⟩ := page_form (h + 1) x; obtain ⟨e0, p0, q0, e1, p1, q1, e2, p2, q2, hyf⟩ := page_form (h + 1) y; have XF := Lib.hid hxf; have YF := Lib.hid hyf; unfold pval; rw [hxf, hyf]; clear hxf hyf))
  have HRC : Hid (rowCells ((h + 1) + 1) [x, y] = [.slice a0 m0 d0, .slice a1 n1 d1, .slice a2 m2' d2, .slice e0 p0 q0, .slice e1 p1 q1, .slice e2 p2 q2]) := by
    exact (rowCells_two ((h + 1) + 1) x y).trans (by rw [XF.out, YF.out]; rfl)
  have HBA : Hid (Below w.heap.size w (w9.alloc (.cells #[.slice a0 m0 d0, .slice a1 n1 d1, .slice a2 m2' d2, .slice e0 p0 q0, .slice e1 p1 q1, .slice e2 p2 q2] 55))) := (hop W5.out bd9).alloc (hop W5.out bd9).size _
  have HBB : Hid (Below w9.heap.size w9 (w9.alloc (.cells #[.slice a0 m0 d0, .slice a1 n1 d1, .slice a2 m2' d2, .slice e0 p0 q0, .slice e1 p1 q1, .slice e2 p2 q2] 55))) := (Below.refl _ _).alloc (Nat.le_refl _) _
  have HCE : Hid (Cells (w9.alloc (.cells #[.slice a0 m0 d0, .slice a1 n1 d1, .slice a2 m2' d2, .slice e0 p0 q0, .slice e1 p1 q1, .slice e2 p2 q2] 55)) F (some ⟨w9.heap.size, 0, none⟩) (rowCells ((h + 1) + 1) [x, y])) := by
    rw [HRC.out]
    exact cells_new w9 F _ _ (fun hf => by have := HFB.out _ hf; have := (hop W5.out bd9).size; omega)
  go_wp2_with fail
  go_ret
  exact ⟨⟨some ⟨w9.heap.size, 0, none⟩, 2, x, y, rfl, Nat.le_refl _, HCE.out, X9.out.below HBB.out, Y9.out.below HBB.out⟩, HBA.out⟩

set_option maxHeartbeats 1000000 in
set_option maxRecDepth 100000 in
theorem keepK_any (h : Nat) (w : World) (F : Nat → Prop) (hF : ∀ b, F b → b < w.heap.size) (p : Pg (h + 1)) (h8 : p.els.length ≤ 8) :
    Calls Try.prog 31 #[pval (h + 1) p] w fun e w' => (∃ (A : Option Addr) (c : Nat), e = .returned (.slice A 1 c) ∧ 1 ≤ c ∧ Cells w' F A (rowCells ((h + 1) + 1) [p])) ∧ Below w.heap.size w w' := by
  have HRC0 := Lib.hid (rowCells_single ((h + 1) + 1) p)
  obtain ⟨f, A, els, c⟩ := p
  dsimp only at h8
  obtain ⟨n, hn⟩ : ∃ n, n = els.length := ⟨_, rfl⟩
  have HPV : Hid (pval (h + 1) ⟨f, A, els, c⟩ = .agg #[.slice f.1 f.2.1.length f.2.2, .slice none 0 0, .slice A n c]) := by rw [hn]; rfl
  have HRC : Hid (rowCells ((h + 1) + 1) [(⟨f, A, els, c⟩ : Pg (h + 1))] = [.slice f.1 f.2.1.length f.2.2, .slice none 0 0, .slice A n c]) := by rw [hn]; exact HRC0.out
  have HFB : Hid (∀ b, F b → b < w.heap.size) := hF
  have hn8 : n ≤ 8 := by omega
  have hni : ((n : Int) ≤ 8) = True := by simp; omega
  rw [HPV.out]
  clear hF hn h8 HRC0
  generalize f.1 = Af at *
  generalize f.2.1.length = nf at *
  generalize f.2.2 = cf at *
  obtain ⟨w1, hw1⟩ : ∃ w1, w1 = w.alloc (.cells #[.slice Af nf cf, .slice none 0 0, .slice A n c] 55) := ⟨_, rfl⟩
  have HW : Hid (w.alloc (.cells #[.slice Af nf cf, .slice none 0 0, .slice A n c] 55) = w1) := hw1.symm
  have HB1 : Hid (Blk w1 w.heap.size [.slice Af nf cf, .slice none 0 0, .slice A n c] 55) := by rw [hw1]; exact Blk.new w _ _
  have HBW : Hid (Below w.heap.size w w1) := by rw [hw1]; exact (Below.refl _ _).alloc (Nat.le_refl _) _
  clear hw1
  have k1 := HB1.out.cell (i := 2) (by simp)
  have k0 := HB1.out.cell (i := 0) (by simp)
  have k2 := HB1.out.cell (i := 1) (by simp)
  simp only [List.getElem_cons_zero, List.getElem_cons_succ] at k0 k1 k2
  go_enter Try.func31, Try.ntmps31
  go_wp2_with fail
  rw [HW.out]
  refine (count_node _ Af A nf cf n c (by omega)).mono ?_
  rintro e w3 ⟨rfl, hb3⟩
  have B3 := Lib.hid (HB1.out.below hb3 HB1.out.lt)
  have W3 := Lib.hid (hop HBW.out hb3)
  clear hb3 k0 k1 k2 HB1
  have k1 := B3.out.cell (i := 2) (by simp)
  have k0 := B3.out.cell (i := 0) (by simp)
  have k2 := B3.out.cell (i := 1) (by simp)
  simp only [List.getElem_cons_zero, List.getElem_cons_succ] at k0 k1 k2
  go_wp2_with fail
  refine (count_node _ Af A nf cf n c (by omega)).mono ?_
  rintro e w4 ⟨rfl, hb4⟩
  have B4 := Lib.hid (B3.out.below hb4 B3.out.lt)
  have W4 := Lib.hid (hop W3.out hb4)
  clear hb4 k0 k1 k2 B3
  have k1 := B4.out.cell (i := 2) (by simp)
  have k0 := B4.out.cell (i := 0) (by simp)
  have k2 := B4.out.cell (i := 1) (by simp)
  simp only [List.getElem_cons_zero, List.getElem_cons_succ] at k0 k1 k2
  have HBA : Hid (Below w.heap.size w (w4.alloc (.cells #[.slice Af nf cf, .slice none 0 0, .slice A n c] 55))) := W4.out.alloc W4.out.size _
  have HCE : Hid (Cells (w4.alloc (.cells #[.slice Af nf cf, .slice none 0 0, .slice A n c] 55)) F (some ⟨w4.heap.size, 0, none⟩) [.slice Af nf cf, .slice none 0 0, .slice A n c]) :=
    cells_new w4 F _ _ (fun hf => by have := HFB.out _ hf; have := W4.out.size; omega)
  go_wp2_with fail
  go_ret
  refine ⟨⟨some ⟨w4.heap.size, 0, none⟩, 1, rfl, Nat.le_refl _, ?_⟩, HBA.out⟩
  rw [HRC.out]
  exact HCE.out
end Go.Proofs.Ytaeocbgmoijedaa
