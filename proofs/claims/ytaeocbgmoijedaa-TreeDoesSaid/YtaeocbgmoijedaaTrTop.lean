/-
  top: the root that pages are reached through: the page itself, or one above the two. Conditions: as each says.
-/
import Derived.Test.YtaeocbgmoijedaaTrJnK
namespace Go.Proofs.Ytaeocbgmoijedaa
open Go.RowKit

set_option maxHeartbeats 400000 in
theorem top_walk (w : World) (b off c : Nat) (A0 A1 A2 : Option Addr) (n0 c0 n1 c1 n2 c2 : Nat) (h0 : w.cell? ⟨b, off, none⟩ = some (.slice A0 n0 c0)) (h1 : w.cell? ⟨b, off + 1, none⟩ = some (.slice A1 n1 c1)) (h2 : w.cell? ⟨b, off + 2, none⟩ = some (.slice A2 n2 c2)) (hb : b < w.heap.size) :
    Calls Try.prog 30 #[.slice (some ⟨b, off, none⟩) 1 c] w fun e w' => e = .returned (.agg #[.slice A0 n0 c0, .slice A1 n1 c1, .slice A2 n2 c2]) ∧ Below w.heap.size w w' := by
  have hne : w.heap.size ≠ b := by omega
  go_enter Try.func30, Try.ntmps30
  go_wp2_with fail
  exact bodyPost_ret (v := .agg #[.slice A0 n0 c0, .slice A1 n1 c1, .slice A2 n2 c2]) (by simp [results, Try.results30, go_sem]) rfl ⟨rfl, (Below.refl _ _).alloc (Nat.le_refl _) _⟩

theorem top_one (w : World) (F : Nat → Prop) (h : Nat) (p : Pg h) (A : Option Addr) (c : Nat) (hc : Cells w F A (rowCells (h + 1) [p])) :
    Calls Try.prog 30 #[.slice A 1 c] w fun e w' => e = .returned (pval h p) ∧ Below w.heap.size w w' := by
  obtain ⟨b, off, rfl, hb, _, hcell⟩ := hc.elem 0 (Nat.zero_lt_one : 0 < 1)
  obtain ⟨A0, n0, c0, A1, n1, c1, A2, n2, c2, hv⟩ := page_form h p
  have k : ∀ j, j < 3 → w.cell? ⟨b, off + 0 * 3 + j, none⟩ = ([.slice A0 n0 c0, .slice A1 n1 c1, .slice A2 n2 c2] : List Value)[j]? := fun j hj => (hcell j hj).trans (by show (ecells (h + 1) p)[j]? = _; rw [hv])
  have k0 := k 0 (by decide)
  have k1 := k 1 (by decide)
  have k2 := k 2 (by decide)
  rw [Nat.zero_mul, Nat.add_zero] at k0 k1 k2
  refine (top_walk w b off c A0 A1 A2 n0 c0 n1 c1 n2 c2 k0 k1 k2 hb).mono ?_
  rintro e w' ⟨rfl, hb'⟩
  exact ⟨by unfold pval; rw [hv], hb'⟩

set_option maxHeartbeats 400000 in
theorem top_two (w : World) (F : Nat → Prop) (hF : ∀ b, F b → b < w.heap.size) (h : Nat) (A : Option Addr) (c n : Nat) (l : List (El (h + 1))) (hc : Cells w F A (rowCells (h + 1) l)) (hok : AllOk w F (h + 1) l) (hf : ∀ x ∈ l, Full (h + 1) x) (hn : l.length = n) (h2 : n = 2) (hcap : n ≤ c) :
    Calls Try.prog 30 #[.slice A n c] w (PageOut w F (h + 1) l) := by
  obtain ⟨w2, hw2⟩ : ∃ w2, w2 = w.alloc (.cells #[.slice none 0 0, .slice none 0 0, .slice none 0 0] 55) := ⟨_, rfl⟩
  have HBW : Hid (Below w.heap.size w w2) := by rw [hw2]; exact (Below.refl _ _).alloc (Nat.le_refl _) _
  have hok2 : AllOk w2 (Wider w w2 F) (h + 1) l := fun x hx => EOk.wider (hok x hx) HBW.out
  have hF2 := Wider.lt hF HBW.out.size
  have hc2 : Cells w2 (Wider w w2 F) A (rowCells (h + 1) l) := hc.moved (.of_below HBW.out F) Wider.new
  obtain ⟨F2, hF2e⟩ : ∃ F2, F2 = Wider w w2 F := ⟨_, rfl⟩
  have HF2 := Lib.hid hF2e
  rw [← hF2e] at hok2 hc2 hF2
  have HABV : Hid (Calls Try.prog 45 #[.slice A n c] w2 fun e w' => (∃ q : Pg (h + 1), e = .returned (pval (h + 1) q) ∧ IsPg w2 F2 (h + 1) l q) ∧ Below w2.heap.size w2 w') :=
    above_any w2 F2 h A l n c hc2 hok2 hf hn hcap (by omega)
  have HB2 : Hid (Blk w2 w.heap.size [.slice none 0 0, .slice none 0 0, .slice none 0 0] 55) := by rw [hw2]; exact Blk.new w _ _
  have HSZ : Hid (w2.heap.size = w.heap.size + 1) := by rw [hw2]; show _ = _; simp
  have HW : Hid (w.alloc (.cells #[.slice none 0 0, .slice none 0 0, .slice none 0 0] 55) = w2) := hw2.symm
  have hne : ((n : Int) == 1) = false := by rw [beq_eq_false_iff_ne]; omega
  clear hF2e hF hc hok hf hn h2 hok2 hc2 hw2 hF2
  go_enter Try.func30, Try.ntmps30
  go_wp2_with fail
  rw [HW.out]
  with_reducible refine (HABV.out).mono ?_
  rintro e w5 ⟨⟨q, rfl, hq⟩, hb5⟩
  have bd5 : Below w2.heap.size w2 w5 := hb5
  have Q5 := Lib.hid (hq.below hb5)
  clear hb5 hq
  obtain ⟨a0, m0, d0, a1, n1, d1, a2, m2', d2, hxf⟩ := page_form (h + 1) q
  have HQV : Hid (pval (h + 1) q = .agg #[.slice a0 m0 d0, .slice a1 n1 d1, .slice a2 m2' d2]) := by show pval _ _ = _; unfold pval; rw [hxf]
  rw [HQV.out]
  clear hxf
  have r0 := (HB2.out.below bd5 HB2.out.lt).cell (i := 0) (by simp)
  have r1 := (HB2.out.below bd5 HB2.out.lt).cell (i := 1) (by simp)
  have r2 := (HB2.out.below bd5 HB2.out.lt).cell (i := 2) (by simp)
  have f0 := (HB2.out.below bd5 HB2.out.lt).free 0
  have f1 := (HB2.out.below bd5 HB2.out.lt).free 1
  have f2 := (HB2.out.below bd5 HB2.out.lt).free 2
  simp only [List.getElem_cons_zero, List.getElem_cons_succ] at r0 r1 r2
  have HBE : Hid (∀ u0 u1 u2 : Value, Below w.heap.size w (((w5.setCell ⟨w.heap.size, 0, none⟩ u0).setCell ⟨w.heap.size, 1, none⟩ u1).setCell ⟨w.heap.size, 2, none⟩ u2)) := fun u0 u1 u2 => (((hop HBW.out bd5).setCell (Nat.le_refl _) _).setCell (Nat.le_refl _) _).setCell (Nat.le_refl _) _
  have HQE : Hid (∀ u0 u1 u2 : Value, IsPg (((w5.setCell ⟨w.heap.size, 0, none⟩ u0).setCell ⟨w.heap.size, 1, none⟩ u1).setCell ⟨w.heap.size, 2, none⟩ u2) F (h + 1) l q) := fun u0 u1 u2 => by
    refine ⟨Q5.out.els, ?_, Q5.out.inner⟩
    have := Q5.out.ok
    rw [HF2.out] at this
    have hsz := HSZ.out
    exact this.narrow ((((Spared.refl w5 _).setCell (by omega) _ _).setCell (by omega) _ _).setCell (by omega) _ _)
  go_wp2_with fail
  exact bodyPost_ret (v := pval (h + 1) q) (by rw [HQV.out]; simp [results, Try.results30, go_sem, r0, r1, r2]) rfl ⟨⟨q, rfl, HQE.out _ _ _⟩, HBE.out _ _ _⟩
end Go.Proofs.Ytaeocbgmoijedaa
