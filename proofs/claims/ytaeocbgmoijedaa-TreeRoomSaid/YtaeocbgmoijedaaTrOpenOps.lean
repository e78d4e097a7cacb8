/-
  An argument that is a list of calls of this layer. No conditions.
-/
import Derived.Test.YtaeocbgmoijedaaTrOps
import Derived.Test.YtaeocbgmoijedaaChecked
import Derived.Test.YtaeocbgmoijedaaOpenPieces
import Derived.Lib.SmallJoins
namespace Go.Proofs.Ytaeocbgmoijedaa
open Go.ChangeShapes Go.WideShapes Go.ChangeAt Go.RowKit

section
variable {H : Type} {enc : TypeId × Value → H} {W : World}
theorem int_of_trod {n : Nat} {v : Value} {y : DataW H × List MemPlace} (h : DataW.trod enc Try.prog W 0 (fun _ => true) true n 3 [v] = some y) : ∃ z : Int, v = .int .i64 z ∧ IntOk z := by
  obtain ⟨z, hz, _, wz⟩ := DataW.trod_int Try.underlying3 h
  injection hz with hz _
  exact ⟨z, hz, by simpa [IntOk, Lit.wf, IntKind.min, IntKind.max, IntKind.signed, IntKind.bits] using wz⟩
/-- bytes of a call -/
theorem piece_of_trod {n : Nat} {v : Value} {y : DataW H × List MemPlace} (h : DataW.trod enc Try.prog W 0 (fun _ => true) true n 31 [v] = some y) : ∃ q : Piece, v = pv q ∧ Seen W q.1 q.2.1 ∧ q.2.1.length ≤ 9223372036854775807 := by
  have c8 : Try.prog.cellsOf 5 = 1 := by kernel_rfl
  rcases open_ints Try.underlying31 Try.underlying5 c8 h with ⟨e, _⟩ | ⟨a, len, cap, zs, e, _, hlen, hcm, hzl, _, hcell, hwf⟩
  · injection e with e _
    exact ⟨(none, [], 0), e, .inl rfl, by simp⟩
  · injection e with e _
    rw [if_pos rfl] at hzl
    have hn : len ≤ zs.length := by omega
    have hlr := length_rowBytes hn
    refine ⟨(some a, rowBytes zs len, cap), ?_, row_seen hn hcell hwf, ?_⟩
    · unfold pv; rw [hlr]; exact e
    · show (rowBytes zs len).length ≤ _; rw [hlr]; unfold maxLen at hcm; omega
/-- one call -/
theorem open_top {n : Nat} {cs : List Value} {y : DataW H × List MemPlace} (h : DataW.trod enc Try.prog W 0 (fun _ => true) true n 33 cs = some y) :
    ∃ o : TOp, cs = tcells o ∧ TOk W o := by
  obtain ⟨y0, y1, y2, y3, m, _, hl, h0, h1, h2, h3⟩ := Go.Joins.trod_struct4 Try.underlying33 h
  have hl4 : cs.length = 4 := by rw [hl]; kernel_rfl
  obtain ⟨v0, v1, v2, v3, rfl⟩ : ∃ v0 v1 v2 v3, cs = [v0, v1, v2, v3] := by
    match cs, hl4 with
    | [a, b, c, d], _ => exact ⟨a, b, c, d, rfl⟩
  have ci : Try.prog.cellsOf 3 = 1 := by kernel_rfl
  have cb : Try.prog.cellsOf 31 = 1 := by kernel_rfl
  simp only [ci, cb, List.drop_zero, List.take_succ_cons, List.take_zero, List.drop_succ_cons] at h0 h1 h2 h3
  obtain ⟨z0, rfl, b0⟩ := int_of_trod h0
  obtain ⟨q1, rfl, s1, n1⟩ := piece_of_trod h1
  obtain ⟨q2, rfl, s2, n2⟩ := piece_of_trod h2
  obtain ⟨z3, rfl, b3⟩ := int_of_trod h3
  exact ⟨(z0, q1, q2, z3), rfl, ⟨b0, b3⟩, ⟨s1, n1⟩, s2, n2⟩

set_option maxRecDepth 100000 in
theorem open_topsc {v : Value} {d : DataW H} {ps : List MemPlace} {r : Reach} {b0 : Nat} (hval : Value.okWide Try.prog W r b0 22 v) (h : DataW.Trod enc Try.prog W 0 (fun _ => true) true 22 v d ps) :
    ∃ (A : Option Addr) (l : List TOp) (c : Nat), v = .slice A l.length c ∧ TsSeen W A l ∧ l.length ≤ 9223372036854775807 ∧ l.length ≤ c := by
  have hsl : ∀ cs, v.cells.toList = [cs] → v = cs := by
    obtain ⟨a, n, c, rfl⟩ := okWide_slice Try.underlying22 hval
    intro cs h
    simpa [Value.cells] using h
  obtain ⟨fuel, hf⟩ := h
  have c4 : Try.prog.cellsOf 33 = 4 := by kernel_rfl
  rcases DataW.trod_slice Try.underlying22 hf with ⟨h1, _⟩ | ⟨a, len, cap, elems, rest, n, _, h1, _, _, hlc, hcm, hlen, hel, _⟩
  · obtain rfl := hsl _ h1
    exact ⟨none, [], 0, rfl, .inl rfl, by simp, Nat.le_refl _⟩
  · obtain rfl := hsl _ h1
    have each : ∀ i, i < len → ∃ o : TOp, W.cells? 0 (a.add (i * 4)) 4 = some (tcells o) ∧ TOk W o := by
      intro i hi
      have := hel i hi
      rw [c4, List.getElem?_eq_getElem (by omega)] at this
      obtain ⟨cs, hcs, hy⟩ := Option.bind_eq_some_iff.1 this
      obtain ⟨o, rfl, ho⟩ := open_top hy
      exact ⟨o, hcs, ho⟩
    obtain ⟨f, hfo⟩ := Go.Deep.choose_lt each
    have hl : ((List.range len).map f).length = len := by simp
    refine ⟨some a, (List.range len).map f, cap, by rw [hl], ?_, by rw [hl]; unfold maxLen at hcm; omega, by rw [hl]; exact hlc⟩
    by_cases h0 : len = 0
    · subst h0; exact .inl rfl
    · obtain ⟨b, off, spot⟩ := a
      have hspot : spot = none := by
        have := (World.cells?_some (hfo 0 (by omega)).1).2.2 0 (by decide)
        simpa [Addr.add, tcells] using World.cell?_spot this
      subst hspot
      have hc : ∀ i, i < len → ∀ j, j < 4 → W.cell? ⟨b, off + i * 4 + j, none⟩ = (tcells (f i))[j]? := fun i hi j hj => by
        have := (World.cells?_some (hfo i hi).1).2.2 j hj
        rwa [add_plain, add_plain] at this
      refine .inr ⟨b, off, rfl, block_of_cell (o := off + 0 * 4 + 0) (hc 0 (by omega) 0 (by decide)), fun j hj => ?_⟩
      rw [hl] at hj
      simp only [List.getElem_map, List.getElem_range]
      exact ⟨fun i hi => hc j hj i hi, (hfo j hj).2⟩
theorem open_tops {v : Value} {d : DataW H} {ps : List MemPlace} {r : Reach} {b0 : Nat} (hval : Value.okWide Try.prog W r b0 22 v) (h : DataW.Trod enc Try.prog W 0 (fun _ => true) true 22 v d ps) :
    ∃ (A : Option Addr) (l : List TOp) (c : Nat), v = .slice A l.length c ∧ TsSeen W A l ∧ l.length ≤ 9223372036854775807 := by
  obtain ⟨A, l, c, h1, h2, h3, _⟩ := open_topsc hval h
  exact ⟨A, l, c, h1, h2, h3⟩
end
end Go.Proofs.Ytaeocbgmoijedaa
