/-
  Arguments of this layer: a tuple by value (an object, a relation, a subject: six texts). No conditions.
-/
import Derived.Test.YtehabjiacgibpaaCNmShow
import Derived.Test.YtehabjiacgibpaaCLaOpW
import Derived.Lib.SmallJoins
namespace Go.Proofs.Ytehabjiacgibpaa
open Go.ChangeShapes Go.WideShapes Go.ChangeAt Go.RowKit
section
variable {H : Type} {enc : TypeId × Value → H} {W : World}
set_option maxRecDepth 100000 in
theorem txt_field {n : Nat} {v : Value} {y : DataW H × List MemPlace} (h : DataW.trod enc Try.prog W 0 (fun _ => true) true n 9 [v] = some y) : ∃ l : Txt, v = strV l ∧ l.length ≤ 9223372036854775807 := by
  obtain ⟨s, hs, _, hm⟩ := DataW.trod_string Try.underlying9 h
  injection hs with hs _
  refine ⟨s.data.toList, hs, ?_⟩
  unfold maxLen at hm
  rw [size_list]; exact hm
set_option maxRecDepth 100000 in
theorem open_tuple {v : Value} {d : DataW H} {ps : List MemPlace} {r : Reach} {b0 : Nat} (hval : Value.okWide Try.prog W r b0 30 v) (h : DataW.Trod enc Try.prog W 0 (fun _ => true) true 30 v d ps) :
    ∃ a b c e f g : Txt, v = .agg #[strV a, strV b, strV c, strV e, strV f, strV g] ∧ (a.length ≤ 9223372036854775807 ∧ b.length ≤ 9223372036854775807 ∧ c.length ≤ 9223372036854775807) ∧ e.length ≤ 9223372036854775807 ∧ f.length ≤ 9223372036854775807 ∧ g.length ≤ 9223372036854775807 := by
  obtain ⟨cs, rfl, hsz⟩ := okWide_struct Try.underlying30 hval
  have h6 : cs.toList.length = 6 := by rw [Array.length_toList, hsz]; kernel_rfl
  obtain ⟨fuel, hf⟩ := h
  have hf' : DataW.trod enc Try.prog W 0 (fun _ => true) true fuel 30 cs.toList = some (d, ps) := by simpa [Value.cells] using hf
  obtain ⟨v0, v1, v2, v3, v4, v5, hcs⟩ : ∃ v0 v1 v2 v3 v4 v5, cs.toList = [v0, v1, v2, v3, v4, v5] := by
    match cs.toList, h6 with
    | [a, b, c, d, e, f], _ => exact ⟨a, b, c, d, e, f, rfl⟩
  have ecs : cs = #[v0, v1, v2, v3, v4, v5] := Array.toList_inj.1 hcs
  subst ecs
  have c1 : Try.prog.cellsOf 9 = 1 := by kernel_rfl
  have c2 : Try.prog.cellsOf 26 = 2 := by kernel_rfl
  have c3 : Try.prog.cellsOf 28 = 3 := by kernel_rfl
  obtain ⟨y0, y1, y2, n, _, _, k0, k1, k2⟩ := Go.Deep.trod_struct3 Try.underlying30 hf'
  simp only [c1, c2, c3, List.drop_zero, List.take_succ_cons, List.take_zero, List.drop_succ_cons] at k0 k1 k2
  obtain ⟨z0, z1, n0, _, _, m0, m1⟩ := trod_struct2 Try.underlying26 k0
  simp only [c1, List.drop_zero, List.take_succ_cons, List.take_zero, List.drop_succ_cons] at m0 m1
  obtain ⟨z2, z3, n1, _, _, m2, m3⟩ := trod_struct2 Try.underlying28 k2
  simp only [c1, c2, List.drop_zero, List.take_succ_cons, List.take_zero, List.drop_succ_cons] at m2 m3
  obtain ⟨z4, z5, n2, _, _, m4, m5⟩ := trod_struct2 Try.underlying26 m2
  simp only [c1, List.drop_zero, List.take_succ_cons, List.take_zero, List.drop_succ_cons] at m4 m5
  obtain ⟨a, rfl, ha⟩ := txt_field m0
  obtain ⟨b, rfl, hb⟩ := txt_field m1
  obtain ⟨c, rfl, hc⟩ := txt_field k1
  obtain ⟨e, rfl, he⟩ := txt_field m4
  obtain ⟨f, rfl, hf1⟩ := txt_field m5
  obtain ⟨g, rfl, hg⟩ := txt_field m3
  exact ⟨a, b, c, e, f, g, rfl, ⟨ha, hb, hc⟩, he, hf1, hg⟩
end
end Go.Proofs.Ytehabjiacgibpaa
