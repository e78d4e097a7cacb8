/-
  An argument that is a list of numbers. No conditions.
-/
import Derived.Test.YtdaahapbpnjkfaaGreatCFlat
import Derived.Test.YtdaahapbpnjkfaaGreatCOpenRows
namespace Go.Proofs.YtdaahapbpnjkfaaGreat
open Go.ChangeShapes Go.WideShapes Go.ChangeAt Go.RowKit
theorem open_int_list {H : Type} {enc : TypeId × Value → H} {P : Program} {W : World} {t e : TypeId} {v : Value} {d : DataW H} {ps : List MemPlace} (ht : P.underlying t = some (.slice e)) (he : P.underlying e = some (.int .i64)) (hc : P.cellsOf e = 1)
    {r : Reach} {b0 : Nat} (hval : Value.okWide P W r b0 t v) (h : DataW.Trod enc P W 0 (fun _ => true) true t v d ps) :
    ∃ (A : Option Addr) (l : List Int) (c : Nat), v = .slice A l.length c ∧ Ints W A l ∧ l.length ≤ 9223372036854775807 ∧ ∀ x ∈ l, -9223372036854775808 ≤ x ∧ x ≤ 9223372036854775807 := by
  have hsl : ∀ cs, v.cells.toList = [cs] → v = cs := by
    obtain ⟨a, n, c, rfl⟩ := okWide_slice ht hval
    intro cs h
    simpa [Value.cells] using h
  obtain ⟨fuel, hf⟩ := h
  rcases open_ints ht he hc hf with ⟨h1, h2⟩ | ⟨a, len, cap, zs, h1, hx1, hlen, hx2, hz, h2, hcell, hwf⟩
  · obtain rfl := hsl _ h1
    exact ⟨none, [], 0, rfl, .inl rfl, by simp, by simp⟩
  · obtain rfl := hsl _ h1
    rw [if_pos rfl] at hz
    have hl : (zs.take len).length = len := by simp; omega
    refine ⟨some a, zs.take len, cap, by rw [hl], ?_, ?_, fun x hx => ?_⟩
    · by_cases h0 : len = 0
      · subst h0; exact .inl (by simp)
      · obtain ⟨b, off, rfl, hc'⟩ := ints_at hcell (by omega)
        refine .inr ⟨b, off, rfl, block_of_cell (hc' 0 (by omega)), fun j hj => ?_⟩
        rw [hl] at hj
        have hjz : j < zs.length := by omega
        rw [hc' j (by omega), List.getD_eq_getElem?_getD, List.getElem?_eq_getElem hjz, List.getElem_take]
        rfl
    · rw [hl]; unfold maxLen at *; omega
    · have hm := hwf x (List.mem_of_mem_take hx)
      simpa [Lit.wf, IntKind.min, IntKind.max, IntKind.signed, IntKind.bits] using hm
end Go.Proofs.YtdaahapbpnjkfaaGreat
