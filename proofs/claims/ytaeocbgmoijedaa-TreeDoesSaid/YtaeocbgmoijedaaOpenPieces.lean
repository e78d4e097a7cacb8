/-
  An argument that is a list of lists of bytes. No conditions.
-/
import Derived.Test.YtaeocbgmoijedaaSeenAll
import Derived.Test.YtaeocbgmoijedaaClose
import Derived.Deep.Matrix
namespace Go.Proofs.Ytaeocbgmoijedaa
open Go.ChangeShapes Go.WideShapes Go.ChangeAt Go.RowKit

section
variable {H : Type} {enc : TypeId × Value → H} {P : Program}

def rowBytes (zs : List Int) (n : Nat) : List UInt8 := (zs.take n).map fun z => UInt8.ofNat z.toNat
theorem length_rowBytes {zs : List Int} {n : Nat} (h : n ≤ zs.length) : (rowBytes zs n).length = n := by simp [rowBytes]; omega
theorem row_seen {W : World} {a : Addr} {zs : List Int} {n : Nat} (hn : n ≤ zs.length) (hcell : ∀ i, i < zs.length → W.cell? (a.add i) = some (.int .u8 (zs.getD i 0))) (hwf : ∀ z ∈ zs, (Lit.int .u8 z).wf = true) : Seen W (some a) (rowBytes zs n) := by
  by_cases h0 : n = 0
  · subst h0; exact .inl (by simp [rowBytes])
  · obtain ⟨b, off, rfl, hc'⟩ := ints_at hcell (by omega)
    refine .inr ⟨b, off, rfl, block_of_cell (hc' 0 (by omega)), fun j hj => ?_⟩
    rw [length_rowBytes hn] at hj
    rw [hc' j (by omega)]
    have hjz : j < zs.length := by omega
    have hm := hwf zs[j] (List.getElem_mem hjz)
    have hr : 0 ≤ zs[j] ∧ zs[j] ≤ 255 := by simpa [Lit.wf, IntKind.min, IntKind.max, IntKind.signed, IntKind.bits] using hm
    have e : (rowBytes zs n)[j]'(by rw [length_rowBytes hn]; exact hj) = UInt8.ofNat zs[j].toNat := by simp [rowBytes]
    rw [e, List.getD_eq_getElem?_getD, List.getElem?_eq_getElem hjz]
    show some (Value.int .u8 zs[j]) = _
    rw [UInt8.toNat_ofNat']
    congr 2
    omega

/-- with its capacity -/
theorem open_pieces_cap {W : World} {t e q : TypeId} {v : Value} {d : DataW H} {ps : List MemPlace} (ht : P.underlying t = some (.slice e)) (he : P.underlying e = some (.slice q)) (hq : P.underlying q = some (.int .u8)) (ce : P.cellsOf e = 1) (cq : P.cellsOf q = 1)
    {r : Reach} {b0 : Nat} (hval : Value.okWide P W r b0 t v) (h : DataW.Trod enc P W 0 (fun _ => true) true t v d ps) :
    ∃ (A : Option Addr) (l : List Piece) (c : Nat), v = .slice A l.length c ∧ SeenAll W A l ∧ l.length ≤ 9223372036854775807 ∧ l.length ≤ c := by
  have hsl : ∀ cs, v.cells.toList = [cs] → v = cs := by
    obtain ⟨a, n, c, rfl⟩ := okWide_slice ht hval
    intro cs h
    simpa [Value.cells] using h
  obtain ⟨fuel, hf⟩ := h
  rcases Go.Deep.open_int_rows ht he hq ce cq hf with ⟨h1, _⟩ | ⟨a, len, cap, A, L, C, Z, h1, _, hlc, hcm, _, hrow⟩
  · obtain rfl := hsl _ h1
    exact ⟨none, [], 0, rfl, .inl rfl, by simp, by simp⟩
  · obtain rfl := hsl _ h1
    have hl : ((List.range len).map fun j => ((A j, rowBytes (Z j) (L j), C j) : Piece)).length = len := by simp
    refine ⟨some a, (List.range len).map fun j => ((A j, rowBytes (Z j) (L j), C j) : Piece), cap, by rw [hl], ?_, by rw [hl]; unfold maxLen at hcm; omega, by rw [hl]; exact hlc⟩
    by_cases h0 : len = 0
    · subst h0; exact .inl rfl
    · obtain ⟨b, off, spot⟩ := a
      have hspot : spot = none := by simpa [Addr.add] using World.cell?_spot (hrow 0 (by omega)).1
      subst hspot
      refine .inr ⟨b, off, rfl, block_of_cell (o := off) (by have := (hrow 0 (by omega)).1; rw [add_plain] at this; exact this), fun j hj => ?_⟩
      rw [hl] at hj
      obtain ⟨hc, hLC, hCm, hZ, hwf, hnone, hsome⟩ := hrow j (by omega)
      have hLZ : L j ≤ (Z j).length := by omega
      simp only [List.getElem_map, List.getElem_range]
      rw [length_rowBytes hLZ]
      rw [add_plain] at hc
      refine ⟨hc, ?_, hLC, by unfold maxLen at hCm; omega⟩
      cases hA : A j with
      | none =>
        have := hnone hA
        exact .inl (List.eq_nil_of_length_eq_zero (by rw [length_rowBytes hLZ]; omega))
      | some a' =>
        refine row_seen hLZ (fun i hi => ?_) hwf
        exact (hsome a' hA).2 i (by omega)
theorem open_pieces {W : World} {t e q : TypeId} {v : Value} {d : DataW H} {ps : List MemPlace} (ht : P.underlying t = some (.slice e)) (he : P.underlying e = some (.slice q)) (hq : P.underlying q = some (.int .u8)) (ce : P.cellsOf e = 1) (cq : P.cellsOf q = 1)
    {r : Reach} {b0 : Nat} (hval : Value.okWide P W r b0 t v) (h : DataW.Trod enc P W 0 (fun _ => true) true t v d ps) :
    ∃ (A : Option Addr) (l : List Piece) (c : Nat), v = .slice A l.length c ∧ SeenAll W A l ∧ l.length ≤ 9223372036854775807 := by
  obtain ⟨A, l, c, h1, h2, h3, _⟩ := open_pieces_cap ht he hq ce cq hval h
  exact ⟨A, l, c, h1, h2, h3⟩
end
end Go.Proofs.Ytaeocbgmoijedaa
