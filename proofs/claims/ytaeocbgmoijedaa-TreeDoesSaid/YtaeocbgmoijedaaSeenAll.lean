/-
  A slice of slices of bytes: what it shows, and how that is kept. No program is named here.
-/
import Derived.Test.YtaeocbgmoijedaaOnly
namespace Go.Proofs.Ytaeocbgmoijedaa
open Go.RowKit

/-- A piece: where it begins, its bytes, its capacity. -/
abbrev Piece := Option Addr × List UInt8 × Nat
/-- A slice of n slices of bytes that begins at A shows the pieces. -/
def SeenAll (w : World) (A : Option Addr) (ps : List Piece) : Prop :=
  ps = [] ∨ ∃ b off, A = some ⟨b, off, none⟩ ∧ b < w.heap.size ∧ ∀ j (h : j < ps.length), w.cell? ⟨b, off + j, none⟩ = some (.slice ps[j].1 ps[j].2.1.length ps[j].2.2) ∧ Seen w ps[j].1 ps[j].2.1 ∧ ps[j].2.1.length ≤ ps[j].2.2 ∧ ps[j].2.1.length ≤ 9223372036854775807

theorem SeenAll.at_ {w : World} {A : Option Addr} {ps : List Piece} (h : SeenAll w A ps) (k : Nat) (hk : k < ps.length) :
    ∃ b off, A = some ⟨b, off, none⟩ ∧ b < w.heap.size ∧ w.cell? ⟨b, off + k, none⟩ = some (.slice ps[k].1 ps[k].2.1.length ps[k].2.2) ∧ Seen w ps[k].1 ps[k].2.1 ∧ ps[k].2.1.length ≤ ps[k].2.2 ∧ ps[k].2.1.length ≤ 9223372036854775807 := by
  rcases h with rfl | ⟨b, off, rfl, hb, hc⟩
  · simp at hk
  · exact ⟨b, off, rfl, hb, hc k hk⟩
theorem SeenAll.below {w w' : World} {A : Option Addr} {ps : List Piece} (h : SeenAll w A ps) (hb : Below w.heap.size w w') : SeenAll w' A ps := by
  rcases h with rfl | ⟨b, off, rfl, hlt, hc⟩
  · exact .inl rfl
  · refine .inr ⟨b, off, rfl, by have := hb.size; omega, fun j hj => ?_⟩
    obtain ⟨h1, h2, h3, h4⟩ := hc j hj
    exact ⟨(hb.cell (p := ⟨b, off + j, none⟩) hlt).trans h1, h2.below hb, h3, h4⟩
/-- the first pieces alone -/
theorem SeenAll.take {w : World} {A : Option Addr} {ps : List Piece} (h : SeenAll w A ps) (n : Nat) : SeenAll w A (ps.take n) := by
  rcases h with rfl | ⟨b, off, rfl, hlt, hc⟩
  · exact .inl (by simp)
  · refine .inr ⟨b, off, rfl, hlt, fun j hj => ?_⟩
    rw [List.length_take] at hj
    rw [List.getElem_take]
    exact hc j (by omega)
/-- the bytes of the pieces -/
def bytesOf (ps : List Piece) : List (List UInt8) := ps.map fun q => q.2.1
theorem length_bytesOf (ps : List Piece) : (bytesOf ps).length = ps.length := by simp [bytesOf]
end Go.Proofs.Ytaeocbgmoijedaa
