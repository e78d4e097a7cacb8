/-
  A slice of calls: what it shows. No conditions.
-/
import Derived.Test.YtfcbkefpjfmgjaaFlat
import Derived.Test.YtfcbkefpjfmgjaaGather
namespace Go.Proofs.Ytfcbkefpjfmgjaa
open Go.RowKit

/-- a call: its kind, its number, its bytes, its picks -/
abbrev POp := Int × Int × Piece × (Option Addr × List Int × Nat)
/-- what is known of a call -/
def OpOk (w : World) (o : POp) : Prop :=
  (-9223372036854775808 ≤ o.1 ∧ o.1 ≤ 9223372036854775807) ∧ (-9223372036854775808 ≤ o.2.1 ∧ o.2.1 ≤ 9223372036854775807) ∧
  (Seen w o.2.2.1.1 o.2.2.1.2.1 ∧ o.2.2.1.2.1.length ≤ 9223372036854775807) ∧
  (Ints w o.2.2.2.1 o.2.2.2.2.1 ∧ o.2.2.2.2.1.length ≤ 9223372036854775807 ∧ ∀ x ∈ o.2.2.2.2.1, -9223372036854775808 ≤ x ∧ x ≤ 9223372036854775807)
/-- A slice that begins at A shows the calls. -/
def OpsSeen (w : World) (A : Option Addr) (l : List POp) : Prop :=
  l = [] ∨ ∃ b off, A = some ⟨b, off, none⟩ ∧ b < w.heap.size ∧ ∀ j (h : j < l.length), w.cell? ⟨b, off + j * 4, none⟩ = some (.int .i64 l[j].1) ∧ w.cell? ⟨b, off + j * 4 + 1, none⟩ = some (.int .i64 l[j].2.1) ∧
    w.cell? ⟨b, off + j * 4 + 2, none⟩ = some (pv l[j].2.2.1) ∧ w.cell? ⟨b, off + j * 4 + 3, none⟩ = some (.slice l[j].2.2.2.1 l[j].2.2.2.2.1.length l[j].2.2.2.2.2) ∧ OpOk w l[j]
theorem OpsSeen.at_ {w : World} {A : Option Addr} {l : List POp} (h : OpsSeen w A l) (k : Nat) (hk : k < l.length) : ∃ b off, A = some ⟨b, off, none⟩ ∧ OpOk w l[k] ∧ ∀ w', Below w.heap.size w w' → w'.cell? ⟨b, off + k * 4, none⟩ = some (.int .i64 l[k].1) ∧ w'.cell? ⟨b, off + k * 4 + 1, none⟩ = some (.int .i64 l[k].2.1) ∧
    w'.cell? ⟨b, off + k * 4 + 2, none⟩ = some (pv l[k].2.2.1) ∧ w'.cell? ⟨b, off + k * 4 + 3, none⟩ = some (.slice l[k].2.2.2.1 l[k].2.2.2.2.1.length l[k].2.2.2.2.2) := by
  rcases h with rfl | ⟨b, off, rfl, hb, hc⟩
  · simp at hk
  · obtain ⟨h1, h2, h3, h4, h5⟩ := hc k hk
    refine ⟨b, off, rfl, h5, fun w' hbl => ?_⟩
    have e : ∀ o, w'.cell? ⟨b, o, none⟩ = w.cell? ⟨b, o, none⟩ := fun o => hbl.cell (p := ⟨b, o, none⟩) hb
    exact ⟨(e _).trans h1, (e _).trans h2, (e _).trans h3, (e _).trans h4⟩
end Go.Proofs.Ytfcbkefpjfmgjaa
