/-
  Texts of slices, and slices that were appended to: what every seat's walks share. Conditions: as each says.
-/
import Derived.Test.YtaeocbgmoijedaaChecked
import Derived.Test.YtaeocbgmoijedaaApp
namespace Go.Proofs.Ytaeocbgmoijedaa
open Go.RowKit

/-- 'string(x)' of a slice that shows l, now and behind whatever leaves what is there. -/
theorem text_on {w : World} {A : Option Addr} {l : List UInt8} (h : Seen w A l) (n c : Nat) (hn : l.length = n) :
    ∀ w', Below w.heap.size w w' → (convert 31 9 (.slice A n c)).run Try.prog w' = .ok (.string ⟨l.toArray⟩) w' := by
  intro w' hb
  subst hn
  exact (h.below hb).text 31 9 5 Try.underlying31 Try.underlying5 Try.underlying9 c
theorem Made.form_cap {e : TypeId} {w0 w : World} {l : List UInt8} {v : Value} (h : Made e w0 l v w) : ∃ A c, v = .slice A l.length c ∧ Seen w A l ∧ l.length ≤ c := by
  have h1 := h.1
  rcases h1.2 with ⟨rfl, h0⟩ | ⟨g, cap, cur, rfl, _, _, hnc, _⟩
  · exact ⟨none, 0, by rw [h0], .inl (List.eq_nil_of_length_eq_zero h0), by omega⟩
  · exact ⟨_, _, rfl, (Seen.of_own h1).1, hnc⟩
/-- two texts are the same just if their bytes are (as the walk writes it) -/
theorem text_beq (a b : List UInt8) : ((⟨a.toArray⟩ : ByteArray).toList == (⟨b.toArray⟩ : ByteArray).toList) = decide (a = b) := by
  simp only [ByteArray.toList_eq]
  rw [Bool.eq_iff_iff, beq_iff_eq, decide_eq_true_iff]
/-- a constant's bytes, laid into a new block -/
theorem seen_mark (w : World) (e : TypeId) (l : List UInt8) (fr : Nat × Nat) : Seen (w.alloc (.cells (l.map bv).toArray e fr)) (some ⟨w.heap.size, 0, none⟩) l :=
  .inr ⟨w.heap.size, 0, rfl, by simp, fun j hj => by
    have h : (w.alloc (.cells (l.map bv).toArray e fr)).heap[w.heap.size]? = some (.cells (l.map bv).toArray e fr) := by
      show (w.heap.push _)[w.heap.size]? = _
      simp
    simp only [World.cell?, h, Nat.zero_add]
    simp [hj, bv]⟩
end Go.Proofs.Ytaeocbgmoijedaa
