/-
  What the walks of the statements share: texts of slices, slices that were appended to. Conditions: as each says.
-/
import Derived.Test.YtmmfnfndepijlaaDoorMacWake
namespace Go.Proofs.YtmmfnfndepijlaaDoor
open Go.RowKit

/-- 'string(x)' of a slice that shows l, now and behind whatever leaves what is there. -/
theorem text_on {w : World} {A : Option Addr} {l : List UInt8} (h : Seen w A l) (n c : Nat) (hn : l.length = n) :
    ∀ w', Below w.heap.size w w' → (convert 22 9 (.slice A n c)).run Tryd.prog w' = .ok (.string ⟨l.toArray⟩) w' := by
  intro w' hb
  subst hn
  exact (h.below hb).text 22 9 5 Tryd.underlying22 Tryd.underlying5 Tryd.underlying9 c
theorem Made.form_cap {e : TypeId} {w0 w : World} {l : List UInt8} {v : Value} (h : Made e w0 l v w) : ∃ A c, v = .slice A l.length c ∧ Seen w A l ∧ l.length ≤ c := by
  have h1 := h.1
  rcases h1.2 with ⟨rfl, h0⟩ | ⟨g, cap, cur, rfl, _, _, hnc, _⟩
  · exact ⟨none, 0, by rw [h0], .inl (List.eq_nil_of_length_eq_zero h0), by omega⟩
  · exact ⟨_, _, rfl, (Seen.of_own h1).1, hnc⟩
/-- two texts are the same just if their bytes are (as the walk writes it) -/
theorem text_beq (a b : List UInt8) : ((⟨a.toArray⟩ : ByteArray).toList == (⟨b.toArray⟩ : ByteArray).toList) = decide (a = b) := by
  simp only [ByteArray.toList_eq]
  rw [Bool.eq_iff_iff, beq_iff_eq, decide_eq_true_iff]
end Go.Proofs.YtmmfnfndepijlaaDoor
