/-
  What the walks of the statements share: texts of slices, slices that were appended to, the sums and the length of a state. Conditions: as each says.
-/
import Derived.Test.YtoajhpbcpbaiiaaDoorWake
namespace Go.Proofs.YtoajhpbcpbaiiaaDoor
open Go.RowKit

/-- 'string(x)' of a slice that shows l, now and behind whatever leaves what is there. -/
theorem text_on {w : World} {A : Option Addr} {l : List UInt8} (h : Seen w A l) (n c : Nat) (hn : l.length = n) :
    ∀ w', Below w.heap.size w w' → (convert 28 9 (.slice A n c)).run Tryd.prog w' = .ok (.string ⟨l.toArray⟩) w' := by
  intro w' hb
  subst hn
  exact (h.below hb).text 28 9 5 Tryd.underlying28 Tryd.underlying5 Tryd.underlying9 c
theorem apart_old {w w' : World} {g : Nat} {A : Option Addr} {l : List UInt8} (h : Seen w A l) (hb : Below w.heap.size w w') (hg : w.heap.size ≤ g) : Apart w' g A l := by
  rcases h with rfl | ⟨b, off, rfl, hlt, hc⟩
  · exact .inl rfl
  · exact .inr ⟨b, off, rfl, by have := hb.size; omega, by omega, fun j hj => (hb.cell (p := ⟨b, off + j, none⟩) hlt).trans (hc j hj)⟩
theorem Made.form_cap {e : TypeId} {w0 w : World} {l : List UInt8} {v : Value} (h : Made e w0 l v w) : ∃ A c, v = .slice A l.length c ∧ Seen w A l ∧ l.length ≤ c := by
  have h1 := h.1
  rcases h1.2 with ⟨rfl, h0⟩ | ⟨g, cap, cur, rfl, _, _, hnc, _⟩
  · exact ⟨none, 0, by rw [h0], .inl (List.eq_nil_of_length_eq_zero h0), by omega⟩
  · exact ⟨_, _, rfl, (Seen.of_own h1).1, hnc⟩

/-- The two sums and the length that the statement's last row asks, each behind whatever leaves what is there. -/
theorem sums_named {W : World} {g : Nat} {A : Option Addr} {l : List UInt8} {n c : Nat} (hln : l.length = n) (h : StAt W g l) (hs : Seen W A l) (hc : n ≤ c) (hn : n ≤ 70368744177664) (ht : Tabs W) :
    ∃ L : List UInt8, L.length = 32 ∧ (∀ w', Below W.heap.size W w' → Calls Tryd.prog 17 #[.pointer (some ⟨g, 0, none⟩)] w' fun e w'' => ∃ A', e = .returned (.slice A' 32 32) ∧ Seen w'' A' L ∧ Below w'.heap.size w' w'') ∧
      (∀ w', Below W.heap.size W w' → Calls Tryd.prog 13 #[.slice A n c] w' fun e w'' => ∃ A', e = .returned (.slice A' 32 32) ∧ Seen w'' A' L ∧ Below w'.heap.size w' w'') ∧
      (∀ w', Below W.heap.size W w' → Calls Tryd.prog 18 #[.pointer (some ⟨g, 0, none⟩)] w' fun e w'' => e = .returned (.int .i64 n) ∧ w'' = w') := by
  subst hln
  exact ⟨shaL l, length_shaL l, fun w' hb => stateSum_any w' g l (h.below hb) (ht.below hb) hn, fun w' hb => sum_any w' A l c (hs.below hb) hc hn (ht.below hb), fun w' hb => (len_any w' g l (h.below hb)).mono fun _ _ h => ⟨h.1, h.2.symm⟩⟩

end Go.Proofs.YtoajhpbcpbaiiaaDoor
