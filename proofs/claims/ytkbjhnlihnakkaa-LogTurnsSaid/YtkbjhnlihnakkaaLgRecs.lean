/-
  A list of records that a call has made: how it lies in memory, apart from what others write. No function is named here.
-/
import Derived.Test.YtkbjhnlihnakkaaGather
import Derived.Test.YtkbjhnlihnakkaaFlat
import Derived.Deep.AppendLies
namespace Go.Proofs.Ytkbjhnlihnakkaa
open Go.RowKit

/-- a piece whose bytes lie in a block that is none of G -/
def PieceAt (w : World) (G : Nat → Prop) (q : Piece) : Prop := Away w G q.1 q.2.1 ∧ q.2.1.length ≤ q.2.2 ∧ q.2.1.length ≤ 9223372036854775807
/-- v holds the pieces in a row of its own; neither the row nor a piece lies in G -/
structure RecsAt (w : World) (f : TypeId) (G : Nat → Prop) (ps : List Piece) (v : Value) : Prop where
  list : w.ownsRow 0 f 1 v ps.length (ps.map pv)
  far : ∀ k, v.ownBlock = some k → ¬ G k
  each : ∀ q ∈ ps, PieceAt w (fun k => G k ∨ v.ownBlock = some k) q

section
variable {w w1 w5 w' : World} {f : TypeId} {G G' : Nat → Prop} {ps : List Piece} {v : Value} {q : Piece}
theorem PieceAt.moved (h : PieceAt w G q) (hs : Spared w w' G) (hG : ∀ k, G' k → G k ∨ w.heap.size ≤ k) : PieceAt w' G' q := ⟨h.1.moved hs hG, h.2⟩
theorem PieceAt.still (h : PieceAt w G q) (hb : Below w.heap.size w w') : PieceAt w' G q := h.moved (.of_below hb G) (fun _ h => .inl h)
theorem PieceAt.mono (h : PieceAt w G q) (hG : ∀ k, G' k → G k) : PieceAt w G' q := h.moved (.refl w G) (fun k hk => .inl (hG k hk))
theorem RecsAt.nil (w : World) (f : TypeId) (G : Nat → Prop) : RecsAt w f G [] (.slice none 0 0) := ⟨World.ownsRow_nil _ _ _ _, (fun k e => by cases e), (fun q hq => by cases hq)⟩
theorem RecsAt.lt (h : RecsAt w f G ps v) : ∀ k, v.ownBlock = some k → k < w.heap.size := fun k e => (h.list.lt k e).2
theorem RecsAt.form (h : RecsAt w f G ps v) : ∃ A c, v = .slice A ps.length c := own_form h.list
theorem RecsAt.moved (h : RecsAt w f G ps v) (hs : Spared w w' G) (hG : ∀ k, G' k → G k ∨ w.heap.size ≤ k) : RecsAt w' f G' ps v := by
  have hlt := h.lt
  refine ⟨?_, fun k e hk => (hG k hk).elim (h.far k e) (fun h => by have := hlt k e; omega), fun q hq => ?_⟩
  · refine ⟨h.list.1, ?_⟩
    rcases h.list.2 with h0 | ⟨g, cap, cur, hv, hb, hg, rest⟩
    · exact .inl h0
    · exact .inr ⟨g, cap, cur, hv, hb, (hs.block g (hlt g (by rw [hv]; rfl)) (h.far g (by rw [hv]; rfl))).trans hg, rest⟩
  · exact (h.each q hq).moved (hs.mono (fun _ h => .inl h)) (fun k hk => hk.elim (fun h => (hG k h).elim (fun h => .inl (.inl h)) .inr) (fun h => .inl (.inr h)))
theorem RecsAt.still (h : RecsAt w f G ps v) (hb : Below w.heap.size w w') : RecsAt w' f G ps v := h.moved (.of_below hb G) (fun _ h => .inl h)
theorem RecsAt.mono (h : RecsAt w f G ps v) (hG : ∀ k, G' k → G k) : RecsAt w f G' ps v := h.moved (.refl w G) (fun k hk => .inl (hG k hk))
theorem RecsAt.shown {A : Option Addr} {n c : Nat} (h : RecsAt w f G ps (.slice A n c)) : SeenAll w A ps := by
  rcases h.list.2 with ⟨hv, h0⟩ | ⟨g, cap, cur, hv, hb, hg, hnc, _⟩
  · exact .inl (List.eq_nil_of_length_eq_zero h0)
  · injection hv with hA _ hc
    subst hA
    refine .inr ⟨g, 0, rfl, (h.list.lt g rfl).2, fun j hj => ?_⟩
    obtain ⟨h1, h2, h3⟩ := h.each ps[j] (List.getElem_mem hj)
    have hcell := h.list.cells (g := g) rfl j (pv ps[j]) (by rw [List.getElem?_map, List.getElem?_eq_getElem hj]; rfl)
    rw [add_plain] at hcell
    exact ⟨hcell, h1.seen, h2, h3⟩
/-- one more piece -/
theorem RecsAt.more {g c : Nat} (h : RecsAt w f G ps v) (hq : PieceAt w (fun k => G k ∨ v.ownBlock = some k) q) (hlt : ∀ k, G k → k < w.heap.size)
    (hown : w5.ownsRow 0 f 1 (.slice (some ⟨g, 0, none⟩) (ps.length + 1) c) (ps.length + 1) (ps.map pv ++ [pv q])) (hgr : (w.alloc (.cells #[pv q] f)).grownBy w5 v.ownBlock) (hat : v.ownBlock = some g ∨ g = w.heap.size + 1) :
    RecsAt w5 f G (ps ++ [q]) (.slice (some ⟨g, 0, none⟩) (ps.length + 1) c) ∧ Spared w w5 (fun k => v.ownBlock = some k) := by
  have hal : Below w.heap.size w (w.alloc (.cells #[pv q] f)) := (Below.refl _ _).alloc (Nat.le_refl _) _
  have hs : Spared w w5 (fun k => v.ownBlock = some k) := (Spared.of_below hal _).trans (.of_grown hgr (F := fun k => v.ownBlock = some k) (fun k e _ => e)) (fun _ h => .inl h)
  have hG : ∀ k, (G k ∨ (some g : Option Nat) = some k) → (G k ∨ v.ownBlock = some k) ∨ w.heap.size ≤ k := fun k hk => by
    rcases hk with hk | hk
    · exact .inl (.inl hk)
    · injection hk with hk
      rcases hat with e | e
      · exact .inl (.inr (by rw [e, hk]))
      · exact .inr (by omega)
  refine ⟨⟨?_, fun k e => ?_, fun x hx => ?_⟩, hs⟩
  · rw [List.length_append, List.map_append]; exact hown
  · injection e with e
    change g = k at e
    subst e
    rcases hat with e | e
    · exact h.far g e
    · intro hg; have := hlt g hg; omega
  · rcases List.mem_append.1 hx with hx | hx
    · exact (h.each x hx).moved (hs.mono (fun _ h => .inr h)) hG
    · rw [List.mem_singleton.1 hx]; exact hq.moved (hs.mono (fun _ h => .inr h)) hG
end
def lenOf : Value → Nat
  | .slice _ n _ => n
  | _ => 0
end Go.Proofs.Ytkbjhnlihnakkaa
