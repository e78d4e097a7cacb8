/-
  A block of memory that is known whole, and how it is kept; one byte of a row of the call's own, written. No program is named here.
-/
import Derived.Test.YtnbghhdbpjgcjaaApp
import Derived.Laws.Rows
import Derived.Laws.CopyOwn
namespace Go.Proofs.Ytnbghhdbpjgcjaa
open Go.RowKit

/-- Block g holds just the cells L, of type t, and may be written. -/
def Blk (w : World) (g : Nat) (L : List Value) (t : TypeId) : Prop := w.heap[g]? = some (.cells L.toArray t (0, 0))

section
variable {w w' : World} {g i : Nat} {L : List Value} {t : TypeId}
theorem Blk.lt (h : Blk w g L t) : g < w.heap.size := by
  rcases Nat.lt_or_ge g w.heap.size with hlt | hge
  · exact hlt
  · unfold Blk at h; rw [Array.getElem?_eq_none hge] at h; cases h
theorem Blk.cell (h : Blk w g L t) (hi : i < L.length) : w.cell? ⟨g, i, none⟩ = some L[i] := by
  rw [cell_of_row w g i L.toArray t (0, 0) h]; simp [hi]
theorem Blk.free (h : Blk w g L t) (i : Nat) : w.frozen? ⟨g, i, none⟩ = false := frozen_of_row w g i L.toArray t h
theorem Blk.set (h : Blk w g L t) (i : Nat) (v : Value) : Blk (w.setCell ⟨g, i, none⟩ v) g (L.set i v) t := by
  have := heap_setCell_same w g i L.toArray t v h
  unfold Blk; rw [this]; simp
theorem Blk.other (h : Blk w g L t) (a : Addr) (v : Value) (hg : g ≠ a.block) : Blk (w.setCell a v) g L t := by
  unfold Blk; rw [heap_setCell_other w a g v hg]; exact h
theorem Blk.drew (h : Blk w g L t) : Blk w.drew g L t := h
theorem Blk.drewN (h : Blk w g L t) (n : Nat) : Blk (w.drewN n) g L t := h
theorem Blk.below {B : Nat} (h : Blk w g L t) (hb : Below B w w') (hg : g < B) : Blk w' g L t := by
  unfold Blk; rw [hb.block g hg]; exact h
theorem Blk.alloc (h : Blk w g L t) (o : Obj) : Blk (w.alloc o) g L t := by
  have := heap_alloc_old w o h.lt
  unfold Blk; rw [this]; exact h
theorem Blk.new (w : World) (L : List Value) (t : TypeId) : Blk (w.alloc (.cells L.toArray t)) w.heap.size L t := heap_alloc_new w _
theorem Blk.unique {L' : List Value} {t' : TypeId} (h : Blk w g L t) (h' : Blk w g L' t') : L = L' ∧ t = t' := by
  unfold Blk at h h'; rw [h] at h'; simp at h'; exact h'
end

theorem made_form {e : TypeId} {w0 w : World} {l : List UInt8} {v : Value} (h : Made e w0 l v w) : ∃ A c, v = .slice A l.length c ∧ Seen w A l := h.form
theorem made_len {e : TypeId} {w0 w : World} {l : List UInt8} {n : Nat} {v : Value} (h : Made e w0 l v w) (hn : l.length = n) : ∃ A c, v = .slice A n c ∧ Made e w0 l (.slice A n c) w := by
  subst hn
  obtain ⟨A, c, rfl, _⟩ := h.form
  exact ⟨A, c, rfl, h⟩
theorem Made.at_len {e : TypeId} {w0 w : World} {l : List UInt8} {A : Option Addr} {n c : Nat} (h : Made e w0 l (.slice A n c) w) : l.length = n ∧ Seen w A l := by
  obtain ⟨A', c', hv, hs⟩ := h.form
  injection hv with h1 h2 h3
  subst h1
  exact ⟨h2.symm, hs⟩

/-- one byte of a row of the call's own, written -/
theorem Made.set {e : TypeId} {w0 w : World} {l : List UInt8} {A : Option Addr} {n c k : Nat} (h : Made e w0 l (.slice A n c) w) (hk : k < n) (x : UInt8) :
    ∃ g, A = some ⟨g, 0, none⟩ ∧ (∃ v, w.cell? ⟨g, k, none⟩ = some v) ∧ w.frozen? ⟨g, k, none⟩ = false ∧ Made e w0 (l.set k x) (.slice A n c) (w.setCell ⟨g, k, none⟩ (.int .u8 (x.toNat : Int))) := by
  have hl := h.at_len.1
  obtain ⟨hown, hbel⟩ := h
  rcases hown.2 with ⟨hv, h0⟩ | ⟨g, cap, cur, hv, hg, hh, hnc, hcm, hcs, ht⟩
  · injection hv with _ h2 _; omega
  · injection hv with h1 h2 h3
    subst h1 h3
    have hB : Blk w g cur.toList e := by unfold Blk; rw [Array.toArray_toList]; exact hh
    have hkc : k < cur.toList.length := by rw [Array.length_toList, hcs]; omega
    refine ⟨g, rfl, ⟨_, hB.cell hkc⟩, hB.free k, ⟨⟨?_, .inr ⟨g, c, (cur.toList.set k (.int .u8 (x.toNat : Int))).toArray, ?_, hg, hB.set k _, by rw [List.length_set]; omega, hcm, ?_, ?_⟩⟩, hbel.setCell hg _⟩⟩
    · simp
    · rw [List.length_set, hl]
    · simpa using hcs
    · have hx : bv x = .int .u8 (x.toNat : Int) := rfl
      rw [List.length_set, List.map_set, ← ht, ← hx]
      simp [List.take_set]
end Go.Proofs.Ytnbghhdbpjgcjaa
