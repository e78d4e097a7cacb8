/-
  A block of memory that is known whole, and how it is kept. No program is named here.
-/
import Derived.Test.YtmmfnfndepijlaaDoorSha
import Derived.Laws.Rows
import Derived.Laws.CopyOwn
namespace Go.Proofs.YtmmfnfndepijlaaDoor
open Go.RowKit

/-- Block g holds just the cells L, of type t, and may be written. -/
def Blk (w : World) (g : Nat) (L : List Value) (t : TypeId) : Prop := w.heap[g]? = some (.cells L.toArray t (0, 0))

section
variable {w w' : World} {g i : Nat} {L : List Value} {t : TypeId}
theorem Blk.lt (h : Blk w g L t) : g < w.heap.size := by
  rcases Nat.lt_or_ge g w.heap.size with hlt | hge
  · exact hlt
  · unfold Blk at h; rw [Array.getElem?_eq_none hge] at h; cases h
theorem Blk.cell (h : Blk w g L t) (hi : i < L.length) : w.cell? ⟨g, i, none⟩ = some L[i] := by
  rw [cell_of_row w g i L.toArray t (0, 0) h]; simp [hi]
theorem Blk.free (h : Blk w g L t) (i : Nat) : w.frozen? ⟨g, i, none⟩ = false := frozen_of_row w g i L.toArray t h
theorem Blk.set (h : Blk w g L t) (i : Nat) (v : Value) : Blk (w.setCell ⟨g, i, none⟩ v) g (L.set i v) t := by
  have := heap_setCell_same w g i L.toArray t v h
  unfold Blk; rw [this]; simp
theorem Blk.other (h : Blk w g L t) (a : Addr) (v : Value) (hg : g ≠ a.block) : Blk (w.setCell a v) g L t := by
  unfold Blk; rw [heap_setCell_other w a g v hg]; exact h
theorem Blk.drew (h : Blk w g L t) : Blk w.drew g L t := h
theorem Blk.drewN (h : Blk w g L t) (n : Nat) : Blk (w.drewN n) g L t := h
theorem Blk.below {B : Nat} (h : Blk w g L t) (hb : Below B w w') (hg : g < B) : Blk w' g L t := by
  unfold Blk; rw [hb.block g hg]; exact h
theorem Blk.alloc (h : Blk w g L t) (o : Obj) : Blk (w.alloc o) g L t := by
  have := heap_alloc_old w o h.lt
  unfold Blk; rw [this]; exact h
theorem Blk.new (w : World) (L : List Value) (t : TypeId) : Blk (w.alloc (.cells L.toArray t)) w.heap.size L t := heap_alloc_new w _
theorem Blk.unique {L' : List Value} {t' : TypeId} (h : Blk w g L t) (h' : Blk w g L' t') : L = L' ∧ t = t' := by
  unfold Blk at h h'; rw [h] at h'; simp at h'; exact h'
end

theorem getD_map_bv (b : List UInt8) (i : Nat) (h : i < (b.map bv).length) : (b.map bv)[i] = .int .u8 (byteAt b i : Nat) := by
  have h' : i < b.length := by simpa using h
  rw [List.getElem_map]; unfold bv byteAt; rw [List.getD_eq_getElem?_getD, List.getElem?_eq_getElem h']; rfl
theorem getD_map_wv (b : List Nat) (i : Nat) (h : i < (b.map wv).length) : (b.map wv)[i] = .int .u32 (b.getD i 0 : Nat) := by
  have h' : i < b.length := by simpa using h
  rw [List.getElem_map]; unfold wv; rw [List.getD_eq_getElem?_getD, List.getElem?_eq_getElem h']; rfl
theorem Blk.byte {w : World} {g i : Nat} {b : List UInt8} {t : TypeId} (h : Blk w g (b.map bv) t) (hi : i < b.length) : w.cell? ⟨g, i, none⟩ = some (.int .u8 (byteAt b i : Nat)) := by
  rw [h.cell (by simpa using hi), getD_map_bv]
theorem Blk.word {w : World} {g i : Nat} {b : List Nat} {t : TypeId} (h : Blk w g (b.map wv) t) (hi : i < b.length) : w.cell? ⟨g, i, none⟩ = some (.int .u32 (b.getD i 0 : Nat)) := by
  rw [h.cell (by simpa using hi), getD_map_wv]

/-- the words that are there, and noughts behind them, n in all -/
def padw (n : Nat) (L : List Nat) : List Nat := L ++ List.replicate (n - L.length) 0
theorem length_padw {n : Nat} {L : List Nat} (h : L.length ≤ n) : (padw n L).length = n := by simp [padw]; omega
theorem padw_getD {n : Nat} {L : List Nat} {i : Nat} (h : i < L.length) : (padw n L).getD i 0 = L.getD i 0 := by
  rw [List.getD_eq_getElem?_getD, List.getD_eq_getElem?_getD]; unfold padw; rw [List.getElem?_append_left h]
theorem padw_set {n : Nat} {L : List Nat} (x : Nat) (h : L.length < n) : (padw n L).set L.length x = padw n (L ++ [x]) := by
  unfold padw
  have e : n - L.length = (n - (L ++ [x]).length) + 1 := by simp; omega
  rw [e, List.replicate_succ]
  simp
theorem padw_full {n : Nat} {L : List Nat} (h : L.length = n) : padw n L = L := by unfold padw; rw [h, Nat.sub_self]; simp
theorem padw_map_set {n : Nat} {L : List Nat} (x : Nat) (h : L.length < n) (k : Nat) (hk : L.length = k) : ((padw n L).map wv).set k (.int .u32 (x : Int)) = (padw n (L ++ [x])).map wv := by
  rw [← padw_set x h, hk, List.map_set]; rfl
end Go.Proofs.YtmmfnfndepijlaaDoor
