/-
  What a piece more makes of a state: lists, and blocks of memory. No program is run here.
-/
import Derived.Test.YtmmfnfndepijlaaDoorPad
namespace Go.Proofs.YtmmfnfndepijlaaDoor
open Go.RowKit

/-- The bytes l at A, in another block than g. -/
def Apart (w : World) (g : Nat) (A : Option Addr) (l : List UInt8) : Prop :=
  l = [] ∨ ∃ b off, A = some ⟨b, off, none⟩ ∧ b < w.heap.size ∧ b ≠ g ∧ ∀ j (h : j < l.length), w.cell? ⟨b, off + j, none⟩ = some (.int .u8 (l[j].toNat : Int))
theorem Apart.of_seen {w : World} {g : Nat} {A : Option Addr} {l : List UInt8} (h : Seen w A l) (hg : ∀ b off, A = some ⟨b, off, none⟩ → b ≠ g) : Apart w g A l := by
  rcases h with rfl | ⟨b, off, rfl, hb, hc⟩
  · exact .inl rfl
  · exact .inr ⟨b, off, rfl, hb, hg b off rfl, hc⟩
theorem Apart.new {w w' : World} {A : Option Addr} {l : List UInt8} (h : Seen w A l) (hb : Below w.heap.size w w') : Apart w' w.heap.size A l := by
  rcases h with rfl | ⟨b, off, rfl, hlt, hc⟩
  · exact .inl rfl
  · exact .inr ⟨b, off, rfl, by have := hb.size; omega, by omega, fun j hj => (hb.cell (p := ⟨b, off + j, none⟩) hlt).trans (hc j hj)⟩
theorem Apart.seen {w : World} {g : Nat} {A : Option Addr} {l : List UInt8} (h : Apart w g A l) : Seen w A l := by
  rcases h with rfl | ⟨b, off, rfl, hb, _, hc⟩
  · exact .inl rfl
  · exact .inr ⟨b, off, rfl, hb, hc⟩
theorem Apart.grown {w w' : World} {g : Nat} {A : Option Addr} {l : List UInt8} (h : Apart w g A l) (hg : w.grownBy w' (some g)) : Apart w' g A l := by
  rcases h with rfl | ⟨b, off, rfl, hb, hne, hc⟩
  · exact .inl rfl
  · refine .inr ⟨b, off, rfl, by have := hg.size; omega, hne, fun j hj => ?_⟩
    exact (World.cell?_of_block (hg.block b hb (fun e => hne (by injection e)))).trans (hc j hj)
theorem Apart.drop {w : World} {g : Nat} {A : Option Addr} {l : List UInt8} (h : Apart w g A l) (m c : Nat) (hc : l.length ≤ c) : Apart w g (if c = m then A else A.map (·.add (m * 1))) (l.drop m) := by
  by_cases hm : l.length ≤ m
  · exact .inl (List.drop_eq_nil_of_le hm)
  · rcases h with rfl | ⟨b, off, rfl, hb, hne, hc'⟩
    · simp at hm
    · rw [if_neg (by omega)]
      refine .inr ⟨b, off + m, ?_, hb, hne, fun j hj => ?_⟩
      · rw [Nat.mul_one]; show some (Addr.add _ _) = _; rw [add_plain]
      · rw [List.length_drop] at hj
        rw [Nat.add_assoc, hc' (m + j) (by omega), List.getElem_drop]

section
variable {w w' : World} {row : Option Nat}
theorem only_drew (h : w.grownBy w' row) : w.grownBy w'.drew row := ⟨h.os, h.tape, h.output, h.size, h.block⟩
theorem only_setCell {g : Nat} (h : w.grownBy w' (some g)) (i : Nat) (u : Value) : w.grownBy (w'.setCell ⟨g, i, none⟩ u) (some g) :=
  ⟨h.os, h.tape, h.output, by simpa [World.setCell] using h.size, fun k hk hne => (heap_setCell_other w' ⟨g, i, none⟩ k u (fun e => hne (by rw [e]))).trans (h.block k hk hne)⟩
theorem only_below {w1 : World} (h : w.grownBy w' row) (hb : Below w'.heap.size w' w1) : w.grownBy w1 row :=
  ⟨hb.os.trans h.os, hb.tape.trans h.tape, hb.output.trans h.output, Nat.le_trans h.size hb.size, fun k hk hne => (hb.block k (Nat.lt_of_lt_of_le hk h.size)).trans (h.block k hk hne)⟩
theorem only_of_below (h : Below w.heap.size w w') (row : Option Nat) : w.grownBy w' row := ⟨h.os, h.tape, h.output, h.size, fun i hi _ => h.block i hi⟩
theorem only_setCells {g : Nat} : ∀ (vs : List Value) (o : Nat) (w' : World), w.grownBy w' (some g) → w.grownBy (w'.setCells g o vs) (some g)
  | [], _, _, h => h
  | v :: r, o, _, h => only_setCells r (o + 1) _ (only_setCell h o v)
theorem only_setRow {g : Nat} (h : w.grownBy w' (some g)) (cs : Array Value) : w.grownBy (w'.setRow g cs) (some g) :=
  ⟨h.os, h.tape, h.output, by simpa using h.size, fun k hk hne => (setRow_other w' g k cs (fun e => hne (by rw [e]))).trans (h.block k hk hne)⟩
theorem only_trans {w'' : World} (h : w.grownBy w' row) (k : w'.grownBy w'' row) : w.grownBy w'' row :=
  ⟨k.os.trans h.os, k.tape.trans h.tape, k.output.trans h.output, Nat.le_trans h.size k.size, fun i hi hn => (k.block i (Nat.lt_of_lt_of_le hi h.size) hn).trans (h.block i hi hn)⟩
end

theorem Tabs.grown {w w' : World} {g : Nat} (h : Tabs w) (hg : w.grownBy w' (some g)) (h2 : 2 ≤ g) : Tabs w' :=
  ⟨fun i hi => (World.cell?_of_block (hg.block _ (by have := h.2.2; show 0 < _; omega) (fun e => by injection e with e; change 0 = g at e; omega))).trans (h.1 i hi),
   fun i hi => (World.cell?_of_block (hg.block _ (by have := h.2.2; show 1 < _; omega) (fun e => by injection e with e; change 1 = g at e; omega))).trans (h.2.1 i hi), Nat.le_trans h.2.2 hg.size⟩
theorem StAt.grown {w w' : World} {g g' : Nat} {l : List UInt8} (h : StAt w g l) (hg : w.grownBy w' (some g')) (hne : g ≠ g') : StAt w' g l := by
  obtain ⟨ws, rs, hb, hi⟩ := h
  exact ⟨ws, rs, (hg.block g hb.lt (fun e => hne (by injection e))).trans hb, hi⟩
theorem StAt.below {w w' : World} {g : Nat} {l : List UInt8} (h : StAt w g l) (hb : Below w.heap.size w w') : StAt w' g l := by
  obtain ⟨ws, rs, hb', hi⟩ := h
  exact ⟨ws, rs, hb'.below hb hb'.lt, hi⟩
theorem StAt.lt {w : World} {g : Nat} {l : List UInt8} (h : StAt w g l) : g < w.heap.size := by
  obtain ⟨ws, rs, hb', hi⟩ := h
  exact hb'.lt

/-! lists -/
theorem splice_cells (ws : List Nat) (rs p : List UInt8) (n u : Nat) (h8 : ws.length = 8) (hu : u + p.length ≤ rs.length) :
    splice (stCells ws rs n) (8 + u) (p.map bv) = stCells ws (splice rs u p) n := by
  unfold splice stCells
  rw [show (8 + u) = (ws.map wv).length + u by simp [h8], List.take_length_add_append, Nat.add_assoc, List.drop_length_add_append]
  rw [List.take_append_of_le_length (by simp; omega), List.drop_append_of_le_length (by simp; omega)]
  simp
theorem splice_words (ws ws' : List Nat) (rs : List UInt8) (n : Nat) (h : ws'.length = ws.length) : splice (stCells ws rs n) 0 (ws'.map wv) = stCells ws' rs n := by
  unfold splice stCells
  rw [List.take_zero, List.nil_append, Nat.zero_add, show (ws'.map wv).length = (ws.map wv).length by simp [h], List.drop_left]
theorem set_length (ws : List Nat) (rs : List UInt8) (n n' : Nat) (h8 : ws.length = 8) (h64 : rs.length = 64) : (stCells ws rs n).set 72 (.int .i64 (n' : Int)) = stCells ws rs n' := by
  unfold stCells
  rw [List.set_append_right _ _ (by simp [h8]), List.set_append_right _ _ (by simp [h8, h64])]
  simp [h8, h64]
theorem splice_cons {α : Type} (L : List α) (o : Nat) (v : α) (r : List α) (h : o + (r.length + 1) ≤ L.length) : splice (L.set o v) (o + 1) r = splice L o (v :: r) := by
  unfold splice
  rw [List.take_succ_eq_append_getElem (by simp; omega), List.getElem_set_self, List.take_set_of_le (Nat.le_refl _), List.drop_set_of_lt (by omega)]
  simp only [List.append_assoc, List.length_cons, List.cons_append, List.nil_append]
  rw [show o + 1 + r.length = o + (r.length + 1) by omega]
theorem Blk.setCells {g : Nat} {t : TypeId} : ∀ (vs : List Value) (o : Nat) (w : World) (L : List Value), Blk w g L t → o + vs.length ≤ L.length → Blk (w.setCells g o vs) g (splice L o vs) t
  | [], o, w, L, h, _ => by simpa [splice, World.setCells] using h
  | v :: r, o, w, L, h, hl => by
    rw [World.setCells, ← splice_cons L o v r (by simpa using hl)]
    exact Blk.setCells r (o + 1) _ _ (h.set o v) (by simp; simp at hl; omega)

/-- how much fits -/
def fits (p r : List UInt8) : Nat := min r.length (64 - p.length % 64)
theorem step_part {ws : List Nat} {rs p r : List UInt8} (h : StIs ws rs p) (hlt : p.length % 64 + fits p r < 64) : StIs ws (splice rs (p.length % 64) (r.take (fits p r))) (p ++ r.take (fits p r)) := by
  obtain ⟨h1, h2, h3, h4⟩ := h
  have hm : fits p r = r.length := by unfold fits at hlt ⊢; omega
  rw [hm, List.take_length]
  rw [hm] at hlt
  have hq : (p ++ r).length / 64 = p.length / 64 := by rw [List.length_append]; omega
  have hr : (p ++ r).length % 64 = p.length % 64 + r.length := by rw [List.length_append]; omega
  refine ⟨h1, by rw [length_splice _ _ _ (by omega)]; exact h2, fun hl => ?_, ?_⟩
  · rw [hq]
    have : 64 ≤ p.length := by rw [List.length_append] at hl; omega
    rw [h3 this, hashed_append p r _ (by omega)]
  · rw [hq, hr, List.drop_append_of_le_length (by omega), ← h4]
    unfold splice
    rw [List.take_append, List.take_take, List.length_take, Nat.min_eq_left (by omega : p.length % 64 ≤ rs.length), Nat.min_eq_right (by omega), Nat.add_sub_cancel_left, List.take_left]
theorem step_full {ws : List Nat} {rs p r : List UInt8} (h : StIs ws rs p) (hlt : p.length % 64 + fits p r = 64) :
    splice rs (p.length % 64) (r.take (fits p r)) = chunk (p ++ r.take (fits p r)) (p.length / 64) ∧ (splice rs (p.length % 64) (r.take (fits p r))).length = 64 ∧
    StIs (mixL (hashed p (p.length / 64)) (splice rs (p.length % 64) (r.take (fits p r)))) (splice rs (p.length % 64) (r.take (fits p r))) (p ++ r.take (fits p r)) := by
  obtain ⟨h1, h2, h3, h4⟩ := h
  have hle : fits p r ≤ r.length := by unfold fits; omega
  generalize fits p r = m at *
  have hm : (r.take m).length = m := by rw [List.length_take]; omega
  generalize r.take m = x at *
  have hs : splice rs (p.length % 64) x = p.drop (64 * (p.length / 64)) ++ x := by
    unfold splice
    rw [h4, List.drop_eq_nil_of_le (by omega : rs.length ≤ p.length % 64 + x.length), List.append_nil]
  have hc : chunk (p ++ x) (p.length / 64) = p.drop (64 * (p.length / 64)) ++ x := by
    unfold chunk
    rw [List.drop_append_of_le_length (by omega), List.take_of_length_le (by simp; omega)]
  have hl : (p.drop (64 * (p.length / 64)) ++ x).length = 64 := by simp; omega
  have hq : (p ++ x).length / 64 = p.length / 64 + 1 := by rw [List.length_append]; omega
  have hr : (p ++ x).length % 64 = 0 := by rw [List.length_append]; omega
  refine ⟨by rw [hs, hc], by rw [hs, hl], length_mixL _ _ (hashed_ok _ _).1, by rw [hs, hl], fun _ => ?_, ?_⟩
  · rw [hq, hashed, hashed_append p x _ (by omega), hs, hc]
  · rw [hr, List.take_zero, List.drop_eq_nil_of_le (by omega)]
end Go.Proofs.YtmmfnfndepijlaaDoor
