/-
  Rows of one length, laid end to end; a block of memory that holds them; what leaves all blocks but some as they were. No program is named here.
-/
import Derived.Test.YtaeocbgmoijedaaRow
import Derived.Test.YtaeocbgmoijedaaOnly
import Derived.Deep.MidRow
namespace Go.Proofs.Ytaeocbgmoijedaa
open Go.RowKit

section
variable {α : Type} {m : Nat}
theorem flat_length : ∀ (R : List (List α)), (∀ r ∈ R, r.length = m) → R.flatten.length = R.length * m
  | [], _ => by simp
  | r :: R, h => by
    rw [List.flatten_cons, List.length_append, flat_length R (fun x hx => h x (by simp [hx])), h r (by simp), List.length_cons, Nat.succ_mul, Nat.add_comm]
theorem flat_at : ∀ (R : List (List α)) (i j : Nat) (hi : i < R.length) (_ : ∀ r ∈ R, r.length = m) (hj : j < R[i].length), R.flatten[i * m + j]? = some (R[i][j])
  | [], _, _, hi, _, _ => by simp at hi
  | r :: R, 0, j, _, _, hj => by
    rw [List.flatten_cons, Nat.zero_mul, Nat.zero_add]
    have hj' : j < r.length := hj
    rw [List.getElem?_append_left hj', List.getElem?_eq_getElem hj']
    rfl
  | r :: R, i + 1, j, hi, h, hj => by
    have e : (i + 1) * m + j = r.length + (i * m + j) := by rw [h r (by simp), Nat.succ_mul]; omega
    rw [List.flatten_cons, e, List.getElem?_append_right (by omega), Nat.add_sub_cancel_left]
    exact flat_at R i j (by simpa using hi) (fun x hx => h x (by simp [hx])) hj
theorem flat_set : ∀ (R : List (List α)) (i : Nat) (x : List α), i < R.length → (∀ r ∈ R, r.length = m) → x.length = m → splice R.flatten (i * m) x = (R.set i x).flatten
  | [], _, _, hi, _, _ => by simp at hi
  | r :: R, 0, x, _, h, hx => by
    unfold splice
    rw [List.set_cons_zero, List.flatten_cons, List.flatten_cons, Nat.zero_mul, List.take_zero, List.nil_append, Nat.zero_add, hx, ← h r (by simp), List.drop_left]
  | r :: R, i + 1, x, hi, h, hx => by
    have ih := flat_set R i x (by simpa using hi) (fun x hx => h x (by simp [hx])) hx
    unfold splice at ih ⊢
    have e : (i + 1) * m = r.length + i * m := by rw [h r (by simp), Nat.succ_mul]; omega
    rw [List.set_cons_succ, List.flatten_cons, List.flatten_cons, ← ih, e, List.take_length_add_append, Nat.add_assoc, List.drop_length_add_append, List.append_assoc]
theorem flat_map {β : Type} (f : α → β) (R : List (List α)) : (R.map (·.map f)).flatten = R.flatten.map f := by rw [List.map_flatten]
end

theorem splice_one {α : Type} (L : List α) (o : Nat) (v : α) (r : List α) (h : o + (r.length + 1) ≤ L.length) : splice (L.set o v) (o + 1) r = splice L o (v :: r) := by
  unfold splice
  rw [List.take_succ_eq_append_getElem (by simp; omega), List.getElem_set_self, List.take_set_of_le (Nat.le_refl _), List.drop_set_of_lt (by omega)]
  simp only [List.append_assoc, List.length_cons, List.cons_append, List.nil_append]
  rw [show o + 1 + r.length = o + (r.length + 1) by omega]
theorem blk_setCells {g : Nat} {t : TypeId} : ∀ (vs : List Value) (o : Nat) (w : World) (L : List Value), Blk w g L t → o + vs.length ≤ L.length → Blk (w.setCells g o vs) g (splice L o vs) t
  | [], o, w, L, h, _ => by simpa [World.setCells, splice] using h
  | v :: r, o, w, L, h, hl => by
    rw [World.setCells, ← splice_one L o v r (by simpa using hl)]
    exact blk_setCells r (o + 1) _ _ (h.set o v) (by simp; simp at hl; omega)
theorem blk_there {w : World} {g : Nat} {L : List Value} {t : TypeId} (h : Blk w g L t) (o n : Nat) (hn : o + n ≤ L.length) : w.there g o n := fun j hj =>
  ⟨by rw [h.cell (by omega : o + j < L.length)]; rfl, h.free _⟩
theorem blk_away {g g' : Nat} {t : TypeId} {L : List Value} : ∀ (vs : List Value) (o : Nat) (w : World), Blk w g L t → g ≠ g' → Blk (w.setCells g' o vs) g L t
  | [], _, _, h, _ => h
  | v :: r, o, _, h, hg => by rw [World.setCells]; exact blk_away r (o + 1) _ (h.other _ _ hg) hg

section
variable {w : World} {g m : Nat} {R : List (List Value)} {t : TypeId}
/-- row i of a block of rows -/
theorem flat_range (h : Blk w g R.flatten t) (hm : ∀ r ∈ R, r.length = m) (i : Nat) (hi : i < R.length) : w.rangeAt g (i * m) R[i] := fun j v hv => by
  obtain ⟨hj, hju⟩ := List.getElem?_eq_some_iff.1 hv
  have e := flat_at R i j hi hm hj
  obtain ⟨h1, h2⟩ := List.getElem?_eq_some_iff.1 e
  rw [h.cell h1, h2, hju]
theorem flat_there (h : Blk w g R.flatten t) (hm : ∀ r ∈ R, r.length = m) (i : Nat) (hi : i < R.length) : w.there g (i * m) m :=
  blk_there h _ _ (by rw [flat_length R hm, ← Nat.succ_mul]; exact Nat.mul_le_mul_right _ hi)
theorem flat_store (h : Blk w g R.flatten t) (hm : ∀ r ∈ R, r.length = m) (i : Nat) (hi : i < R.length) (x : List Value) (hx : x.length = m) : Blk (w.setCells g (i * m) x) g (R.set i x).flatten t := by
  have := blk_setCells x (i * m) w _ h (by rw [flat_length R hm, hx, ← Nat.succ_mul]; exact Nat.mul_le_mul_right _ hi)
  rwa [flat_set R i x hi hm hx] at this
end

/-! what leaves all blocks but some as they were -/
/-- All blocks of w but those of F are as they were. -/
structure Spared (w w' : World) (F : Nat → Prop) : Prop where
  os : w'.os = w.os
  tape : w'.tape = w.tape
  output : w'.output = w.output
  size : w.heap.size ≤ w'.heap.size
  block : ∀ k, k < w.heap.size → ¬ F k → w'.heap[k]? = w.heap[k]?
section
variable {w w' w'' : World} {F G : Nat → Prop}
theorem Spared.refl (w : World) (F : Nat → Prop) : Spared w w F := ⟨rfl, rfl, rfl, Nat.le_refl _, fun _ _ _ => rfl⟩
theorem Spared.trans (h : Spared w w' F) (k : Spared w' w'' G) (hG : ∀ i, G i → F i ∨ w.heap.size ≤ i) : Spared w w'' F :=
  ⟨k.os.trans h.os, k.tape.trans h.tape, k.output.trans h.output, Nat.le_trans h.size k.size, fun i hi hn =>
    (k.block i (Nat.lt_of_lt_of_le hi h.size) (fun hg => (hG i hg).elim hn (fun hs => by omega))).trans (h.block i hi hn)⟩
theorem Spared.of_below (h : Below w.heap.size w w') (F : Nat → Prop) : Spared w w' F := ⟨h.os, h.tape, h.output, h.size, fun k hk _ => h.block k hk⟩
theorem Spared.of_grown {row : Option Nat} (h : w.grownBy w' row) (hF : ∀ k, row = some k → k < w.heap.size → F k) : Spared w w' F :=
  ⟨h.os, h.tape, h.output, h.size, fun k hk hn => h.block k hk (fun e => hn (hF k e.symm hk))⟩
theorem Spared.below (h : Spared w w' F) {W : World} (hb : Below W.heap.size W w) (hF : ∀ k, F k → W.heap.size ≤ k) : Below W.heap.size W w' :=
  ⟨h.os.trans hb.os, h.tape.trans hb.tape, h.output.trans hb.output, Nat.le_trans hb.size h.size, fun k hk => (h.block k (Nat.lt_of_lt_of_le hk hb.size) (fun hf => by have := hF k hf; omega)).trans (hb.block k hk)⟩
theorem Spared.drew (h : Spared w w' F) : Spared w w'.drew F := ⟨h.os, h.tape, h.output, h.size, h.block⟩
theorem Spared.mono (h : Spared w w' F) (hG : ∀ k, F k → G k) : Spared w w' G := ⟨h.os, h.tape, h.output, h.size, fun k hk hn => h.block k hk (fun hf => hn (hG k hf))⟩
theorem Spared.blk {g : Nat} {L : List Value} {t : TypeId} (h : Spared w w' F) (hb : Blk w g L t) (hg : ¬ F g) : Blk w' g L t := (h.block g hb.lt hg).trans hb
theorem Spared.setCell {g : Nat} (h : Spared w w' F) (hg : F g) (i : Nat) (u : Value) : Spared w (w'.setCell ⟨g, i, none⟩ u) F :=
  ⟨h.os, h.tape, h.output, by simpa [World.setCell] using h.size, fun k hk hn => (heap_setCell_other w' ⟨g, i, none⟩ k u (fun e => hn (by rw [e]; exact hg))).trans (h.block k hk hn)⟩
theorem Spared.setCells {g : Nat} (hg : F g) : ∀ (vs : List Value) (o : Nat) (w' : World), Spared w w' F → Spared w (w'.setCells g o vs) F
  | [], _, _, h => h
  | v :: r, o, _, h => Spared.setCells hg r (o + 1) _ (h.setCell hg o v)
theorem Spared.alloc (h : Spared w w' F) (o : Obj) : Spared w (w'.alloc o) F :=
  ⟨h.os, h.tape, h.output, by simp; exact Nat.le_succ_of_le h.size, fun k hk hn => (heap_alloc_old w' o (Nat.lt_of_lt_of_le hk h.size)).trans (h.block k hk hn)⟩
end

/-- A slice that begins at A shows the bytes l, in a block that is none of F. -/
def Away (w : World) (F : Nat → Prop) (A : Option Addr) (l : List UInt8) : Prop :=
  l = [] ∨ ∃ b off, A = some ⟨b, off, none⟩ ∧ b < w.heap.size ∧ ¬ F b ∧ ∀ j (h : j < l.length), w.cell? ⟨b, off + j, none⟩ = some (.int .u8 (l[j].toNat : Int))
section
variable {w w' : World} {F G : Nat → Prop} {A : Option Addr} {l : List UInt8}
theorem Away.seen (h : Away w F A l) : Seen w A l := by
  rcases h with rfl | ⟨b, off, rfl, hb, _, hc⟩
  · exact .inl rfl
  · exact .inr ⟨b, off, rfl, hb, hc⟩
theorem Away.of_seen (h : Seen w A l) (hF : ∀ b off, A = some ⟨b, off, none⟩ → b < w.heap.size → ¬ F b) : Away w F A l := by
  rcases h with rfl | ⟨b, off, rfl, hb, hc⟩
  · exact .inl rfl
  · exact .inr ⟨b, off, rfl, hb, hF b off rfl hb, hc⟩
theorem Away.moved (h : Away w F A l) (hs : Spared w w' F) (hG : ∀ i, G i → F i ∨ w.heap.size ≤ i) : Away w' G A l := by
  rcases h with rfl | ⟨b, off, rfl, hb, hn, hc⟩
  · exact .inl rfl
  · refine .inr ⟨b, off, rfl, Nat.lt_of_lt_of_le hb hs.size, fun hg => (hG b hg).elim hn (fun h => by omega), fun j hj => ?_⟩
    exact (World.cell?_of_block (a := ⟨b, off + j, none⟩) (hs.block b hb hn)).trans (hc j hj)
end

theorem range_setCell {w : World} {b o g i : Nat} {cs : List Value} {u : Value} (h : w.rangeAt b o cs) (hne : g ≠ b) : (w.setCell ⟨g, i, none⟩ u).rangeAt b o cs := fun j v hv => by
  rw [World.cell?_setCell_other _ _ _ _ (fun e => hne (by injection e))]
  exact h j v hv
theorem range_grown {w w' : World} {b o : Nat} {cs : List Value} {row : Option Nat} (h : w.rangeAt b o cs) (hg : w.grownBy w' row) (hne : some b ≠ row) : w'.rangeAt b o cs := fun j v hv => by
  have h1 := h j v hv
  exact (World.cell?_of_block (a := ⟨b, o + j, none⟩) (hg.block b (World.block_lt_of_cell? w _ h1) hne)).trans h1
/-- 'copy(..)' of bytes into a block that is known whole -/
theorem wpList_copy_into {P : Program} {w : World} {ops : Array Oper} {rest : List Oper} {o : Oper} {a : Act} {Q : Exit → Act → World → Prop} (hgd : o.guard = none) (d s : Operand) (dT : TypeId)
    (ho : o.op = .call { callee := .builtin .copy, args := #[d, s], argTypes := #[dT, dT] }) (elem : TypeId) (hu : P.underlying dT = some (.slice elem)) (hsz : (P.info? elem).map (·.size) = some 1)
    (g off dLen dCap : Nat) (A : Option Addr) (r : List UInt8) (n sCap : Nat) (hd : a.eval d = .slice (some ⟨g, off, none⟩) dLen dCap) (hs : a.eval s = .slice A n sCap) (hrn : r.length = n)
    (cur : List Value) (t : TypeId) (hg : Blk w g cur t) (hr : Seen w A r) (h0 : 0 < n) (m : Nat) (hm : m = min n dLen) (hfit : off + m ≤ cur.length)
    (h : ∀ w', Hid (Blk w' g (splice cur off ((r.take m).map bv)) t) → Hid (w.grownBy w' (some g)) → wpList P ops Q rest (a.put o.dst (.int .i64 (m : Int))) w') : wpList P ops Q (o :: rest) a w := by
  subst hrn
  rcases hr with rfl | ⟨b, off', rfl, hb, hc⟩
  · simp at h0
  · have hl : ((r.take m).map bv).length = m := by simp; omega
    refine wpList_copy_own hgd d s dT dT ho elem hu hsz g off dLen dCap ⟨b, off', none⟩ r.length sCap hd hs cur.toArray t hg ((r.take m).map bv) (by rw [hl, hm]) (fun j v hv => ?_) (by rw [hl]; simpa using hfit) (fun v hv => by obtain ⟨x, _, rfl⟩ := List.mem_map.1 hv; rfl) ?_
    · obtain ⟨hj, hju⟩ := List.getElem?_eq_some_iff.1 hv
      rw [hl] at hj
      rw [add_plain, hc j (by omega), ← hju, List.getElem_map, List.getElem_take]
      rfl
    · rw [hl]
      refine h _ ?_ (only_setRow (World.grownBy.refl w _) _)
      have := setRow_heap w g _ (splice cur off ((r.take m).map bv)).toArray t _ hg
      unfold splice at this ⊢
      rw [hl] at this ⊢
      exact this
/-- the rest of a slice -/
theorem Seen.drop {w : World} {A : Option Addr} {l : List UInt8} (h : Seen w A l) (m c : Nat) (hc : l.length ≤ c) : Seen w (if c = m then A else A.map (·.add (m * 1))) (l.drop m) := by
  by_cases hm : l.length ≤ m
  · exact .inl (List.drop_eq_nil_of_le hm)
  · rcases h with rfl | ⟨b, off, rfl, hb, hc'⟩
    · simp at hm
    · rw [if_neg (by omega)]
      refine .inr ⟨b, off + m, ?_, hb, fun j hj => ?_⟩
      · rw [Nat.mul_one]; show some (Addr.add _ _) = _; rw [add_plain]
      · rw [List.length_drop] at hj
        rw [Nat.add_assoc, hc' (m + j) (by omega), List.getElem_drop]

/-- A slice that begins at A shows the numbers l. -/
def Ints (w : World) (A : Option Addr) (l : List Int) : Prop :=
  l = [] ∨ ∃ b off, A = some ⟨b, off, none⟩ ∧ b < w.heap.size ∧ ∀ j (h : j < l.length), w.cell? ⟨b, off + j, none⟩ = some (.int .i64 l[j])
/-- the same, in a block that is none of F -/
def IntsAway (w : World) (F : Nat → Prop) (A : Option Addr) (l : List Int) : Prop :=
  l = [] ∨ ∃ b off, A = some ⟨b, off, none⟩ ∧ b < w.heap.size ∧ ¬ F b ∧ ∀ j (h : j < l.length), w.cell? ⟨b, off + j, none⟩ = some (.int .i64 l[j])
section
variable {w w' : World} {F G : Nat → Prop} {A : Option Addr} {l : List Int}
theorem Ints.below (h : Ints w A l) (hb : Below w.heap.size w w') : Ints w' A l := by
  rcases h with rfl | ⟨b, off, rfl, hlt, hc⟩
  · exact .inl rfl
  · exact .inr ⟨b, off, rfl, Nat.lt_of_lt_of_le hlt hb.size, fun j hj => (hb.cell (p := ⟨b, off + j, none⟩) hlt).trans (hc j hj)⟩
theorem Ints.away (h : Ints w A l) (hb : Below w.heap.size w w') (hF : ∀ k, F k → w.heap.size ≤ k) : IntsAway w' F A l := by
  rcases h with rfl | ⟨b, off, rfl, hlt, hc⟩
  · exact .inl rfl
  · exact .inr ⟨b, off, rfl, Nat.lt_of_lt_of_le hlt hb.size, fun hf => by have := hF b hf; omega, fun j hj => (hb.cell (p := ⟨b, off + j, none⟩) hlt).trans (hc j hj)⟩
theorem IntsAway.moved (h : IntsAway w F A l) (hs : Spared w w' F) (hG : ∀ i, G i → F i ∨ w.heap.size ≤ i) : IntsAway w' G A l := by
  rcases h with rfl | ⟨b, off, rfl, hb, hn, hc⟩
  · exact .inl rfl
  · refine .inr ⟨b, off, rfl, Nat.lt_of_lt_of_le hb hs.size, fun hg => (hG b hg).elim hn (fun h => by omega), fun j hj => ?_⟩
    exact (World.cell?_of_block (a := ⟨b, off + j, none⟩) (hs.block b hb hn)).trans (hc j hj)
theorem IntsAway.at_ (h : IntsAway w F A l) (k : Nat) (hk : k < l.length) : ∃ b off, A = some ⟨b, off, none⟩ ∧ w.cell? ⟨b, off + k, none⟩ = some (.int .i64 l[k]) := by
  rcases h with rfl | ⟨b, off, rfl, _, _, hc⟩
  · simp at hk
  · exact ⟨b, off, rfl, hc k hk⟩
end
end Go.Proofs.Ytaeocbgmoijedaa
