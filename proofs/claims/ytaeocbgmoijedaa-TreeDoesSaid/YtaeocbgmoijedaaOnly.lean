/-
  What leaves all blocks but one as they were, and a row of the call's own behind it. No program is named here.
-/
import Derived.Test.YtaeocbgmoijedaaApp
namespace Go.Proofs.Ytaeocbgmoijedaa
open Go.RowKit

section
variable {w w' : World} {row : Option Nat}
theorem only_drew (h : w.grownBy w' row) : w.grownBy w'.drew row := ⟨h.os, h.tape, h.output, h.size, h.block⟩
theorem only_setCell {g : Nat} (h : w.grownBy w' (some g)) (i : Nat) (u : Value) : w.grownBy (w'.setCell ⟨g, i, none⟩ u) (some g) :=
  ⟨h.os, h.tape, h.output, by simpa [World.setCell] using h.size, fun k hk hne => (heap_setCell_other w' ⟨g, i, none⟩ k u (fun e => hne (by rw [e]))).trans (h.block k hk hne)⟩
theorem only_below {w1 : World} (h : w.grownBy w' row) (hb : Below w'.heap.size w' w1) : w.grownBy w1 row :=
  ⟨hb.os.trans h.os, hb.tape.trans h.tape, hb.output.trans h.output, Nat.le_trans h.size hb.size, fun k hk hne => (hb.block k (Nat.lt_of_lt_of_le hk h.size)).trans (h.block k hk hne)⟩
theorem only_of_below (h : Below w.heap.size w w') (row : Option Nat) : w.grownBy w' row := ⟨h.os, h.tape, h.output, h.size, fun i hi _ => h.block i hi⟩
theorem only_setCells {g : Nat} : ∀ (vs : List Value) (o : Nat) (w' : World), w.grownBy w' (some g) → w.grownBy (w'.setCells g o vs) (some g)
  | [], _, _, h => h
  | v :: r, o, _, h => only_setCells r (o + 1) _ (only_setCell h o v)
theorem only_setRow {g : Nat} (h : w.grownBy w' (some g)) (cs : Array Value) : w.grownBy (w'.setRow g cs) (some g) :=
  ⟨h.os, h.tape, h.output, by simpa using h.size, fun k hk hne => (setRow_other w' g k cs (fun e => hne (by rw [e]))).trans (h.block k hk hne)⟩
theorem only_trans {w'' : World} (h : w.grownBy w' row) (k : w'.grownBy w'' row) : w.grownBy w'' row :=
  ⟨k.os.trans h.os, k.tape.trans h.tape, k.output.trans h.output, Nat.le_trans h.size k.size, fun i hi hn => (k.block i (Nat.lt_of_lt_of_le hi h.size) hn).trans (h.block i hi hn)⟩
end

theorem own_off {wr : World} {base gs : Nat} {e : TypeId} {v : Value} {n : Nat} {xs : List Value} (h : wr.ownsRow base e 1 v n xs) (hg : gs < base) : v.ownBlock = none ∨ v.ownBlock ≠ some gs := by
  rcases h.2 with ⟨rfl, _⟩ | ⟨g, cap, cur, rfl, hb, _⟩
  · exact .inl rfl
  · right; intro e; injection e with e; change g = gs at e; omega
theorem own_seen {wr : World} {base : Nat} {e : TypeId} {A : Option Addr} {p : List UInt8} {c : Nat} (h : wr.ownsRow base e 1 (.slice A p.length c) p.length (p.map bv)) : Seen wr A p ∧ p.length ≤ c := by
  refine ⟨(Seen.of_own h).1, ?_⟩
  rcases h.2 with ⟨hv, h0⟩ | ⟨g, cap, cur, hv, _, _, hnc, _⟩
  · omega
  · injection hv with _ _ hc; omega
theorem own_form {wr : World} {base : Nat} {e : TypeId} {v : Value} {n : Nat} {xs : List Value} (h : wr.ownsRow base e 1 v n xs) : ∃ A c, v = .slice A n c := by
  rcases h.2 with ⟨rfl, h0⟩ | ⟨g, cap, cur, rfl, _⟩
  · exact ⟨none, 0, by rw [h0]⟩
  · exact ⟨_, _, rfl⟩
theorem own_below {w w' : World} {base : Nat} {e : TypeId} {v : Value} {n : Nat} {xs : List Value} (h : w.ownsRow base e 1 v n xs) (hb : Below w.heap.size w w') : w'.ownsRow base e 1 v n xs :=
  h.kept (only_of_below hb none) (by cases v.ownBlock <;> simp)
section
variable {e : TypeId} {w0 w w' : World}
theorem Made.below {l : List UInt8} {v : Value} (h : Made e w0 l v w) (hb : Below w.heap.size w w') : Made e w0 l v w' :=
  ⟨h.1.kept (only_of_below hb none) (by cases v.ownBlock <;> simp), hop h.2 hb⟩
end

/-- 'append(d, y)', one byte, the new slice written out -/
theorem wpList_append_one {P : Program} (w : World) {ops : Array Oper} {rest : List Oper} {o : Oper} {a : Act} {Q : Exit → Act → World → Prop} (hgd : o.guard = none) (s x : Operand) (t : TypeId)
    (ho : o.op = .call { callee := .builtin .append, args := #[s, x], argTypes := #[t, t] })
    (e : TypeId) (i : TypeInfo) (z : Value) (ht : P.underlying t = some (.slice e)) (hi : P.info? e = some i) (hz : i.zero = some z)
    (hsize : i.size = 1) (hby : i.bytes = 1) (hzs : z.cells.size = 1)
    (w0 : World) (A : Option Addr) (n c : Nat) (d : List UInt8) (y : Int) (b8 : UInt8) (hs : a.eval s = .slice A n c) (hx : a.eval x = .slice (some ⟨w.heap.size, 0, none⟩) 1 1)
    (H : Made e w0 d (.slice A n c) w) (hn : d.length = n) (hy : (b8.toNat : Int) = y) (hb : n + 1 ≤ 140737488355328)
    (h : ∀ A' c' w', Made e w0 (d ++ [b8]) (.slice A' (n + 1) c') w' → wpList P ops Q rest (a.put o.dst (.slice A' (n + 1) c')) w') :
    wpList P ops Q (o :: rest) a (w.alloc (.cells #[.int .u8 y] e)) := by
  have h8 := b8.toNat_lt
  refine wpList_append_byte w hgd s x t ho e i z ht hi hz hsize hby hzs w0 (.slice A n c) d y hs hx H (by omega) (by omega) (by omega) (fun v' w' HM => ?_)
  have e1 : pushed d y = d ++ [b8] := by
    unfold pushed; rw [← hy, Int.toNat_natCast, UInt8.ofNat_toNat]
  rw [e1] at HM
  obtain ⟨A', c', rfl, _⟩ := HM.form
  rw [List.length_append, hn] at HM ⊢
  exact h A' c' w' HM
/-- the same, any bytes that have been laid into a new block -/
theorem wpList_append_laid {P : Program} (w : World) {ops : Array Oper} {rest : List Oper} {o : Oper} {a : Act} {Q : Exit → Act → World → Prop} (hgd : o.guard = none) (s x : Operand) (t : TypeId)
    (ho : o.op = .call { callee := .builtin .append, args := #[s, x], argTypes := #[t, t] })
    (e : TypeId) (i : TypeInfo) (z : Value) (ht : P.underlying t = some (.slice e)) (hi : P.info? e = some i) (hz : i.zero = some z)
    (hsize : i.size = 1) (hby : i.bytes = 1) (hzs : z.cells.size = 1)
    (w0 : World) (A : Option Addr) (n c : Nat) (d : List UInt8) (ys : List UInt8) (m : Nat) (cs : Array Value) (hs : a.eval s = .slice A n c) (hx : a.eval x = .slice (some ⟨w.heap.size, 0, none⟩) m m)
    (H : Made e w0 d (.slice A n c) w) (hn : d.length = n) (hm : ys.length = m) (hcs : (ys.map bv).toArray = cs) (hb : n + m ≤ 140737488355328)
    (h : ∀ A' c' w', Made e w0 (d ++ ys) (.slice A' (n + m) c') w' → wpList P ops Q rest (a.put o.dst (.slice A' (n + m) c')) w') :
    wpList P ops Q (o :: rest) a (w.alloc (.cells cs e)) := by
  subst hm hcs
  have hsn : Seen (w.alloc (.cells (ys.map bv).toArray e)) (some ⟨w.heap.size, 0, none⟩) ys :=
    .inr ⟨w.heap.size, 0, rfl, by simp, fun j hj => by
      rw [World.cell?_alloc_at _ _ _ _ rfl, Nat.zero_add]
      simp [hj, bv]⟩
  refine wpList_append_bytes (w.alloc (.cells (ys.map bv).toArray e)) hgd s x t ho e i z ht hi hz hsize hby hzs w0 (.slice A n c) d (some ⟨w.heap.size, 0, none⟩) ys ys.length hs hx (H.below ((Below.refl _ _).alloc (Nat.le_refl _) _)) hsn (by omega) (fun v' w' HM _ => ?_)
  obtain ⟨A', c', rfl, _⟩ := HM.form
  rw [List.length_append, hn] at HM ⊢
  exact h A' c' w' HM
end Go.Proofs.Ytaeocbgmoijedaa
