/-
  'append' onto a row of the call's own, with the new list and its length named ahead. No program is named here.
-/
import Derived.Test.YtkbjhnlihnakkaaMadeN
namespace Go.Proofs.Ytkbjhnlihnakkaa
open Go.RowKit

theorem MadeN.below {e : TypeId} {w0 w w' : World} {l : List UInt8} {A : Option Addr} {n c : Nat} (h : MadeN e w0 l A n c w) (hb : Below w.heap.size w w') : MadeN e w0 l A n c w' := ⟨h.1, h.2.below hb⟩

/-- 'append(d, l...)' -/
theorem wpList_append_to {P : Program} (w : World) {ops : Array Oper} {rest : List Oper} {o : Oper} {a : Act} {Q : Exit → Act → World → Prop} (hgd : o.guard = none) (s x : Operand) (t : TypeId)
    (ho : o.op = .call { callee := .builtin .append, args := #[s, x], argTypes := #[t, t] })
    (e : TypeId) (i : TypeInfo) (z : Value) (ht : P.underlying t = some (.slice e)) (hi : P.info? e = some i) (hz : i.zero = some z)
    (hsize : i.size = 1) (hby : i.bytes = 1) (hzs : z.cells.size = 1)
    (w0 : World) (A : Option Addr) (n c : Nat) (d : List UInt8) (B : Option Addr) (m k : Nat) (l : List UInt8) (D : List UInt8) (N : Nat) (hs : a.eval s = .slice A n c) (hx : a.eval x = .slice B m k)
    (H : Hid (MadeN e w0 d A n c w)) (hr : Hid (Seen w B l)) (hm : Hid (l.length = m)) (hD : Hid (D = d ++ l)) (hN : Hid (N = n + m)) (hb : n + m ≤ 140737488355328)
    (h : ∀ A' c' w', Hid (MadeN e w0 D A' N c' w') → Hid (Below w0.heap.size w w') → wpList P ops Q rest (a.put o.dst (.slice A' N c')) w') :
    wpList P ops Q (o :: rest) a w := by
  have hm := hm.out
  subst hm
  refine wpList_append_bytes w hgd s x t ho e i z ht hi hz hsize hby hzs w0 (.slice A n c) d B l k hs hx H.out.2 hr.out (by rw [H.out.1]; exact hb) (fun v' w' HM hbl => ?_)
  obtain ⟨A', c', rfl, _⟩ := HM.form
  rw [← hD.out] at HM
  have hl : D.length = N := by rw [hD.out, hN.out, List.length_append, H.out.1]
  have e1 : (d ++ l).length = N := by rw [← hD.out]; exact hl
  rw [hl] at HM
  rw [e1]
  exact h A' c' w' ⟨hl, HM⟩ hbl
/-- bytes that have been laid into a new block -/
theorem wpList_append_new {P : Program} (w : World) {ops : Array Oper} {rest : List Oper} {o : Oper} {a : Act} {Q : Exit → Act → World → Prop} (hgd : o.guard = none) (s x : Operand) (t : TypeId)
    (ho : o.op = .call { callee := .builtin .append, args := #[s, x], argTypes := #[t, t] })
    (e : TypeId) (i : TypeInfo) (z : Value) (ht : P.underlying t = some (.slice e)) (hi : P.info? e = some i) (hz : i.zero = some z)
    (hsize : i.size = 1) (hby : i.bytes = 1) (hzs : z.cells.size = 1)
    (w0 : World) (A : Option Addr) (n c : Nat) (d : List UInt8) (m : Nat) (cs : Array Value) (l : List UInt8) (D : List UInt8) (N : Nat) (hs : a.eval s = .slice A n c) (b : Nat) (hb0 : w.heap.size = b) (hx : a.eval x = .slice (some ⟨b, 0, none⟩) m m)
    (H : Hid (MadeN e w0 d A n c w)) (hcs : (l.map bv).toArray = cs) (hm : Hid (l.length = m)) (hD : Hid (D = d ++ l)) (hN : Hid (N = n + m)) (hb : n + m ≤ 140737488355328)
    (h : ∀ A' c' w', Hid (MadeN e w0 D A' N c' w') → Hid (Below w0.heap.size w w') → wpList P ops Q rest (a.put o.dst (.slice A' N c')) w') :
    wpList P ops Q (o :: rest) a (w.alloc (.cells cs e)) := by
  subst hcs
  subst hb0
  have hal : Below w.heap.size w (w.alloc (.cells (l.map bv).toArray e)) := (Below.refl _ _).alloc (Nat.le_refl _) _
  exact wpList_append_to (w.alloc (.cells (l.map bv).toArray e)) hgd s x t ho e i z ht hi hz hsize hby hzs w0 A n c d (some ⟨w.heap.size, 0, none⟩) m m l D N hs hx (H.out.below hal) (seen_mark w e l (0, 0)) hm hD hN hb
    (fun A' c' w' h1 h2 => h A' c' w' h1 ((hal.mono H.out.2.2.size).trans h2.out))

/-- what an append to v leaves, that answers v' -/
def Grew (w : World) (v : Value) (w' : World) (v' : Value) : Prop := w.grownBy w' v.ownBlock ∧ (v'.ownBlock = v.ownBlock ∨ ∃ g, v'.ownBlock = some g ∧ w.heap.size ≤ g)
theorem Grew.after {w w1 w2 : World} {v v' : Value} (h : Grew w1 v w2 v') (hb : Below w.heap.size w w1) : Grew w v w2 v' :=
  ⟨only_trans (only_of_below hb _) h.1, h.2.elim .inl (fun ⟨g, h1, h2⟩ => .inr ⟨g, h1, Nat.le_trans hb.size h2⟩)⟩
theorem Grew.trans {w w1 w2 : World} {v v1 v2 : Value} (h : Grew w v w1 v1) (k : Grew w1 v1 w2 v2) : Grew w v w2 v2 := by
  refine ⟨⟨k.1.os.trans h.1.os, k.1.tape.trans h.1.tape, k.1.output.trans h.1.output, Nat.le_trans h.1.size k.1.size, fun i hi hn => ?_⟩, ?_⟩
  · refine (k.1.block i (Nat.lt_of_lt_of_le hi h.1.size) ?_).trans (h.1.block i hi hn)
    rcases h.2 with e | ⟨g, e, hg⟩
    · rw [e]; exact hn
    · rw [e]; intro e'; injection e' with e'; omega
  · rcases k.2 with e | ⟨g, e, hg⟩
    · rw [e]; exact h.2
    · exact .inr ⟨g, e, Nat.le_trans h.1.size hg⟩

theorem run_append_to {P : Program} (w : World) (t ty e : TypeId) (i : TypeInfo) (z : Value) (ht : P.underlying t = some (.slice e)) (hi : P.info? e = some i) (hz : i.zero = some z)
    (hsize : i.size = 1) (hby : i.bytes = 1) (hzs : z.cells.size = 1)
    (w0 : World) (A : Option Addr) (n c : Nat) (d : List UInt8) (B : Option Addr) (m k : Nat) (l : List UInt8) (D : List UInt8) (N : Nat)
    (H : Hid (MadeN e w0 d A n c w)) (hr : Hid (Seen w B l)) (hm : Hid (l.length = m)) (hD : Hid (D = d ++ l)) (hN : Hid (N = n + m)) (hb : n + m ≤ 140737488355328) :
    ∃ A' c' w', (Builtin.append_ #[t, t] ty #[.slice A n c, .slice B m k]).run P w = .ok (.slice A' N c') w' ∧ Hid (MadeN e w0 D A' N c' w') ∧ Hid (Below w0.heap.size w w') ∧ Hid (Grew w (.slice A n c) w' (.slice A' N c')) := by
  have hm := hm.out
  subst hm
  have hown : w.ownsRow w0.heap.size e 1 (.slice A n c) d.length (d.map bv) := H.out.2.1
  obtain ⟨v', w', hrun, hown', hg, hat⟩ := run_append_seen (P := P) w w0.heap.size t ty e i z ht hi hz hsize hby hzs (.slice A n c) d.length (d.map bv) hown B l k hr.out (by rw [H.out.1]; exact hb) H.out.2.2.size
  have hB := H.out.2.2
  have e1 : d.length + l.length = N := by rw [hN.out, H.out.1]
  have hlen : D.length = N := by rw [hD.out, List.length_append]; exact e1
  have hown2 : w'.ownsRow w0.heap.size e 1 v' D.length (D.map bv) := by
    rw [hD.out, List.map_append, List.length_append]
    exact hown'
  have hmade : Made e w0 D v' w' := ⟨hown2, below_grown hB hB.size hown hg⟩
  obtain ⟨A', c', rfl, _⟩ := hmade.form
  rw [hlen] at hrun hmade
  refine ⟨A', c', w', hrun, ⟨hlen, hmade⟩, below_grown (Below.refl _ _) hB.size hown hg, hg, ?_⟩
  rw [hlen] at hat
  exact hat.elim .inl (fun h => .inr ⟨_, h, Nat.le_refl _⟩)

/-- the same as a step of a statement whose order is open -/
theorem step_append_to {P : Program} {ops : Array Oper} {o : Oper} {a : Act} {K : Act → World → Prop} {Q : Exit → Act → World → Prop} {E : Prop} (w : World) (hgd : o.guard = none) (s x : Operand) (t : TypeId)
    (ho : o.op = .call { callee := .builtin .append, args := #[s, x], argTypes := #[t, t] })
    (e : TypeId) (i : TypeInfo) (z : Value) (ht : P.underlying t = some (.slice e)) (hi : P.info? e = some i) (hz : i.zero = some z)
    (hsize : i.size = 1) (hby : i.bytes = 1) (hzs : z.cells.size = 1)
    (w0 : World) (A : Option Addr) (n c : Nat) (d : List UInt8) (B : Option Addr) (m k : Nat) (l : List UInt8) (D : List UInt8) (N : Nat) (hs : a.eval s = .slice A n c) (hx : a.eval x = .slice B m k)
    (H : Hid (MadeN e w0 d A n c w)) (hr : Hid (Seen w B l)) (hm : Hid (l.length = m)) (hD : Hid (D = d ++ l)) (hN : Hid (N = n + m)) (hb : n + m ≤ 140737488355328)
    (h : ∀ A' c' w', Hid (MadeN e w0 D A' N c' w') → Hid (Below w0.heap.size w w') → Hid (Grew w (.slice A n c) w' (.slice A' N c')) → K (a.put o.dst (.slice A' N c')) w') :
    if Region.wanted o (yielded ops a.tmps) = true then Oper.wp P o a w K Q else E := by
  have hw : Region.wanted o (yielded ops a.tmps) = true := by simp [Region.wanted, hgd]
  rw [if_pos hw]
  obtain ⟨A', c', w', hrun, h1, h2, h3⟩ := run_append_to (P := P) w t o.type e i z ht hi hz hsize hby hzs w0 A n c d B m k l D N H hr hm hD hN hb
  unfold Oper.wp execOp
  simp only [ho, resolve, invoke, builtin, Sem.run_bind, Sem.run_pure, Result.andThen_ok, List.map_toArray, List.map_cons, List.map_nil, hs, hx, hrun]
  exact h A' c' w' h1 h2 h3

/-- 'append(d, l...)', what it leaves told whole -/
theorem wpList_append_by {P : Program} (w : World) {ops : Array Oper} {rest : List Oper} {o : Oper} {a : Act} {Q : Exit → Act → World → Prop} (hgd : o.guard = none) (s x : Operand) (t : TypeId)
    (ho : o.op = .call { callee := .builtin .append, args := #[s, x], argTypes := #[t, t] })
    (e : TypeId) (i : TypeInfo) (z : Value) (ht : P.underlying t = some (.slice e)) (hi : P.info? e = some i) (hz : i.zero = some z)
    (hsize : i.size = 1) (hby : i.bytes = 1) (hzs : z.cells.size = 1)
    (w0 : World) (A : Option Addr) (n c : Nat) (d : List UInt8) (B : Option Addr) (m k : Nat) (l : List UInt8) (D : List UInt8) (N : Nat) (hs : a.eval s = .slice A n c) (hx : a.eval x = .slice B m k)
    (H : Hid (MadeN e w0 d A n c w)) (hr : Hid (Seen w B l)) (hm : Hid (l.length = m)) (hD : Hid (D = d ++ l)) (hN : Hid (N = n + m)) (hb : n + m ≤ 140737488355328)
    (h : ∀ A' c' w', Hid (MadeN e w0 D A' N c' w') → Hid (Grew w (.slice A n c) w' (.slice A' N c')) → wpList P ops Q rest (a.put o.dst (.slice A' N c')) w') :
    wpList P ops Q (o :: rest) a w := by
  refine wpList_plain hgd fun K hK => ?_
  obtain ⟨A', c', w', hrun, h1, _, h3⟩ := run_append_to (P := P) w t o.type e i z ht hi hz hsize hby hzs w0 A n c d B m k l D N H hr hm hD hN hb
  unfold Oper.wp execOp
  simp only [ho, resolve, invoke, builtin, Sem.run_bind, Sem.run_pure, Result.andThen_ok, List.map_toArray, List.map_cons, List.map_nil, hs, hx, hrun]
  exact hK _ _ (h A' c' w' h1 h3)
end Go.Proofs.Ytkbjhnlihnakkaa
