/-
  Places in a text: the tokens from a place on, the line and the column of a place, the token that begins there as the program takes it. No program is named.
  How many tokens a part of the grammar leaves. No program is named.
  A type behind its word, as a list of words. No program is named.
  A fault has a number. No program is named.
  The document's Parse: its tokens, its reader, what its loops have made. No program is named.
-/
import Derived.Test.YtehabjiacgibpaaGreatCLpE
import Derived.Test.YtehabjiacgibpaaGreatCRoCx
import Derived.Test.YtehabjiacgibpaaGreatCLpR
import Derived.Test.YtehabjiacgibpaaGreatCRuF0
namespace Go.Proofs.YtehabjiacgibpaaGreat
open Go.RowKit
def blankB (c : UInt8) : Bool := decide (c = 32) || (decide (c = 9) || decide (c = 10))
def stepP (p : Nat × Nat) (b : UInt8) : Nat × Nat := if b = 10 then (p.1 + 1, 1) else (p.1, p.2 + 1)
def posT (l : Txt) (i : Nat) : Nat × Nat := (l.take i).foldl stepP (1, 1)
def toks (l : Txt) (i : Nat) : List Tk := tokL (l.drop i) (posT l i).1 (posT l i).2
def tlen : Txt → Nat
  | [] => 0
  | c :: r => if lowB c then (r.takeWhile nmB).length + 1 else 1
def curT (l : Txt) (i : Nat) : Txt := (l.drop i).take (tlen (l.drop i))
theorem posT_succ {l : Txt} {i : Nat} (h : i < l.length) : posT l (i + 1) = stepP (posT l i) l[i] := by
  unfold posT
  rw [List.take_succ_eq_append_getElem h, List.foldl_append]
  rfl
theorem toks_end {l : Txt} {i : Nat} (h : l.length ≤ i) : toks l i = [([], posT l i)] := by
  unfold toks
  rw [List.drop_of_length_le h, tokL]
theorem low_more {c : UInt8} (h : lowB c = true) : c ≠ 10 ∧ ¬ (c = 32 ∨ c = 9) ∧ c ∉ signs := by
  refine ⟨?_, ?_, ?_⟩
  · rintro rfl; revert h; decide
  · rintro (rfl | rfl) <;> (revert h; decide)
  · intro hc
    have : ∀ x ∈ signs, lowB x = false := by decide
    rw [this c hc] at h; cases h
theorem nm_more {c : UInt8} (h : nmB c = true) : c ≠ 10 := by
  rintro rfl; revert h; decide
theorem fold_word : ∀ (x : Txt) (p : Nat × Nat), (∀ c ∈ x, nmB c = true) → x.foldl stepP p = (p.1, p.2 + x.length)
  | [], p, _ => rfl
  | c :: r, p, h => by
    rw [List.foldl_cons, stepP, if_neg (nm_more (h c List.mem_cons_self)), fold_word r _ (fun y hy => h y (List.mem_cons_of_mem _ hy))]
    simp; omega
theorem wordL_tlen {c : UInt8} {r : Txt} (h : lowB c = true) : wordL (c :: r) = tlen (c :: r) := by
  rw [wordL, tlen, if_pos h, if_pos h]
theorem tlen_le (l : Txt) : tlen l ≤ l.length := by
  cases l with
  | nil => simp [tlen]
  | cons c r =>
    rw [tlen]
    have := (List.takeWhile_sublist (l := r) nmB).length_le
    split <;> simp <;> omega
theorem while_all : ∀ (r : Txt), ∀ x ∈ r.take (r.takeWhile nmB).length, nmB x = true
  | [], x, hx => by simp at hx
  | c :: r, x, hx => by
    by_cases hc : nmB c = true
    · rw [List.takeWhile_cons, if_pos hc, List.length_cons, List.take_succ_cons] at hx
      rcases List.mem_cons.1 hx with rfl | hx
      · exact hc
      · exact while_all r x hx
    · rw [List.takeWhile_cons, if_neg hc] at hx
      simp at hx
theorem take_word {c : UInt8} {r : Txt} (h : lowB c = true) : ∀ x ∈ (c :: r).take (tlen (c :: r)), nmB x = true := by
  intro x hx
  rw [tlen, if_pos h, List.take_succ_cons] at hx
  rcases List.mem_cons.1 hx with rfl | hx
  · exact low_nm h
  · exact while_all r x hx
theorem posT_word {l : Txt} {i : Nat} (h : i < l.length) (hl : lowB l[i] = true) : posT l (i + tlen (l.drop i)) = ((posT l i).1, (posT l i).2 + tlen (l.drop i)) := by
  unfold posT
  rw [List.take_add, List.foldl_append, fold_word]
  · rw [List.length_take, Nat.min_eq_left (tlen_le _)]
  · have := take_word (r := l.drop (i + 1)) hl
    rwa [← List.drop_eq_getElem_cons h] at this
theorem toks_word {l : Txt} {i : Nat} (h : i < l.length) (hl : lowB l[i] = true) : toks l i = (curT l i, posT l i) :: toks l (i + tlen (l.drop i)) := by
  obtain ⟨h1, h2, _⟩ := low_more hl
  have e := posT_word h hl
  unfold toks curT
  rw [e, ← List.drop_drop]
  have hd := List.drop_eq_getElem_cons h
  generalize l.drop i = x at *
  subst hd
  rw [tokL, if_neg h1, if_neg h2, wordL_tlen hl, dif_neg (by rw [tlen, if_pos hl]; omega)]
theorem toks_sign {l : Txt} {i : Nat} (h : i < l.length) (hs : l[i] ∈ signs) : toks l i = ([l[i]], posT l i) :: toks l (i + 1) := by
  have hm : ∀ x ∈ signs, x ≠ 10 ∧ ¬ (x = 32 ∨ x = 9) ∧ lowB x = false ∧ signT x = [x] ∧ ¬ ([x] : Txt) = [63] := by decide
  obtain ⟨h1, h2, h3, h4, h5⟩ := hm _ hs
  unfold toks
  rw [posT_succ h, stepP, if_neg h1, List.drop_eq_getElem_cons h, tokL, if_neg h1, if_neg h2, dif_pos (by rw [wordL, if_neg (by rw [h3]; decide)]), h4, if_neg h5]
theorem toks_bad {l : Txt} {i : Nat} (h : i < l.length) (hb : blankB l[i] = false) (hl : lowB l[i] = false) (hs : l[i] ∉ signs) : toks l i = [([63], posT l i)] := by
  have h1 : l[i] ≠ 10 := fun e => by rw [e] at hb; revert hb; decide
  have h2 : ¬ (l[i] = 32 ∨ l[i] = 9) := fun e => by rcases e with e | e <;> (rw [e] at hb; revert hb; decide)
  unfold toks
  rw [List.drop_eq_getElem_cons h, tokL, if_neg h1, if_neg h2, dif_pos (by rw [wordL, if_neg (by rw [hl]; decide)]), signT, if_neg hs, if_pos rfl]
def Tok (x t : Txt) : Prop := x = t ∨ (t = [63] ∧ ∃ c, x = [c] ∧ lowB c = false ∧ c ∉ signs)
def Good (s : Txt) : Prop := s = [] ∨ (∃ c r, s = c :: r ∧ lowB c = true) ∨ ∃ c ∈ signs, s = [c]
theorem Good.no63 {s : Txt} (h : Good s) : s ≠ [63] := by
  rcases h with rfl | ⟨c, r, rfl, h⟩ | ⟨c, h, rfl⟩
  · decide
  · intro e
    injection e with e _
    subst e; revert h; decide
  · intro e
    injection e with e _
    subst e; revert h; decide
theorem Tok.eq {x t s : Txt} (h : Tok x t) (hs : Good s) : x = s ↔ t = s := by
  rcases h with rfl | ⟨rfl, c, rfl, h1, h2⟩
  · exact Iff.rfl
  · refine ⟨fun e => ?_, fun e => absurd e.symm hs.no63⟩
    subst e
    rcases hs with e | ⟨d, r, e, h⟩ | ⟨d, h, e⟩
    · cases e
    · injection e with e _
      subst e; rw [h1] at h; cases h
    · injection e with e _
      subst e; exact absurd h h2
theorem Tok.name {x t : Txt} (h : Tok x t) : nameL x = nameL t := by
  rcases h with rfl | ⟨rfl, c, rfl, h1, h2⟩
  · rfl
  · rw [show nameL [63] = false from by decide]
    simp [nameL, h1]
def Start (l : Txt) (i : Nat) : Prop := i ≤ l.length ∧ ∀ h : i < l.length, blankB l[i] = false
theorem Start.cases {l : Txt} {i : Nat} (h : Start l i) : (i = l.length ∧ curT l i = [] ∧ tlen (l.drop i) = 0 ∧ toks l i = [([], posT l i)]) ∨
    (∃ h : i < l.length, lowB l[i] = true ∧ toks l i = (curT l i, posT l i) :: toks l (i + tlen (l.drop i)) ∧ 0 < tlen (l.drop i)) ∨
    (∃ h : i < l.length, lowB l[i] = false ∧ l[i] ∈ signs ∧ curT l i = [l[i]] ∧ tlen (l.drop i) = 1 ∧ toks l i = ([l[i]], posT l i) :: toks l (i + 1)) ∨
    (∃ h : i < l.length, lowB l[i] = false ∧ l[i] ∉ signs ∧ curT l i = [l[i]] ∧ tlen (l.drop i) = 1 ∧ toks l i = [([63], posT l i)]) := by
  obtain ⟨h1, h2⟩ := h
  by_cases hlt : i < l.length
  · have hd := List.drop_eq_getElem_cons hlt
    by_cases hl : lowB l[i] = true
    · exact .inr (.inl ⟨hlt, hl, toks_word hlt hl, by rw [hd, tlen, if_pos hl]; omega⟩)
    · have hl' : lowB l[i] = false := by simpa using hl
      have ht : tlen (l.drop i) = 1 := by rw [hd, tlen, if_neg hl]
      have hc : curT l i = [l[i]] := by rw [curT, ht, hd]; rfl
      by_cases hs : l[i] ∈ signs
      · exact .inr (.inr (.inl ⟨hlt, hl', hs, hc, ht, toks_sign hlt hs⟩))
      · exact .inr (.inr (.inr ⟨hlt, hl', hs, hc, ht, toks_bad hlt (h2 hlt) hl' hs⟩))
  · have hi : i = l.length := by omega
    refine .inl ⟨hi, ?_, ?_, toks_end (by omega)⟩
    · rw [curT, List.drop_of_length_le (by omega)]; rfl
    · rw [List.drop_of_length_le (by omega)]; rfl
theorem Start.tail {l : Txt} {i : Nat} (h : Start l i) (h1 : (nx (toks l i)).1 ≠ []) (h2 : (nx (toks l i)).1 ≠ [63]) : (toks l i).tail = toks l (i + tlen (l.drop i)) ∧ 0 < tlen (l.drop i) := by
  rcases h.cases with ⟨_, _, _, e⟩ | ⟨_, _, e, h3⟩ | ⟨_, _, _, _, e1, e⟩ | ⟨_, _, _, _, _, e⟩
  · rw [e] at h1; exact absurd rfl h1
  · rw [e]; exact ⟨rfl, h3⟩
  · rw [e, e1]; exact ⟨rfl, by decide⟩
  · rw [e] at h2; exact absurd rfl h2
end Go.Proofs.YtehabjiacgibpaaGreat
namespace Go.Proofs.YtehabjiacgibpaaGreat
open Go.RowKit
def Lv {α : Type} (x : Rs α) (n : Nat) : Prop := ∀ a r, x = .ok a r → r.length ≤ n
theorem Lv.then {α β : Type} {x : Rs α} {f : α → List Tk → Rs β} {n m : Nat} (h : Lv x n) (hf : ∀ a r, r.length ≤ n → Lv (f a r) m) : Lv (x.then f) m := by
  intro b r hb
  obtain ⟨a, r', h1, h2⟩ := Rs.then_ok hb
  exact hf a r' (h a r' h1) b r h2
theorem Lv.ok {α : Type} {a : α} {r : List Tk} {n : Nat} (h : r.length ≤ n) : Lv (.ok a r) n := by
  intro b r' hb
  injection hb with _ hb
  subst hb; exact h
theorem Lv.no {α : Type} {d : Dg} {n : Nat} : Lv (.no d : Rs α) n := by
  intro b r' hb; cases hb
theorem Lv.mono {α : Type} {x : Rs α} {n m : Nat} (h : Lv x n) (hm : n ≤ m) : Lv x m := fun a r ha => Nat.le_trans (h a r ha) hm
theorem name_lv (ts : List Tk) : Lv (nameP ts) (ts.length - 1) := by
  unfold nameP
  split
  · exact Lv.ok (by simp)
  · exact Lv.no
theorem must_lv (s : Txt) (ts : List Tk) : Lv (mustP s ts) (ts.length - 1) := by
  unfold mustP
  split
  · exact Lv.ok (by simp)
  · exact Lv.no
theorem ref_lv (ts : List Tk) : Lv (refP ts) (ts.length - 1) := by
  unfold refP
  refine (name_lv ts).then fun a r hr => ?_
  split
  · refine (name_lv _).then fun b r' hr' => Lv.ok ?_
    simp at hr'; omega
  · exact Lv.ok hr
theorem refs_lv : ∀ (n : Nat) (ts : List Tk), Lv (refsLoop n ts) ts.length
  | 0, ts => Lv.ok (Nat.le_refl _)
  | n + 1, ts => by
    unfold refsLoop
    split
    · refine (ref_lv _).then fun x r hr => (refs_lv n r).then fun l r' hr' => Lv.ok ?_
      simp at hr; omega
    · exact Lv.ok (Nat.le_refl _)
theorem atom_lv {sub : Option (List Tk → Rs Ex)} (hs : ∀ f, sub = some f → ∀ ts, Lv (f ts) ts.length) (ts : List Tk) : Lv (atomK sub ts) (ts.length - 1) := by
  unfold atomK
  split
  · cases sub with
    | none => exact Lv.no
    | some f =>
      refine (hs f rfl _).then fun e r hr => (must_lv _ _).then fun _ r' hr' => Lv.ok ?_
      simp at hr; omega
  · refine (name_lv ts).then fun a r hr => ?_
    split
    · refine (name_lv _).then fun b r' hr' => Lv.ok ?_
      simp at hr'; omega
    · exact Lv.ok hr
theorem two_lv (k : Int) (t : Tk) (a b : Ex) (r : List Tk) : Lv (twoP k t a b r) r.length := by
  unfold twoP
  split
  · exact Lv.no
  · exact Lv.ok (Nat.le_refl _)
theorem termLoop_lv {sub : Option (List Tk → Rs Ex)} (hs : ∀ f, sub = some f → ∀ ts, Lv (f ts) ts.length) : ∀ (n : Nat) (a : Ex) (ts : List Tk), Lv (termLoop sub n a ts) ts.length
  | 0, a, ts => Lv.ok (Nat.le_refl _)
  | n + 1, a, ts => by
    unfold termLoop
    split
    · refine (atom_lv hs _).then fun b r hr => (two_lv _ _ _ _ _).then fun e r' hr' => (termLoop_lv hs n e r').mono ?_
      simp at hr; omega
    · exact Lv.ok (Nat.le_refl _)
theorem term_lv {sub : Option (List Tk → Rs Ex)} (hs : ∀ f, sub = some f → ∀ ts, Lv (f ts) ts.length) (ts : List Tk) : Lv (termK sub ts) (ts.length - 1) := by
  unfold termK
  exact (atom_lv hs ts).then fun a r hr => (termLoop_lv hs _ _ _).mono hr
theorem exprLoop_lv {sub : Option (List Tk → Rs Ex)} (hs : ∀ f, sub = some f → ∀ ts, Lv (f ts) ts.length) : ∀ (n : Nat) (a : Ex) (ts : List Tk), Lv (exprLoop sub n a ts) ts.length
  | 0, a, ts => Lv.ok (Nat.le_refl _)
  | n + 1, a, ts => by
    unfold exprLoop
    split
    · refine (term_lv hs _).then fun b r hr => (two_lv _ _ _ _ _).then fun e r' hr' => (exprLoop_lv hs n e r').mono ?_
      simp at hr; omega
    · exact Lv.ok (Nat.le_refl _)
theorem expr_lv {sub : Option (List Tk → Rs Ex)} (hs : ∀ f, sub = some f → ∀ ts, Lv (f ts) ts.length) (ts : List Tk) : Lv (exprK sub ts) (ts.length - 1) := by
  unfold exprK
  exact (term_lv hs ts).then fun a r hr => (exprLoop_lv hs _ _ _).mono hr
theorem exprD_lv : ∀ (d : Nat) (ts : List Tk), Lv (exprD d ts) (ts.length - 1)
  | 0, ts => expr_lv (fun f h => by cases h) ts
  | d + 1, ts => expr_lv (fun f h ts => by
      injection h with h
      subst h
      exact (exprD_lv d ts).mono (by omega)) ts
theorem told_lv (ts : List Tk) : Lv (toldP ts) (ts.length - 1) := by
  unfold toldP
  refine (name_lv ts).then fun _ r hr => (must_lv _ r).then fun _ r1 h1 => (ref_lv r1).then fun _ r2 h2 => (refs_lv _ r2).then fun _ r3 h3 => Lv.ok ?_
  omega
theorem def_lv (ts : List Tk) : Lv (defP ts) (ts.length - 1) := by
  unfold defP
  refine (name_lv ts).then fun _ r hr => (must_lv _ r).then fun _ r1 h1 => (exprD_lv 12 r1).then fun _ r2 h2 => Lv.ok ?_
  omega
end Go.Proofs.YtehabjiacgibpaaGreat
namespace Go.Proofs.YtehabjiacgibpaaGreat
open Go.RowKit
def typP (ts : List Tk) : Rs Ty := (nameP ts).then fun s r => (relsLoop r.length r).then fun rs r => .ok ⟨s, rs⟩ r
theorem types_typ : ∀ (n : Nat) (ts : List Tk), typesLoop (n + 1) ts = if (nx ts).1 = typW2 then (typP ts.tail).then fun x r => (typesLoop n r).then fun l r => .ok (x :: l) r else .ok [] ts := by
  intro n ts
  rw [typesLoop]
  by_cases h : (nx ts).1 = typW2
  · rw [if_pos h, if_pos h, typP]
    cases nameP ts.tail with
    | no d => rfl
    | ok s r =>
      simp only [Rs.then]
      cases relsLoop r.length r <;> rfl
  · rw [if_neg h, if_neg h]
end Go.Proofs.YtehabjiacgibpaaGreat
namespace Go.Proofs.YtehabjiacgibpaaGreat
open Go.RowKit
def Fl {α : Type} (x : Rs α) : Prop := ∀ d, x = .no d → d.2.2 ≠ 0
theorem Fl.then {α β : Type} {x : Rs α} {f : α → List Tk → Rs β} (h : Fl x) (hf : ∀ a r, Fl (f a r)) : Fl (x.then f) := by
  intro d hd
  cases x with
  | ok a r => exact hf a r d hd
  | no e =>
    injection hd with hd
    subst hd
    exact h _ rfl
theorem Fl.ok {α : Type} {a : α} {r : List Tk} : Fl (.ok a r) := by intro d hd; cases hd
end Go.Proofs.YtehabjiacgibpaaGreat
namespace Go.Proofs.YtehabjiacgibpaaGreat
open Go.RowKit
theorem wpList_append_row {P : Program} (w : World) {ops : Array Oper} {rest : List Oper} {o : Oper} {ac : Act} {Q : Exit → Act → World → Prop} (hgd : o.guard = none) (s x : Operand) (t : TypeId)
    (ho : o.op = .call { callee := .builtin .append, args := #[s, x], argTypes := #[t, t] })
    {e : TypeId} {k b : Nat} {i : TypeInfo} {z : Value} (R : RowT P t e k b i z) (hk : 0 < k) (hb64 : b ≤ 128)
    (base : Nat) (A : Option Addr) (n c : Nat) (xs : List Value) (L : List Value) (hL : L.length = k) (hs : ac.eval s = .slice A n c) (hx : ac.eval x = .slice (some ⟨w.heap.size, 0, none⟩) 1 1)
    (hbase : base ≤ w.heap.size) (h : w.ownsRow base e k (.slice A n c) n xs) (hone : ∀ u ∈ L, u.oneCell' = true) (hn : n ≤ 1000000)
    (K : ∀ A' c' w', w'.ownsRow base e k (.slice A' (n + 1) c') (n + 1) (xs ++ L) → (w.alloc (.cells L.toArray e)).grownBy w' (Value.slice A n c).ownBlock →
      ((Value.slice A' (n + 1) c').ownBlock = (Value.slice A n c).ownBlock ∨ (Value.slice A' (n + 1) c').ownBlock = some (w.heap.size + 1)) → wpList P ops Q rest (ac.put o.dst (.slice A' (n + 1) c')) w') :
    wpList P ops Q (o :: rest) ac (w.alloc (.cells L.toArray e)) := by
  have hB : base ≤ (w.alloc (.cells L.toArray e)).heap.size := by simp; omega
  have hlist : (w.alloc (.cells L.toArray e)).ownsRow base e k (.slice A n c) n xs := h.alloc _
  refine wpList_append_own_at (w.alloc (.cells L.toArray e)) hgd s x t ho base e i z k b R.ht R.hi R.hz R.hs R.hb R.zs hk _ n _ hs hlist ⟨w.heap.size, 0, none⟩ 1 1 L hx (by rw [hL, Nat.one_mul]) (cells_new _ _ _) hone (by unfold maxLen; omega) (Nat.le_trans (Nat.mul_le_mul_left _ hb64) (by omega)) hB ?_
  intro v' w' hown hg _ hat
  obtain ⟨A', c', rfl⟩ := ownrow_shape hown
  exact K A' c' w' hown hg (by simpa using hat)
theorem tok_fit (l : Txt) (line col : Nat) : 1 ≤ col → ∀ t ∈ tokL l line col, t.1.length ≤ l.length + 1 ∧ t.2.1 ≤ line + l.length ∧ t.2.2 ≤ col + l.length := by
  fun_induction tokL l line col with
  | case1 line col =>
    intro _ t ht
    rw [List.mem_singleton.1 ht]; simp
  | case2 line col r ih =>
    intro hc t ht
    have := ih (by omega) t ht
    simp; omega
  | case3 line col c r h1 h2 ih =>
    intro hc t ht
    have := ih (by omega) t ht
    simp; omega
  | case4 line col c r h1 h2 h3 h4 =>
    intro hc t ht
    rw [List.mem_singleton.1 ht]; simp
  | case5 line col c r h1 h2 h3 h4 ih =>
    intro hc t ht
    rcases List.mem_cons.1 ht with rfl | ht
    · have : (signT c).length = 1 := by unfold signT; split <;> rfl
      simp; omega
    · have := ih (by omega) t ht
      simp; omega
  | case6 line col c r h1 h2 h3 ih =>
    intro hc t ht
    rcases List.mem_cons.1 ht with rfl | ht
    · simp; omega
    · have := ih (by omega) t ht
      rw [List.length_drop, List.length_cons] at this
      have h5 := wordL_le (c :: r)
      rw [List.length_cons] at h5
      simp only [List.length_cons]; omega
theorem Rd.belowB {W W' : World} {g : Nat} {Q : Option Addr × Nat} {L : List Tk} {k op : Nat} {d : Dg} {B : Nat} (h : Rd W g Q L k op d) (hq : ∀ a, Q.1 = some a → a.block < B) (hg : g < B) (hb : Below B W W') : Rd W' g Q L k op d := by
  obtain ⟨h1, h2, h3⟩ := h
  obtain ⟨A, c⟩ := Q
  refine ⟨h1.below hb hg, ?_, h3⟩
  rcases h2 with rfl | ⟨b, off, rfl, hb1, hF, hk⟩
  · exact .inl rfl
  · have hbB : b < B := hq _ rfl
    refine .inr ⟨b, off, rfl, Nat.lt_of_lt_of_le hb1 hb.size, hF, fun j hj => ?_⟩
    obtain ⟨cs, h4, h5⟩ := hk j hj
    exact ⟨cs, h4, fun i hi => (hb.cell (p := ⟨b, off + j * 3 + i, none⟩) hbB).trans (h5 i hi)⟩
def finP (s : Sc) (r : List Tk) : Rs Sc := if (nx r).1 = [] then .ok s r else .no (failT (nx r) 8)
def DpAt (W0 : World) (g : Nat) (Q : Option Addr × Nat) (L : List Tk) (R : Rs Sc) (w : World) (ps : List (Ty × List Value)) (A : Option Addr) (n c k op : Nat) (d : Dg) (m : Nat) : Prop :=
  (Blk w W0.heap.size [.slice A n c] 39 ∧ RowOf TyAt w (W0.heap.size + 1) 65 2 g A n c ps ∧ Rd w g Q L k op d ∧ Spared W0 w (onG g)) ∧ (k < L.length ∧ n ≤ k ∧ op ≤ 1) ∧
    (d.2.2 = 0 → op = 0 ∧ (L.drop k).length ≤ m ∧ R = ((typesLoop m (L.drop k)).then fun l ts => .ok (ps.map (·.1) ++ l) ts).then finP) ∧ (d.2.2 ≠ 0 → R = .no d)
def DtAt (w5 : World) (g : Nat) (Q : Option Addr × Nat) (L : List Tk) (R : Rs Sc) (C : Ty → List Tk → Rs Sc) (a : Txt) (k0 : Nat) (w : World) (qs : List (Rl × List Value)) (B : Option Addr) (n c k op : Nat) (d : Dg) (j : Nat) : Prop :=
  (Blk w w5.heap.size [strV a, .slice B n c] 65 ∧ RowOf RlAt w (w5.heap.size + 1) 71 6 g B n c qs ∧ Rd w g Q L k op d ∧ Spared w5 w (onG g)) ∧ (k < L.length ∧ k0 ≤ k ∧ n ≤ k + 1 ∧ op ≤ 1) ∧
    (d.2.2 = 0 → op = 0 ∧ n ≤ k ∧ (L.drop k).length ≤ j ∧ R = (relsLoop j (L.drop k)).then fun rs r => C ⟨a, qs.map (·.1) ++ rs⟩ r) ∧ (d.2.2 ≠ 0 → R = .no d)
theorem rel_there {W : World} {g : Nat} {Q : Option Addr × Nat} {L : List Tk} {k : Nat} {d : Dg} (he : Ends L) (h : Rd W g Q L k 0 d) (hk : k < L.length) (hd : d.2.2 = 0) (ht : L[k].1 = relW2 ∨ L[k].1 = defW2) :
    ∃ P : List Tk → Rs Rl, Calls Tryz.prog 32 #[.pointer (some ⟨g, 0, none⟩)] W (RlOut P W g Q L k d) ∧
      (∀ j, relsLoop (j + 1) (L.drop k) = (P (L.drop k)).then fun x r => (relsLoop j r).then fun l r => .ok (x :: l) r) ∧ ∀ x r, P (L.drop k) = .ok x r → r.length + 1 < (L.drop k).length := by
  have hn := nx_drop hk
  have hl : (L.drop k).tail.length + 1 = (L.drop k).length := by rw [drop_tail, List.length_drop, List.length_drop]; omega
  by_cases h1 : L[k].1 = relW2
  · refine ⟨_, rel_told he h hk hd h1, fun j => ?_, fun x r hx => ?_⟩
    · rw [relsLoop, hn, if_pos h1]
    · have h2 := told_lv _ x r hx
      have h3 : 0 < (L.drop k).tail.length := by
        rcases Nat.eq_zero_or_pos (L.drop k).tail.length with h0 | h0
        · rw [List.eq_nil_of_length_eq_zero h0] at hx
          cases hx
        · exact h0
      omega
  · have h2 := ht.resolve_left h1
    refine ⟨_, rel_define he h hk hd h2, fun j => ?_, fun x r hx => ?_⟩
    · rw [relsLoop, hn, if_neg h1, if_pos h2]
    · have h4 := def_lv _ x r hx
      have h3 : 0 < (L.drop k).tail.length := by
        rcases Nat.eq_zero_or_pos (L.drop k).tail.length with h0 | h0
        · rw [List.eq_nil_of_length_eq_zero h0] at hx
          cases hx
        · exact h0
      omega
def msr (g : Nat) (w : World) : Nat := 2 * (6000 - (intOf ((w.cell? ⟨g, 1, none⟩).getD (.int .i64 0))).toNat) + (if intOf ((w.cell? ⟨g, 5, none⟩).getD (.int .i64 0)) = 0 then 1 else 0)
theorem Rd.msr {W : World} {g : Nat} {Q : Option Addr × Nat} {L : List Tk} {k op : Nat} {d : Dg} (h : Rd W g Q L k op d) : msr g W = 2 * (6000 - k) + (if d.2.2 = 0 then 1 else 0) := by
  have e1 := h.1.cell (i := 1) (by simp)
  have e5 := h.1.cell (i := 5) (by simp)
  simp only [List.getElem_cons_succ, List.getElem_cons_zero] at e1 e5
  unfold Go.Proofs.YtehabjiacgibpaaGreat.msr
  rw [e1, e5]
  show 2 * (6000 - ((k : Int)).toNat) + (if ((d.2.2 : Nat) : Int) = 0 then 1 else 0) = _
  rw [Int.toNat_natCast]
  by_cases h0 : d.2.2 = 0
  · rw [if_pos h0, if_pos (by omega)]
  · rw [if_neg h0, if_neg (by omega)]
end Go.Proofs.YtehabjiacgibpaaGreat
