/-
  Brackets around an expression change nothing of it, unless too many are open. No program is named.
  Brackets around an expression, behind a head of one type and one relation: the same schema, or too deep. No program is named.
  LangParses answers true: any text is the schema that the grammar says, or what is wrong with it is told at the first token with which nothing goes on. Condition: a string's length fits the memory.
  From a walk to a row: what every law of this seat shares. A law answers true and leaves what was there as it was; its arguments are numbers, bytes and texts. No conditions of its own.
  What the closing texts of a seat without listed variables and without rows of bytes share: closed facts of the program; the world of the witness. No conditions.
-/
import Derived.Test.YtpiaiibobjlipaaCPaW
import Derived.Test.YtpiaiibobjlipaaCLpTm
import Derived.Test.YtpiaiibobjlipaaCLpPb
import Derived.Test.YtpiaiibobjlipaaCLaW
import Derived.ProofKit
import Derived.OpenShut
import Derived.Carry
import Derived.SizedLaws
import Derived.Test.YtpiaiibobjlipaaRows
import Derived.Deep.DeepHandedRow
import Derived.LaidSub
namespace Go.Proofs.Ytpiaiibobjlipaa
open Go.RowKit
def Sh {α : Type} (E : Tk) (X : List Tk) (N : List Tk) (x y : Rs α) : Prop :=
  ∀ a r, x = .ok a r → ∃ R, r = R ++ [E] ∧ R <:+ N ∧ ((∃ R' : List Tk, R'.map (·.1) = R.map (·.1) ∧ y = .ok a (R' ++ X)) ∨ ∃ dg, y = .no dg ∧ dg.2.2 = 9)
section
variable {E : Tk} {X : List Tk}
theorem Sh.then {α β : Type} {N M : List Tk} {x y : Rs α} {f g : α → List Tk → Rs β} (h : Sh E X N x y) (hf : ∀ a (R R' : List Tk), R'.map (·.1) = R.map (·.1) → R <:+ N → Sh E X M (f a (R ++ [E])) (g a (R' ++ X))) : Sh E X M (x.then f) (y.then g) := by
  intro b r hb
  obtain ⟨a, r1, h1, h2⟩ := Rs.then_ok hb
  obtain ⟨R, rfl, hN, h3⟩ := h a r1 h1
  rcases h3 with ⟨R', hR, rfl⟩ | ⟨dg, rfl, hd⟩
  · exact hf a R R' hR hN b r h2
  · have h4 := hf a R R rfl hN b r h2
    obtain ⟨R2, e1, e2, _⟩ := h4
    exact ⟨R2, e1, e2, .inr ⟨dg, rfl, hd⟩⟩
theorem Sh.ok {α : Type} {N : List Tk} (a : α) {R R' : List Tk} (hR : R'.map (·.1) = R.map (·.1)) (hN : R <:+ N) : Sh E X N (.ok a (R ++ [E])) (.ok a (R' ++ X)) := by
  intro b r hb
  injection hb with h1 h2
  subst h1 h2
  exact ⟨R, rfl, hN, .inl ⟨R', hR, rfl⟩⟩
theorem Sh.mono {α : Type} {N M : List Tk} {x y : Rs α} (h : Sh E X N x y) (hN : N <:+ M) : Sh E X M x y := by
  intro a r hx
  obtain ⟨R, h1, h2, h3⟩ := h a r hx
  exact ⟨R, h1, h2.trans hN, h3⟩
theorem Sh.no {α : Type} {N : List Tk} (d : Dg) (y : Rs α) : Sh E X N (.no d) y := by intro a r h; cases h
theorem map_cons2 {T' : List Tk} {t : Tk} {T : List Tk} (h : T'.map (·.1) = (t :: T).map (·.1)) : ∃ t' T1', T' = t' :: T1' ∧ t'.1 = t.1 ∧ T1'.map (·.1) = T.map (·.1) := map_cons (a := t.1) (A := T.map (·.1)) h
theorem map_nil2 {T' : List Tk} (h : T'.map (·.1) = ([] : List Tk).map (·.1)) : T' = [] := by simpa using h
def EX (E : Tk) (X : List Tk) : Prop := (E.1 = [] ∨ E.1 = [63]) ∧ (nx X).1 = [41]
theorem name_sh (h : EX E X) {T T' : List Tk} (hT : T'.map (·.1) = T.map (·.1)) : Sh E X T.tail (nameP (T ++ [E])) (nameP (T' ++ X)) := by
  cases T with
  | nil =>
    rw [nameP, if_neg (by show ¬ nameL E.1 = true; rcases h.1 with h | h <;> (rw [h]; decide))]
    exact Sh.no _ _
  | cons t T =>
    obtain ⟨t', T1', rfl, ht, hT1⟩ := map_cons2 hT
    rw [nameP, nameP, show (nx (t' :: T1' ++ X)).1 = t'.1 from rfl, show (nx (t :: T ++ [E])).1 = t.1 from rfl, ht]
    by_cases hn : nameL t.1 = true
    · rw [if_pos hn, if_pos hn]; exact Sh.ok t.1 hT1 (List.suffix_refl _)
    · rw [if_neg hn]; exact Sh.no _ _
theorem must_sh (h : EX E X) {s : Txt} (hs : s ≠ [] ∧ s ≠ [63]) {T T' : List Tk} (hT : T'.map (·.1) = T.map (·.1)) : Sh E X T.tail (mustP s (T ++ [E])) (mustP s (T' ++ X)) := by
  cases T with
  | nil =>
    rw [mustP, if_neg (by show E.1 ≠ s; exact fun e => h.1.elim (fun h2 => hs.1 (e.symm.trans h2)) (fun h2 => hs.2 (e.symm.trans h2)))]
    exact Sh.no _ _
  | cons t T =>
    obtain ⟨t', T1', rfl, ht, hT1⟩ := map_cons2 hT
    rw [mustP, mustP, show (nx (t' :: T1' ++ X)).1 = t'.1 from rfl, show (nx (t :: T ++ [E])).1 = t.1 from rfl, ht]
    by_cases hn : t.1 = s
    · rw [if_pos hn, if_pos hn]; exact Sh.ok () hT1 (List.suffix_refl _)
    · rw [if_neg hn]; exact Sh.no _ _
def SubSh (E : Tk) (X : List Tk) (sub sub' : Option (List Tk → Rs Ex)) : Prop :=
  ∀ f, sub = some f → (∀ (T : List Tk) (a : Ex) (r : List Tk), f (T ++ [E]) = .ok a r → ∃ R, r = R ++ [E] ∧ R <:+ T) ∧ (sub' = none ∨ ∃ g, sub' = some g ∧ ∀ T T' : List Tk, T'.map (·.1) = T.map (·.1) → Sh E X T (f (T ++ [E])) (g (T' ++ X)))
theorem atom_sh (h : EX E X) {sub sub' : Option (List Tk → Rs Ex)} (hs : SubSh E X sub sub') {T T' : List Tk} (hT : T'.map (·.1) = T.map (·.1)) : Sh E X T.tail (atomK sub (T ++ [E])) (atomK sub' (T' ++ X)) := by
  cases T with
  | nil =>
    unfold atomK
    rw [if_neg (by show E.1 ≠ _; rcases h.1 with h | h <;> (rw [h]; decide)), nameP, if_neg (by show ¬ nameL E.1 = true; rcases h.1 with h | h <;> (rw [h]; decide))]
    exact Sh.no _ _
  | cons t T =>
    have hT0 := hT
    obtain ⟨t', T1', rfl, ht, hT1⟩ := map_cons2 hT
    unfold atomK
    rw [show nx (t' :: T1' ++ X) = t' from rfl, show nx (t :: T ++ [E]) = t from rfl, ht]
    by_cases hb : t.1 = [40]
    · rw [if_pos hb, if_pos hb]
      cases sub with
      | none => exact Sh.no _ _
      | some f =>
        obtain ⟨hself, hs2⟩ := hs f rfl
        rcases hs2 with rfl | ⟨g, rfl, hfg⟩
        · intro a r hx
          obtain ⟨b, r1, h1, h2⟩ := Rs.then_ok hx
          obtain ⟨u, r2, h3, h4⟩ := Rs.then_ok h2
          obtain ⟨R0, rfl, hR0⟩ := hself T b r1 h1
          obtain ⟨R2, rfl, hR2, _⟩ := must_sh (E := E) (X := X) h ⟨by decide, by decide⟩ (rfl : R0.map (·.1) = R0.map (·.1)) u r2 h3
          injection h4 with h5 h6
          subst h5 h6
          exact ⟨R2, rfl, (hR2.trans (List.tail_suffix R0)).trans hR0, .inr ⟨failT t' 9, rfl, rfl⟩⟩
        · show Sh E X _ ((f (T ++ [E])).then _) ((g (T1' ++ X)).then _)
          refine (hfg T T1' hT1).then (fun a R R' hR hN => ?_)
          refine (must_sh h ⟨by decide, by decide⟩ hR).then (fun _ R2 R2' hR2 hN2 => ?_)
          exact Sh.ok a hR2 ((hN2.trans (List.tail_suffix R)).trans hN)
    · rw [if_neg hb, if_neg hb]
      refine (name_sh h hT0).then (fun s R R' hR hN => ?_)
      cases R with
      | nil =>
        obtain rfl := map_nil2 hR
        rw [if_neg (by show E.1 ≠ _; rcases h.1 with h | h <;> (rw [h]; decide)), if_neg (by show (nx X).1 ≠ _; rw [h.2]; decide)]
        exact Sh.ok (R := []) (R' := []) _ rfl (List.nil_suffix)
      | cons u R =>
        obtain ⟨u', R1', rfl, hu, hR1⟩ := map_cons2 hR
        rw [show (nx (u' :: R1' ++ X)).1 = u'.1 from rfl, show (nx (u :: R ++ [E])).1 = u.1 from rfl, hu]
        by_cases hd : u.1 = [46]
        · rw [if_pos hd, if_pos hd]
          refine (name_sh h hR1).then (fun o R2 R2' hR2 hN2 => ?_)
          exact Sh.ok _ hR2 (((hN2.trans (List.tail_suffix R)).trans (List.suffix_cons u R)).trans hN)
        · rw [if_neg hd, if_neg hd]
          exact Sh.ok _ hR hN
theorem two_sh (k : Int) (t t' : Tk) (a b : Ex) {R R' : List Tk} (hR : R'.map (·.1) = R.map (·.1)) : Sh E X R (twoP k t a b (R ++ [E])) (twoP k t' a b (R' ++ X)) := by
  unfold twoP
  by_cases hh : 12 < heightE (.mk k [] [] [a, b])
  · rw [if_pos hh]; exact Sh.no _ _
  · rw [if_neg hh, if_neg hh]; exact Sh.ok _ hR (List.suffix_refl _)
theorem termLoop_sh (h : EX E X) {sub sub' : Option (List Tk → Rs Ex)} (hs : SubSh E X sub sub') : ∀ (n n' : Nat) (a : Ex) (T T' : List Tk), T'.map (·.1) = T.map (·.1) → T.length ≤ n → T.length ≤ n' → Sh E X T (termLoop sub n a (T ++ [E])) (termLoop sub' n' a (T' ++ X)) := by
  intro n
  induction n with
  | zero =>
    intro n' a T T' hT hn hn'
    obtain rfl : T = [] := List.eq_nil_of_length_eq_zero (by omega)
    obtain rfl := map_nil2 hT
    rw [termLoop, termLoop_stop sub' n' a ([] ++ X) (by show (nx X).1 ≠ _; rw [h.2]; decide)]
    exact Sh.ok (R := []) (R' := []) a rfl (List.nil_suffix)
  | succ n ih =>
    intro n' a T T' hT hn hn'
    cases T with
    | nil =>
      obtain rfl := map_nil2 hT
      rw [termLoop_stop sub (n + 1) a ([] ++ [E]) (by show E.1 ≠ _; rcases h.1 with h | h <;> (rw [h]; decide)), termLoop_stop sub' n' a ([] ++ X) (by show (nx X).1 ≠ _; rw [h.2]; decide)]
      exact Sh.ok (R := []) (R' := []) a rfl (List.nil_suffix)
    | cons t T =>
      obtain ⟨t', T1', rfl, ht, hT1⟩ := map_cons2 hT
      obtain ⟨m, rfl⟩ : ∃ m, n' = m + 1 := ⟨n' - 1, by simp at hn'; omega⟩
      rw [termLoop, termLoop, show nx (t' :: T1' ++ X) = t' from rfl, show nx (t :: T ++ [E]) = t from rfl, ht]
      by_cases hb : t.1 = [38]
      · rw [if_pos hb, if_pos hb]
        refine (atom_sh h hs hT1).then (fun b R R' hR hN => ?_)
        refine (two_sh 3 t t' a b hR).then (fun e R2 R2' hR2 hN2 => ?_)
        have hs3 : R2 <:+ T := hN2.trans (hN.trans (List.tail_suffix T))
        have hs4 := hs3.length_le
        exact (ih m e R2 R2' hR2 (by simp at hn; omega) (by simp at hn'; omega)).mono (hs3.trans (List.suffix_cons t T))
      · rw [if_neg hb, if_neg hb]; exact Sh.ok a hT (List.suffix_refl _)
theorem term_sh (h : EX E X) {sub sub' : Option (List Tk → Rs Ex)} (hs : SubSh E X sub sub') {T T' : List Tk} (hT : T'.map (·.1) = T.map (·.1)) : Sh E X T.tail (termK sub (T ++ [E])) (termK sub' (T' ++ X)) := by
  have hl : T'.length = T.length := by have := congrArg List.length hT; simpa using this
  refine (atom_sh h hs hT).then (fun a R R' hR hN => ?_)
  have hs4 := hN.length_le
  rw [List.length_tail] at hs4
  exact (termLoop_sh h hs _ _ a R R' hR (by simp; omega) (by simp; omega)).mono hN
theorem exprLoop_sh (h : EX E X) {sub sub' : Option (List Tk → Rs Ex)} (hs : SubSh E X sub sub') : ∀ (n n' : Nat) (a : Ex) (T T' : List Tk), T'.map (·.1) = T.map (·.1) → T.length ≤ n → T.length ≤ n' → Sh E X T (exprLoop sub n a (T ++ [E])) (exprLoop sub' n' a (T' ++ X)) := by
  have e2 : (nx X).1 ≠ [43] ∧ (nx X).1 ≠ [45] := by rw [h.2]; exact ⟨by decide, by decide⟩
  intro n
  induction n with
  | zero =>
    intro n' a T T' hT hn hn'
    obtain rfl : T = [] := List.eq_nil_of_length_eq_zero (by omega)
    obtain rfl := map_nil2 hT
    rw [exprLoop, exprLoop_stop sub' n' a ([] ++ X) e2]
    exact Sh.ok (R := []) (R' := []) a rfl (List.nil_suffix)
  | succ n ih =>
    intro n' a T T' hT hn hn'
    cases T with
    | nil =>
      obtain rfl := map_nil2 hT
      rw [exprLoop_stop sub (n + 1) a ([] ++ [E]) (by show E.1 ≠ _ ∧ E.1 ≠ _; rcases h.1 with h | h <;> (rw [h]; exact ⟨by decide, by decide⟩)), exprLoop_stop sub' n' a ([] ++ X) e2]
      exact Sh.ok (R := []) (R' := []) a rfl (List.nil_suffix)
    | cons t T =>
      obtain ⟨t', T1', rfl, ht, hT1⟩ := map_cons2 hT
      obtain ⟨m, rfl⟩ : ∃ m, n' = m + 1 := ⟨n' - 1, by simp at hn'; omega⟩
      rw [exprLoop, exprLoop, show nx (t' :: T1' ++ X) = t' from rfl, show nx (t :: T ++ [E]) = t from rfl, ht]
      by_cases hb : t.1 = [43] ∨ t.1 = [45]
      · rw [if_pos hb, if_pos hb]
        refine (term_sh h hs hT1).then (fun b R R' hR hN => ?_)
        refine (two_sh _ t t' a b hR).then (fun e R2 R2' hR2 hN2 => ?_)
        have hs3 : R2 <:+ T := hN2.trans (hN.trans (List.tail_suffix T))
        have hs4 := hs3.length_le
        exact (ih m e R2 R2' hR2 (by simp at hn; omega) (by simp at hn'; omega)).mono (hs3.trans (List.suffix_cons t T))
      · rw [if_neg hb, if_neg hb]; exact Sh.ok a hT (List.suffix_refl _)
theorem expr_sh (h : EX E X) {sub sub' : Option (List Tk → Rs Ex)} (hs : SubSh E X sub sub') {T T' : List Tk} (hT : T'.map (·.1) = T.map (·.1)) : Sh E X T (exprK sub (T ++ [E])) (exprK sub' (T' ++ X)) := by
  have hl : T'.length = T.length := by have := congrArg List.length hT; simpa using this
  refine (term_sh h hs hT).then (fun a R R' hR hN => ?_)
  have hs4 := hN.length_le
  rw [List.length_tail] at hs4
  exact (exprLoop_sh h hs _ _ a R R' hR (by simp; omega) (by simp; omega)).mono (hN.trans (List.tail_suffix T))
theorem exprD_ends (h : EX E X) : ∀ (d : Nat) (T : List Tk) (a : Ex) (r : List Tk), exprD d (T ++ [E]) = .ok a r → ∃ R, r = R ++ [E] ∧ R <:+ T
  | 0, T, a, r, hx => by
    obtain ⟨R, h1, h2, _⟩ := expr_sh (E := E) (X := X) h (sub := none) (sub' := none) (fun f hf => by cases hf) (rfl : T.map (·.1) = T.map (·.1)) a r hx
    exact ⟨R, h1, h2⟩
  | d + 1, T, a, r, hx => by
    obtain ⟨R, h1, h2, _⟩ := expr_sh (E := E) (X := X) h (sub := some (exprD d)) (sub' := none) (fun f hf => by injection hf with hf; subst hf; exact ⟨fun T a r hx => exprD_ends h d T a r hx, .inl rfl⟩) (rfl : T.map (·.1) = T.map (·.1)) a r hx
    exact ⟨R, h1, h2⟩
theorem exprD_sh (h : EX E X) : ∀ (d : Nat) (T T' : List Tk), T'.map (·.1) = T.map (·.1) → Sh E X T (exprD (d + 1) (T ++ [E])) (exprD d (T' ++ X))
  | 0, T, T', hT => expr_sh h (sub := some (exprD 0)) (sub' := none) (fun f hf => by injection hf with hf; subst hf; exact ⟨fun T a r hx => exprD_ends h 0 T a r hx, .inl rfl⟩) hT
  | d + 1, T, T', hT => expr_sh h (sub := some (exprD (d + 1))) (sub' := some (exprD d)) (fun f hf => by injection hf with hf; subst hf; exact ⟨fun T a r hx => exprD_ends h (d + 1) T a r hx, .inr ⟨_, rfl, fun T T' hT => exprD_sh h d T T' hT⟩⟩) hT
end
end Go.Proofs.Ytpiaiibobjlipaa
namespace Go.Proofs.Ytpiaiibobjlipaa
open Go.RowKit
theorem tokS_snoc : ∀ (n : Nat) (t : Txt), t.length ≤ n → ∃ (A : List Txt) (l : Txt), tokS t = A ++ [l] ∧ (∀ x ∈ A, x ≠ []) ∧ ((l = [] ∧ tokS (t ++ [41]) = A ++ [[41], []]) ∨ l = [63]) := by
  have hc : tokS [41] = [[41], []] := by rw [tokS_sign (by decide), tokS]
  intro n
  induction n with
  | zero =>
    intro t h
    obtain rfl : t = [] := List.eq_nil_of_length_eq_zero (by omega)
    exact ⟨[], [], by rw [tokS]; rfl, by simp, .inl ⟨rfl, hc⟩⟩
  | succ n ih =>
    intro t h
    cases t with
    | nil => exact ⟨[], [], by rw [tokS]; rfl, by simp, .inl ⟨rfl, hc⟩⟩
    | cons c r =>
      have hr : r.length ≤ n := by simpa using h
      rw [tokS, List.cons_append, tokS]
      by_cases h1 : c = 10
      · rw [if_pos h1, if_pos h1]; exact ih r hr
      · rw [if_neg h1, if_neg h1]
        by_cases h2 : c = 32 ∨ c = 9
        · rw [if_pos h2, if_pos h2]; exact ih r hr
        · rw [if_neg h2, if_neg h2]
          have htw : ∀ u : Txt, (u ++ [41]).takeWhile nmB = u.takeWhile nmB := by
            intro u
            induction u with
            | nil => rfl
            | cons x u ihu =>
              rw [List.cons_append, List.takeWhile_cons, List.takeWhile_cons, ihu]
          have hw : wordL (c :: (r ++ [41])) = wordL (c :: r) := by rw [wordL, wordL, htw]
          rw [hw]
          by_cases h3 : wordL (c :: r) = 0
          · rw [dif_pos h3, dif_pos h3]
            by_cases h4 : signT c = [63]
            · rw [if_pos h4]
              exact ⟨[], [63], rfl, by simp, .inr rfl⟩
            · rw [if_neg h4, if_neg h4]
              obtain ⟨A, l, e1, e2, e3⟩ := ih r hr
              refine ⟨signT c :: A, l, by rw [e1]; rfl, ?_, ?_⟩
              · intro x hx
                rcases List.mem_cons.1 hx with rfl | hx
                · unfold signT; split <;> simp
                · exact e2 x hx
              · rcases e3 with ⟨e3, e4⟩ | e3
                · exact .inl ⟨e3, by rw [e4]; rfl⟩
                · exact .inr e3
          · rw [dif_neg h3, dif_neg h3]
            have hle := wordL_le (c :: r)
            obtain ⟨A, l, e1, e2, e3⟩ := ih ((c :: r).drop (wordL (c :: r))) (by rw [List.length_drop]; simp only [List.length_cons] at hle ⊢; omega)
            have htk : (c :: (r ++ [41])).take (wordL (c :: r)) = (c :: r).take (wordL (c :: r)) := by
              rw [← List.cons_append, List.take_append_of_le_length hle]
            have hdr : (c :: (r ++ [41])).drop (wordL (c :: r)) = (c :: r).drop (wordL (c :: r)) ++ [41] := by
              rw [← List.cons_append, List.drop_append_of_le_length hle]
            rw [htk, hdr]
            refine ⟨(c :: r).take (wordL (c :: r)) :: A, l, by rw [e1]; rfl, ?_, ?_⟩
            · intro x hx
              rcases List.mem_cons.1 hx with rfl | hx
              · intro e
                have := congrArg List.length e
                rw [List.length_take, List.length_nil] at this
                simp only [List.length_cons] at this
                omega
              · exact e2 x hx
            · rcases e3 with ⟨e3, e4⟩ | e3
              · exact .inl ⟨e3, by rw [e4]; rfl⟩
              · exact .inr e3
def headT : Txt := [116, 121, 112, 101, 32, 97, 32, 114, 101, 108, 97, 116, 105, 111, 110, 32, 98, 58, 32, 97, 32, 100, 101, 102, 105, 110, 101, 32, 99, 58, 32]
def headK : List Txt := [typW2, [97], relW2, [98], [58], [97], defW2, [99], [58]]
theorem word_one {c : UInt8} (h : lowB c = true) : word [c] := ⟨c, [], rfl, h, rfl⟩
theorem tok_head (t : Txt) : tokS (headT ++ t) = headK ++ tokS t := by
  show tokS (typW2 ++ 32 :: ([97] ++ 32 :: (relW2 ++ 32 :: ([98] ++ 58 :: 32 :: ([97] ++ 32 :: (defW2 ++ 32 :: ([99] ++ 58 :: 32 :: t))))))) = _
  rw [tokS_word word_typ (ends_of (by decide) _), tokS_blank, tokS_word (word_one (by decide)) (ends_of (by decide) _), tokS_blank, tokS_word word_rel (ends_of (by decide) _), tokS_blank,
    tokS_word (word_one (by decide)) (ends_of (by decide) _), tokS_sign (by decide), tokS_blank, tokS_word (word_one (by decide)) (ends_of (by decide) _), tokS_blank, tokS_word word_def (ends_of (by decide) _), tokS_blank,
    tokS_word (word_one (by decide)) (ends_of (by decide) _), tokS_sign (by decide), tokS_blank]
  rfl
def relB : Rl := ⟨[98], [([97], [])], noEx⟩
theorem head_parse {P : List Tk} (hP : P.map (·.1) = headK) (Q : List Tk) :
    wholeP (P ++ Q) = (exprD 12 Q).then fun e r => (relsLoop (Q.length + 5) r).then fun l r => (typesLoop (Q.length + 8) r).then fun tl r =>
      if (nx r).1 = [] then .ok (⟨[97], relB :: ⟨[99], [], e⟩ :: l⟩ :: tl) r else .no (failT (nx r) 8) := by
  obtain ⟨t1, P1, rfl, h1, hP1⟩ := map_cons hP
  obtain ⟨t2, P2, rfl, h2, hP2⟩ := map_cons hP1
  obtain ⟨t3, P3, rfl, h3, hP3⟩ := map_cons hP2
  obtain ⟨t4, P4, rfl, h4, hP4⟩ := map_cons hP3
  obtain ⟨t5, P5, rfl, h5, hP5⟩ := map_cons hP4
  obtain ⟨t6, P6, rfl, h6, hP6⟩ := map_cons hP5
  obtain ⟨t7, P7, rfl, h7, hP7⟩ := map_cons hP6
  obtain ⟨t8, P8, rfl, h8, hP8⟩ := map_cons hP7
  obtain ⟨t9, P9, rfl, h9, hP9⟩ := map_cons hP8
  obtain rfl : P9 = [] := by simpa using hP9
  have hd : defP (t8 :: t9 :: Q) = (exprD 12 Q).then fun e r => .ok ⟨[99], [], e⟩ r := by
    rw [defP, name_at (by decide) h8]
    show ((mustP [58] (t9 :: Q)).then _) = _
    rw [must_at h9]; rfl
  have ht : toldP (t4 :: t5 :: t6 :: t7 :: t8 :: t9 :: Q) = .ok relB (t7 :: t8 :: t9 :: Q) := by
    rw [toldP, name_at (by decide) h4]
    show ((mustP [58] (t5 :: t6 :: t7 :: t8 :: t9 :: Q)).then _) = _
    rw [must_at h5]
    show ((refP (t6 :: t7 :: t8 :: t9 :: Q)).then _) = _
    rw [refP, name_at (by decide) h6]
    show (((if t7.1 = [35] then _ else Rs.ok ([97], []) (t7 :: t8 :: t9 :: Q)) : Rs Rf).then _) = _
    rw [if_neg (by rw [h7]; decide)]
    show ((refsLoop (Q.length + 1 + 1 + 1) (t7 :: t8 :: t9 :: Q)).then _) = _
    rw [refsLoop, if_neg (by show t7.1 ≠ _; rw [h7]; decide)]
    rfl
  have hr2 : relsLoop (Q.length + 6) (t7 :: t8 :: t9 :: Q) = (exprD 12 Q).then fun e r => (relsLoop (Q.length + 5) r).then fun l r => .ok (⟨[99], [], e⟩ :: l) r := by
    rw [relsLoop, if_neg (by show t7.1 ≠ _; rw [h7]; decide), if_pos (by exact h7)]
    show ((defP (t8 :: t9 :: Q)).then _) = _
    rw [hd]
    cases exprD 12 Q <;> rfl
  have hr1 : relsLoop (Q.length + 7) (t3 :: t4 :: t5 :: t6 :: t7 :: t8 :: t9 :: Q) = (exprD 12 Q).then fun e r => (relsLoop (Q.length + 5) r).then fun l r => .ok (relB :: ⟨[99], [], e⟩ :: l) r := by
    rw [relsLoop, if_pos (by exact h3)]
    show ((toldP (t4 :: t5 :: t6 :: t7 :: t8 :: t9 :: Q)).then _) = _
    rw [ht]
    show ((relsLoop (Q.length + 6) (t7 :: t8 :: t9 :: Q)).then _) = _
    rw [hr2]
    rcases exprD 12 Q with ⟨e, r⟩ | d
    · show (((relsLoop (Q.length + 5) r).then _).then _) = ((relsLoop (Q.length + 5) r).then _)
      cases relsLoop (Q.length + 5) r <;> rfl
    · rfl
  show ((typesLoop (Q.length + 9) (t1 :: t2 :: t3 :: t4 :: t5 :: t6 :: t7 :: t8 :: t9 :: Q)).then _) = _
  rw [typesLoop, if_pos (by exact h1)]
  show (((nameP (t2 :: t3 :: t4 :: t5 :: t6 :: t7 :: t8 :: t9 :: Q)).then _).then _) = _
  rw [name_at (by decide) h2]
  show (((relsLoop (Q.length + 7) (t3 :: t4 :: t5 :: t6 :: t7 :: t8 :: t9 :: Q)).then _).then _) = _
  rw [hr1]
  rcases exprD 12 Q with ⟨e, r⟩ | d
  · show ((((relsLoop (Q.length + 5) r).then _).then _).then _) = ((relsLoop (Q.length + 5) r).then _)
    rcases relsLoop (Q.length + 5) r with ⟨l, r2⟩ | d
    · show (((typesLoop (Q.length + 8) r2).then _).then _) = ((typesLoop (Q.length + 8) r2).then _)
      cases typesLoop (Q.length + 8) r2 <;> rfl
    · rfl
  · rfl
theorem rels_none {n : Nat} {ts r : List Tk} (h : relsLoop n ts = .ok [] r) : r = ts := by
  cases n with
  | zero => rw [relsLoop] at h; injection h with _ h; exact h.symm
  | succ n =>
    rw [relsLoop] at h
    by_cases h1 : (nx ts).1 = relW2
    · rw [if_pos h1] at h
      obtain ⟨x, r1, _, h3⟩ := Rs.then_ok h
      obtain ⟨l2, r2, _, h5⟩ := Rs.then_ok h3
      injection h5 with h6 _; cases h6
    · rw [if_neg h1] at h
      by_cases h1 : (nx ts).1 = defW2
      · rw [if_pos h1] at h
        obtain ⟨x, r1, _, h3⟩ := Rs.then_ok h
        obtain ⟨l2, r2, _, h5⟩ := Rs.then_ok h3
        injection h5 with h6 _; cases h6
      · rw [if_neg h1] at h; injection h with _ h; exact h.symm
theorem types_none {n : Nat} {ts r : List Tk} (h : typesLoop n ts = .ok [] r) : r = ts := by
  cases n with
  | zero => rw [typesLoop] at h; injection h with _ h; exact h.symm
  | succ n =>
    rw [typesLoop] at h
    by_cases h1 : (nx ts).1 = typW2
    · rw [if_pos h1] at h
      obtain ⟨x, r1, _, h3⟩ := Rs.then_ok h
      obtain ⟨l2, r2, _, h5⟩ := Rs.then_ok h3
      obtain ⟨l3, r3, _, h7⟩ := Rs.then_ok h5
      injection h7 with h8 _; cases h8
    · rw [if_neg h1] at h; injection h with _ h; exact h.symm
theorem rels_end {n : Nat} {t : Tk} (h : t.1 = []) : relsLoop n [t] = .ok [] [t] := by
  cases n with
  | zero => rfl
  | succ n => rw [relsLoop, if_neg (by show t.1 ≠ _; rw [h]; decide), if_neg (by show t.1 ≠ _; rw [h]; decide)]
theorem types_end {n : Nat} {t : Tk} (h : t.1 = []) : typesLoop n [t] = .ok [] [t] := by
  cases n with
  | zero => rfl
  | succ n => rw [typesLoop, if_neg (by show t.1 ≠ _; rw [h]; decide)]
theorem brackets (t : Txt) (ht : t.length ≤ 1000) (s : Sc) (hs : parseT (headT ++ t) = (s, (0, 0, 0))) (h1 : s.length = 1) (h2 : ∀ x ∈ s, x.rels.length = 2) :
    (parseT (headT ++ ([40] ++ (t ++ [41])))).2.2.2 = 9 ∨ parseT (headT ++ ([40] ++ (t ++ [41]))) = (s, (0, 0, 0)) := by
  have hh : headT.length = 31 := by decide
  obtain ⟨A, l, e1, e2, e3⟩ := tokS_snoc t.length t (Nat.le_refl _)
  have m1 := tokL_map _ (headT ++ t) 1 1 (Nat.le_refl _)
  rw [tok_head, e1] at m1
  obtain ⟨P, Q, hPQ, hP, hQ⟩ := map_app m1
  obtain ⟨T, Q2, rfl, hT, hQ2⟩ := map_app hQ
  obtain ⟨E, Q3, rfl, hE, hQ3⟩ := map_cons hQ2
  obtain rfl : Q3 = [] := by simpa using hQ3
  unfold parseT at hs
  rw [if_neg (by rw [List.length_append]; omega), hPQ, head_parse hP] at hs
  have hl : l = [] ∨ l = [63] := e3.elim (fun h => .inl h.1) .inr
  -- what stands behind the brackets
  have hX : ∀ X : List Tk, (nx X).1 = [41] → EX E X := fun X h => ⟨by rw [hE]; exact hl, h⟩
  rcases he : exprD 12 (T ++ [E]) with ⟨e, r⟩ | d
  · rw [he] at hs
    have hs2 : (match ((relsLoop ((T ++ [E]).length + 5) r).then fun l r => (typesLoop ((T ++ [E]).length + 8) r).then fun tl r => if (nx r).1 = [] then Rs.ok ((⟨[97], relB :: ⟨[99], [], e⟩ :: l⟩ : Ty) :: tl) r else .no (failT (nx r) 8)) with | .ok s _ => (s, ((0, 0, 0) : Dg)) | .no d => ([], d)) = (s, (0, 0, 0)) := hs
    rcases hr : relsLoop ((T ++ [E]).length + 5) r with ⟨l2, r2⟩ | d
    · rw [hr] at hs2
      rcases hty : typesLoop ((T ++ [E]).length + 8) r2 with ⟨tl, r3⟩ | d
      · have hs3 : (match (if (nx r3).1 = [] then Rs.ok ((⟨[97], relB :: ⟨[99], [], e⟩ :: l2⟩ : Ty) :: tl) r3 else .no (failT (nx r3) 8)) with | .ok s _ => (s, ((0, 0, 0) : Dg)) | .no d => ([], d)) = (s, (0, 0, 0)) := by
          have := hs2
          rw [show ((Rs.ok l2 r2).then fun l r => (typesLoop ((T ++ [E]).length + 8) r).then fun tl r => if (nx r).1 = [] then Rs.ok ((⟨[97], relB :: ⟨[99], [], e⟩ :: l⟩ : Ty) :: tl) r else .no (failT (nx r) 8)) = ((typesLoop ((T ++ [E]).length + 8) r2).then fun tl r => if (nx r).1 = [] then Rs.ok ((⟨[97], relB :: ⟨[99], [], e⟩ :: l2⟩ : Ty) :: tl) r else .no (failT (nx r) 8)) from rfl, hty] at this
          exact this
        by_cases hend : (nx r3).1 = []
        · rw [if_pos hend] at hs3
          have hs4 : ((⟨[97], relB :: ⟨[99], [], e⟩ :: l2⟩ : Ty) :: tl) = s := (Prod.mk.inj hs3).1
          subst hs4
          obtain rfl : tl = [] := by simpa using h1
          obtain rfl : l2 = [] := by simpa using h2 _ (List.mem_cons_self ..)
          obtain rfl := rels_none hr
          obtain rfl := types_none hty
          -- behind the expression stands the end alone
          obtain ⟨R, hR, hRT⟩ := exprD_ends (hX [([41], 0, 0)] rfl) 12 T e _ he
          obtain rfl : R = [] := by
            cases R with
            | nil => rfl
            | cons u R =>
              rw [hR] at hend
              have hu : u ∈ T := hRT.subset (List.mem_cons_self ..)
              have hu2 : u.1 ∈ A := by rw [← hT]; exact List.mem_map_of_mem hu
              exact absurd hend (e2 u.1 hu2)
          rw [List.nil_append] at hR
          subst hR
          have hE0 : E.1 = [] := hend
          have e4 : tokS (t ++ [41]) = A ++ [[41], []] := by
            rcases e3 with ⟨_, e4⟩ | e3
            · exact e4
            · rw [hE, e3] at hE0; exact absurd hE0 (by decide)
          have m2 := tokL_map _ (headT ++ ([40] ++ (t ++ [41]))) 1 1 (Nat.le_refl _)
          rw [tok_head, show ([40] ++ (t ++ [41]) : Txt) = 40 :: (t ++ [41]) from rfl, tokS_sign (by decide), e4] at m2
          obtain ⟨P', Q', hPQ', hP', hQ'⟩ := map_app m2
          obtain ⟨tb, Q1, rfl, htb, hQ1⟩ := map_cons hQ'
          obtain ⟨T', Q4, rfl, hT', hQ4⟩ := map_app hQ1
          obtain ⟨tc, Q5, rfl, htc, hQ5⟩ := map_cons hQ4
          obtain ⟨te, Q6, rfl, hte, hQ6⟩ := map_cons hQ5
          obtain rfl : Q6 = [] := by simpa using hQ6
          obtain ⟨R2, hR2, _, hsh⟩ := exprD_sh (hX [tc, te] htc) 11 T T' (hT'.trans hT.symm) e [E] he
          obtain rfl : R2 = [] := by
            have := congrArg List.length hR2
            rw [List.length_append, List.length_singleton] at this
            exact List.eq_nil_of_length_eq_zero (by omega)
          have hlen : ¬ 4096 < (headT ++ 40 :: (t ++ [41])).length := by simp only [List.length_append, List.length_cons, List.length_nil]; omega
          have hpar : parseT (headT ++ ([40] ++ (t ++ [41]))) = (match wholeP (P' ++ (tb :: (T' ++ [tc, te]))) with | .ok s _ => (s, (0, 0, 0)) | .no d => ([], d)) := by
            rw [parseT, show ([40] ++ (t ++ [41]) : Txt) = 40 :: (t ++ [41]) from rfl, if_neg hlen]
            rw [hPQ']
            cases wholeP (P' ++ (tb :: (T' ++ [tc, te]))) <;> rfl
          rw [hpar, head_parse hP']
          rcases hsh with ⟨R', hR', hok⟩ | ⟨dg, hno, h9⟩
          · right
            obtain rfl : R' = [] := by simpa using hR'
            have hex : exprD 12 (tb :: (T' ++ [tc, te])) = .ok e [te] := by
              have hat : atomK (subD 12) (tb :: (T' ++ [tc, te])) = .ok e [te] := by
                unfold atomK
                rw [if_pos (by exact htb)]
                show ((exprD 11 (T' ++ [tc, te])).then _) = _
                rw [hok]
                show ((mustP [41] (tc :: [te])).then _) = _
                rw [must_at htc]; rfl
              rw [exprD_eq, exprK, termK, hat]
              show ((termLoop (subD 12) _ e [te]).then _) = _
              rw [termLoop_stop _ _ _ _ (by show te.1 ≠ _; rw [hte]; decide)]
              show exprLoop _ _ _ [te] = _
              rw [exprLoop_stop _ _ _ _ (by show te.1 ≠ _ ∧ te.1 ≠ _; rw [hte]; exact ⟨by decide, by decide⟩)]
            rw [hex]
            show (match (((relsLoop _ [te]).then _) : Rs Sc) with | .ok s _ => (s, ((0, 0, 0) : Dg)) | .no d => ([], d)) = _
            rw [rels_end hte]
            show (match (((typesLoop _ [te]).then _) : Rs Sc) with | .ok s _ => (s, ((0, 0, 0) : Dg)) | .no d => ([], d)) = _
            rw [types_end hte]
            show (match ((if te.1 = [] then _ else _) : Rs Sc) with | .ok s _ => (s, ((0, 0, 0) : Dg)) | .no d => ([], d)) = _
            rw [if_pos hte]
          · left
            have hex : exprD 12 (tb :: (T' ++ [tc, te])) = .no dg := by
              have hat : atomK (subD 12) (tb :: (T' ++ [tc, te])) = .no dg := by
                unfold atomK
                rw [if_pos (by exact htb)]
                show ((exprD 11 (T' ++ [tc, te])).then _) = _
                rw [hno]; rfl
              rw [exprD_eq, exprK, termK, hat]; rfl
            rw [hex]
            exact h9
        · rw [if_neg hend] at hs3
          have h := (Prod.mk.inj hs3).1
          rw [← h] at h1; cases h1
      · have hs3 : (([] : Sc), d) = (s, (0, 0, 0)) := by
          have := hs2
          rw [show ((Rs.ok l2 r2).then fun l r => (typesLoop ((T ++ [E]).length + 8) r).then fun tl r => if (nx r).1 = [] then Rs.ok ((⟨[97], relB :: ⟨[99], [], e⟩ :: l⟩ : Ty) :: tl) r else .no (failT (nx r) 8)) = ((typesLoop ((T ++ [E]).length + 8) r2).then fun tl r => if (nx r).1 = [] then Rs.ok ((⟨[97], relB :: ⟨[99], [], e⟩ :: l2⟩ : Ty) :: tl) r else .no (failT (nx r) 8)) from rfl, hty] at this
          exact this
        have h := (Prod.mk.inj hs3).1
        rw [← h] at h1; cases h1
    · rw [hr] at hs2
      have h := (Prod.mk.inj (show (([] : Sc), d) = (s, (0, 0, 0)) from hs2)).1
      rw [← h] at h1; cases h1
  · rw [he] at hs
    have h := (Prod.mk.inj (show (([] : Sc), d) = (s, (0, 0, 0)) from hs)).1
    rw [← h] at h1; cases h1
end Go.Proofs.Ytpiaiibobjlipaa
namespace Go.Proofs.Ytpiaiibobjlipaa
open Go.RowKit
set_option maxRecDepth 100000 in
set_option maxHeartbeats 2000000 in
theorem langParses_txt (l : Txt) (W : World) (hm : l.length ≤ 9223372036854775807) : Calls Try.prog 3 #[strV l] W fun e w' => e = .returned (.bool true) ∧ Below W.heap.size W w' := by
  have HA := Lib.hid (awake_any W)
  by_cases hl : 5000 < l.length
  · have hd : (5000 : Int) < (l.length : Int) := by omega
    have hdd : decide (5000 < l.length) = true := decide_eq_true hl
    clear hl
    go_enter Try.func3, Try.ntmps3
    go_wp2_with fail
    refine HA.out.mono ?_
    rintro e w1 ⟨rfl, hb1⟩
    go_wp2_with fail
    go_ret
    exact ⟨rfl, hb1⟩
  have hd : (l.length : Int) ≤ 5000 := by omega
  have hdd : decide (5000 < l.length) = false := decide_eq_false hl
  have HP1 := Lib.hid (fun w => parse_any ⟨l.toArray⟩ w (by simp [ByteArray.size]; omega))
  have HP2 := Lib.hid (fun w => dparse_any ⟨l.toArray⟩ w (by simp [ByteArray.size]; omega))
  have e1 : (⟨l.toArray⟩ : ByteArray).data.toList = l := by simp
  rw [e1] at HP1 HP2
  obtain ⟨R, hR⟩ : ∃ R, R = parseT l := ⟨_, rfl⟩
  rw [← hR] at HP1 HP2
  clear hR e1 hl
  obtain ⟨n, d1, d2, d3⟩ := R
  go_enter Try.func3, Try.ntmps3
  go_wp2_with fail
  refine HA.out.mono ?_
  rintro e w1 ⟨rfl, hb1⟩
  go_wp2_with fail
  refine (HP1.out w1).mono ?_
  rintro e w2 ⟨A1, c1, rfl, hs2, hn2, hb2⟩
  dsimp only at hs2 hn2 ⊢
  have HB2 := Lib.hid (hop hb1 hb2)
  have HS2 := Lib.hid hs2
  obtain ⟨u2, hu2⟩ : ∃ u2, u2 = (w2.alloc (.cells #[.slice A1 n.length c1] 25)).alloc (.cells #[.int .i64 (d1 : Int), .int .i64 (d2 : Int), .int .i64 (d3 : Int)] 28) := ⟨_, rfl⟩
  have hbu : Below w2.heap.size w2 u2 := by rw [hu2]; exact ((Below.refl _ _).alloc (Nat.le_refl _) _).alloc (by simp) _
  have HXA : Hid (Blk u2 w2.heap.size [.slice A1 n.length c1] 25) := by rw [hu2]; exact Lib.hid ((Blk.new w2 _ _).alloc _)
  have HXD : Hid (Blk u2 (w2.heap.size + 1) [.int .i64 (d1 : Int), .int .i64 (d2 : Int), .int .i64 (d3 : Int)] 28) := by
    rw [hu2]
    have := Blk.new (w2.alloc (.cells #[.slice A1 n.length c1] 25)) [.int .i64 (d1 : Int), .int .i64 (d2 : Int), .int .i64 (d3 : Int)] 28
    rw [World.size_alloc] at this
    exact Lib.hid this
  have HBU := Lib.hid (hop HB2.out hbu)
  have HSU := Lib.hid (ScAt.below hbu HS2.out)
  have HU := Lib.hid hu2
  clear hs2 hb1 hb2 hu2 hbu HA HP1 HS2
  go_wp2_with fail
  rw [← HU.out]
  refine (HP2.out u2).mono ?_
  rintro e w3 ⟨A2, c2, rfl, hs3, hn3, hb3⟩
  dsimp only at hs3 hn3 ⊢
  obtain ⟨u3, hu3⟩ : ∃ u3, u3 = (w3.alloc (.cells #[.slice A2 n.length c2] 25)).alloc (.cells #[.int .i64 (d1 : Int), .int .i64 (d2 : Int), .int .i64 (d3 : Int)] 28) := ⟨_, rfl⟩
  have hbw : Below w3.heap.size w3 u3 := by rw [hu3]; exact ((Below.refl _ _).alloc (Nat.le_refl _) _).alloc (by simp) _
  have HXB : Hid (Blk u3 w3.heap.size [.slice A2 n.length c2] 25) := by rw [hu3]; exact Lib.hid ((Blk.new w3 _ _).alloc _)
  have HXE : Hid (Blk u3 (w3.heap.size + 1) [.int .i64 (d1 : Int), .int .i64 (d2 : Int), .int .i64 (d3 : Int)] 28) := by
    rw [hu3]
    have := Blk.new (w3.alloc (.cells #[.slice A2 n.length c2] 25)) [.int .i64 (d1 : Int), .int .i64 (d2 : Int), .int .i64 (d3 : Int)] 28
    rw [World.size_alloc] at this
    exact Lib.hid this
  have hb23 := hop hb3 hbw
  have HB3 := Lib.hid (hop HBU.out hb23)
  have HXA3 := Lib.hid (HXA.out.below hb23 HXA.out.lt)
  have HXD3 := Lib.hid (HXD.out.below hb23 HXD.out.lt)
  have HSC := Lib.hid (schemas_any n n u3 _ _ A1 A2 c1 c2 (HSU.out.below hb23) (ScAt.below hbw hs3) (by omega))
  rw [eqS_self] at HSC
  have a0 := HXA3.out.cell (i := 0) (by simp)
  have b0 := HXB.out.cell (i := 0) (by simp)
  simp only [List.getElem_cons_zero] at a0 b0
  have HU3 := Lib.hid hu3
  rw [hu3] at a0 b0
  clear hs3 hb3 hbw hb23 hu3 HP2
  go_wp2_with fail
  rw [← HU3.out]
  refine HSC.out.mono ?_
  rintro e w4 ⟨rfl, hb4⟩
  have p4 := HXD3.out.below hb4 HXD3.out.lt
  have q4 := HXE.out.below hb4 HXE.out.lt
  have p0 := p4.cell (i := 0) (by simp)
  have p1 := p4.cell (i := 1) (by simp)
  have p2 := p4.cell (i := 2) (by simp)
  have q0 := q4.cell (i := 0) (by simp)
  have q1 := q4.cell (i := 1) (by simp)
  have q2 := q4.cell (i := 2) (by simp)
  simp only [List.getElem_cons_succ, List.getElem_cons_zero] at p0 p1 p2 q0 q1 q2
  have HB4 := Lib.hid (hop HB3.out hb4)
  clear hb4 p4 q4
  go_wp2_with fail
  go_ret
  exact ⟨by simp, HB4.out⟩
theorem langParses_walk (s : ByteArray) (w : World) (hm : s.size ≤ 140737488351232) : Calls Try.prog 3 #[.string s] w fun e w' => e = .returned (.bool true) ∧ Below w.heap.size w w' := by
  have h := langParses_txt s.data.toList w (by rw [size_list]; omega)
  have e : strV s.data.toList = .string s := by show Value.string ⟨s.data.toList.toArray⟩ = _; simp
  rw [e] at h; exact h
end Go.Proofs.Ytpiaiibobjlipaa
namespace Go.Proofs.Ytpiaiibobjlipaa
open Go.ChangeShapes Go.WideShapes Go.ChangeAt Go.RowKit
section
variable {H : Type} {enc : TypeId × Value → H} {P : Program}
theorem trodAll_stays (hl : laidOutB P = true) {W W' : World} (hb : Below W.heap.size W W') :
    ∀ {ts : List TypeId} {vs : List Value} {ds : List (DataW H)} {ps : List MemPlace}, (∀ t ∈ ts, P.readableRec t = true ∧ t < P.types.size) → (∀ x ∈ ps, x.block < W.heap.size) →
      DataW.TrodAll enc P W 0 (fun _ => true) true ts vs ds ps → DataW.TrodAll enc P W' 0 (fun b => decide (b < W.heap.size)) true ts vs ds ps
  | [], vs, ds, ps, _, _, h => by
    obtain ⟨rfl, rfl, rfl⟩ := trodAll_nil h
    exact trodAll_mk0
  | t :: ts, vs, ds, ps, ht, hlt, h => by
    obtain ⟨v, vs', d, ds', p, q, rfl, rfl, rfl, h1, h2⟩ := trodAll_cons h
    have ht0 := ht t (by simp)
    exact trodAll_cons_mk (Below.trod hl ht0.1 ht0.2 h1 hb (fun x hx => hlt x (by simp [hx]))) (trodAll_stays hl hb (fun t h => ht t (by simp [h])) (fun x hx => hlt x (by simp [hx])) h2)
theorem law_post {f : Func} {s : ChangeSpec} {tb : TypeId} (hvars : s.vars = []) (hres : f.resultTypes = #[tb]) (htb : P.underlying tb = some .bool) (hl : laidOutB P = true) (hread : ∀ t ∈ f.params.toList, P.readableRec t = true ∧ t < P.types.size)
    {W W' : World} {args : Array Value} {ds gs : List (DataW H)} {before : List MemPlace} (hW : DataW.Whole enc P f.params.toList s.vars false W args.toList ds gs before)
    (hfn : s.fn H (ds ++ gs) = { results := [.lit (.bool true)], args := ds }) (hb : Below W.heap.size W W') : s.post enc P f false true false false W args (.bool true) W' := by
  have hlt : ∀ p ∈ before, p.block < W.heap.size := fun p hp => hW.lt p hp
  have hW' := hW
  obtain ⟨p, q, hA, hV, rfl, _, _⟩ := hW
  rw [hvars] at hV
  obtain ⟨rfl, rfl⟩ := trodVars_none hV
  refine ⟨ds, [], _, [], p, [], hW', ?_, ?_, ?_, World.keptBut_mono (fun x hx => ⟨hx, ?_⟩) (hb.frame (· ∈ p ++ [])), fun h => by cases h⟩
  · rw [hfn, hres]
    exact trodAll_cons_mk (shut_bool htb _) trodAll_mk0
  · rw [hfn]
    exact trodAll_stays hl hb hread (fun x hx => hlt x (by simp [hx])) hA
  · rw [hfn, hvars]
    rfl
  · simpa using hx
end
end Go.Proofs.Ytpiaiibobjlipaa
namespace Go.Proofs.Ytpiaiibobjlipaa
open Go.RowKit
theorem own : ownKnob Try.prog.godebug = none := by kernel_rfl
theorem laidOut : laidOutB Try.prog = true := by kernel_rfl
noncomputable def laidWorld (os : Os) : World := World.holding Try.prog os ⟨#[], #[], []⟩
end Go.Proofs.Ytpiaiibobjlipaa
