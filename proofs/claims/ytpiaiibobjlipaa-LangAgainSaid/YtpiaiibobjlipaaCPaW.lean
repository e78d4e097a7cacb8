/-
  What is printed is parsed as it was: expressions, refs, relations, types. No program is named.
  What is parsed may be printed, and nothing of it plays no part; sameness of schemas. No program is named.
  How many tokens a part of the grammar leaves. No program is named.
-/
import Derived.Test.YtpiaiibobjlipaaCLpS
import Derived.Test.YtpiaiibobjlipaaCLaS
import Derived.Test.YtpiaiibobjlipaaCPaL
namespace Go.Proofs.Ytpiaiibobjlipaa
open Go.RowKit

mutual
def normE : Ex → Ex
  | .mk k n o ks => if k = 0 then .mk 0 n [] [] else if k = 1 then .mk 1 n o [] else .mk k [] [] (normL ks)
def normL : List Ex → List Ex
  | [] => []
  | x :: r => normE x :: normL r
end
def normR (x : Rl) : Rl := if x.refs.length = 0 then ⟨x.name, [], normE x.expr⟩ else ⟨x.name, x.refs, noEx⟩
def normT (t : Ty) : Ty := ⟨t.name, t.rels.map normR⟩
def normS (s : Sc) : Sc := s.map normT
theorem map_cons {P : List Tk} {a : Txt} {A : List Txt} (h : P.map (·.1) = a :: A) : ∃ t P', P = t :: P' ∧ t.1 = a ∧ P'.map (·.1) = A := by
  cases P with
  | nil => simp at h
  | cons t P' => simp only [List.map_cons, List.cons.injEq] at h; exact ⟨t, P', rfl, h.1, h.2⟩
theorem map_app {P : List Tk} {A B : List Txt} (h : P.map (·.1) = A ++ B) : ∃ P1 P2, P = P1 ++ P2 ∧ P1.map (·.1) = A ∧ P2.map (·.1) = B := by
  obtain ⟨P1, P2, h1, h2, h3⟩ := List.map_eq_append_iff.1 h
  exact ⟨P1, P2, h1, h2, h3⟩
theorem name_sign {w : Txt} (h : nameL w = true) : w ≠ [40] ∧ w ≠ [41] ∧ w ≠ [46] ∧ w ≠ [38] ∧ w ≠ [43] ∧ w ≠ [45] ∧ w ≠ [35] ∧ w ≠ [124] ∧ w ≠ [58] ∧ w ≠ [] ∧ w ≠ typW2 ∧ w ≠ relW2 ∧ w ≠ defW2 := by
  refine ⟨?_, ?_, ?_, ?_, ?_, ?_, ?_, ?_, ?_, ?_, ?_, ?_, ?_⟩ <;> (rintro rfl; revert h; decide)
theorem mayE_height : ∀ (e : Ex) (m : Int), 0 ≤ m → mayE e m = true → (heightE e : Int) ≤ m := by
  intro e
  refine Ex.all (P := fun e => ∀ m : Int, 0 ≤ m → mayE e m = true → (heightE e : Int) ≤ m) (fun k n o ks ih m hm h => ?_) e
  obtain ⟨⟨h0, _, _⟩, h⟩ := mayE_op h
  rcases h with ⟨_, _, rfl, _⟩ | ⟨_, x, y, rfl, h1, h2⟩
  · simp only [heightE, heightL]; omega
  · have e1 := ih x (by simp) (m - 1) (by omega) h1
    have e2 := ih y (by simp) (m - 1) (by omega) h2
    simp only [heightE, heightL]; omega
theorem norm_height : ∀ (e : Ex) (m : Int), mayE e m = true → heightE (normE e) = heightE e := by
  intro e
  refine Ex.all (P := fun e => ∀ m : Int, mayE e m = true → heightE (normE e) = heightE e) (fun k n o ks ih m h => ?_) e
  obtain ⟨⟨h0, _, _⟩, h⟩ := mayE_op h
  rcases h with ⟨hk, _, rfl, _⟩ | ⟨hk, x, y, rfl, h1, h2⟩
  · unfold normE
    split
    · simp only [heightE]
    · rw [if_pos (by omega)]; simp only [heightE]
  · unfold normE
    rw [if_neg (by omega), if_neg (by omega)]
    simp only [normL, heightE, heightL]
    rw [ih x (by simp) _ h1, ih y (by simp) _ h2]
def stop (Q : List Tk) : Prop := (nx Q).1 ≠ [46] ∧ (nx Q).1 ≠ [38] ∧ (nx Q).1 ≠ [43] ∧ (nx Q).1 ≠ [45] ∧ (nx Q).1 ≠ [35] ∧ (nx Q).1 ≠ [124]
theorem termLoop_stop (sub : Option (List Tk → Rs Ex)) (n : Nat) (a : Ex) (Q : List Tk) (h : (nx Q).1 ≠ [38]) : termLoop sub n a Q = .ok a Q := by
  cases n with
  | zero => rfl
  | succ n => rw [termLoop, if_neg h]
theorem exprLoop_stop (sub : Option (List Tk → Rs Ex)) (n : Nat) (a : Ex) (Q : List Tk) (h : (nx Q).1 ≠ [43] ∧ (nx Q).1 ≠ [45]) : exprLoop sub n a Q = .ok a Q := by
  cases n with
  | zero => rfl
  | succ n => rw [exprLoop, if_neg (fun e => e.elim h.1 h.2)]
theorem atom_show : ∀ (e : Ex) (m : Int) (d : Nat), mayE e m = true → 0 ≤ m → m ≤ 12 → m ≤ d + 1 → ∀ (P Q : List Tk), P.map (·.1) = exT e → (nx Q).1 ≠ [46] → atomK (subD d) (P ++ Q) = .ok (normE e) Q := by
  intro e
  refine Ex.all (P := fun e => ∀ (m : Int) (d : Nat), mayE e m = true → 0 ≤ m → m ≤ 12 → m ≤ d + 1 → ∀ (P Q : List Tk), P.map (·.1) = exT e → (nx Q).1 ≠ [46] → atomK (subD d) (P ++ Q) = .ok (normE e) Q) (fun k n o ks ih m d h hm hm2 hd P Q hP hQ => ?_) e
  obtain ⟨⟨h0, k0, k4⟩, h⟩ := mayE_op h
  unfold exT at hP
  unfold normE
  rcases h with ⟨hk, h1, rfl, h3⟩ | ⟨hk, x, y, rfl, h1, h2⟩
  · have hs := name_sign h1
    by_cases hk0 : k = 0
    · rw [if_pos hk0] at hP ⊢
      obtain ⟨t, P', rfl, ht, hP'⟩ := map_cons hP
      obtain rfl : P' = [] := by simpa using hP'
      have e1 : nx ([t] ++ Q) = t := rfl
      unfold atomK
      rw [e1, ht, if_neg hs.1, nameP, e1, ht, h1, if_pos rfl]
      show (if (nx Q).1 = [46] then _ else Rs.ok (Ex.mk 0 n [] []) Q) = _
      rw [if_neg hQ]
    · have h4 : nameL o = true := h3.resolve_left hk0
      rw [if_neg hk0, if_pos (by omega)] at hP ⊢
      obtain ⟨t, P', rfl, ht, hP'⟩ := map_cons hP
      obtain ⟨t2, P2, rfl, ht2, hP2⟩ := map_cons hP'
      obtain ⟨t3, P3, rfl, ht3, hP3⟩ := map_cons hP2
      obtain rfl : P3 = [] := by simpa using hP3
      have e1 : nx ([t, t2, t3] ++ Q) = t := rfl
      unfold atomK
      rw [e1, ht, if_neg hs.1, nameP, e1, ht, h1, if_pos rfl]
      show (if t2.1 = [46] then (nameP (t3 :: Q)).then fun o r => Rs.ok (Ex.mk 1 n o []) r else _) = _
      rw [if_pos ht2, nameP, show nx (t3 :: Q) = t3 from rfl, ht3, h4, if_pos rfl]
      rfl
  · rw [if_neg (by omega), if_neg (by omega)] at hP ⊢
    simp only [exTs, List.getD_cons_zero, List.getD_cons_succ] at hP
    obtain ⟨t, P', rfl, ht, hP'⟩ := map_cons hP
    obtain ⟨Pa, P2, rfl, hPa, hP2⟩ := map_app hP'
    obtain ⟨to, P3, rfl, hto, hP3⟩ := map_cons hP2
    obtain ⟨Pb, P4, rfl, hPb, hP4⟩ := map_app hP3
    obtain ⟨tc, P5, rfl, htc, hP5⟩ := map_cons hP4
    obtain rfl : P5 = [] := by simpa using hP5
    have hm1 : m - 1 ≠ 0 := by
      obtain ⟨a1, a2, a3, a4⟩ := x
      exact (mayE_op h1).1.1
    obtain ⟨d', rfl⟩ : ∃ d', d = d' + 1 := ⟨d - 1, by omega⟩
    have hx := fun Q' hQ' => ih x (by simp) (m - 1) d' h1 (by omega) (by omega) (by omega) Pa Q' hPa hQ'
    have hy := fun Q' hQ' => ih y (by simp) (m - 1) d' h2 (by omega) (by omega) (by omega) Pb Q' hPb hQ'
    have hh : ¬ 12 < heightE (.mk k [] [] [normE x, normE y]) := by
      have e1 := mayE_height x (m - 1) (by omega) h1
      have e2 := mayE_height y (m - 1) (by omega) h2
      simp only [heightE, heightL]
      rw [norm_height x _ h1, norm_height y _ h2]
      omega
    have htw : ∀ t r, twoP k t (normE x) (normE y) r = .ok (.mk k [] [] [normE x, normE y]) r := fun t r => by rw [twoP, if_neg hh]
    simp only [normL]
    -- the tokens within the brackets
    have hin : exprD d' (Pa ++ to :: (Pb ++ tc :: Q)) = .ok (.mk k [] [] [normE x, normE y]) (tc :: Q) := by
      have c1 : (nx (tc :: Q)).1 = [41] := htc
      have ex1 := hx (to :: (Pb ++ tc :: Q)) (by show to.1 ≠ _; rw [hto]; unfold opW; split <;> (try split) <;> decide)
      have ey1 := hy (tc :: Q) (by rw [c1]; decide)
      obtain ⟨q, hq⟩ : ∃ q, (Pa ++ to :: (Pb ++ tc :: Q)).length = q + 1 := ⟨(Pa ++ to :: (Pb ++ tc :: Q)).length - 1, by simp; omega⟩
      rw [exprD_eq, exprK, termK, ex1, hq]
      show ((termLoop (subD d') (q + 1) (normE x) (to :: (Pb ++ tc :: Q))).then _) = _
      by_cases hk3 : k = 3
      · subst hk3
        have hto2 : (nx (to :: (Pb ++ tc :: Q))).1 = [38] := hto
        rw [termLoop, if_pos hto2]
        show ((((atomK (subD d') (Pb ++ tc :: Q)).then _)).then _) = _
        rw [ey1]
        show (((twoP 3 to (normE x) (normE y) (tc :: Q)).then _).then _) = _
        rw [htw]
        show ((termLoop (subD d') q _ (tc :: Q)).then _) = _
        rw [termLoop_stop _ _ _ _ (by rw [c1]; decide)]
        show exprLoop _ _ _ (tc :: Q) = _
        rw [exprLoop_stop _ _ _ _ (by rw [c1]; exact ⟨by decide, by decide⟩)]
      · have hto2 : (nx (to :: (Pb ++ tc :: Q))).1 = opW k := hto
        have hne : opW k ≠ [38] := by
          unfold opW; split
          · decide
          · first | (rw [if_neg hk3]; decide) | decide
        rw [termLoop_stop _ _ _ _ (by rw [hto2]; exact hne)]
        show exprLoop _ (q + 1) _ _ = _
        have hpm : (nx (to :: (Pb ++ tc :: Q))).1 = [43] ∨ (nx (to :: (Pb ++ tc :: Q))).1 = [45] := by
          rw [hto2]; unfold opW
          by_cases hk2 : k = 2
          · rw [if_pos hk2]; exact .inl rfl
          · rw [if_neg hk2, if_neg hk3]; exact .inr rfl
        have hkk : (if (nx (to :: (Pb ++ tc :: Q))).1 = [45] then (4 : Int) else 2) = k := by
          rw [hto2]; unfold opW
          by_cases hk2 : k = 2
          · rw [if_pos hk2, if_neg (by decide)]; exact hk2.symm
          · rw [if_neg hk2, if_neg hk3, if_pos rfl]; omega
        rw [exprLoop, if_pos hpm, hkk]
        show (((termK (subD d') (Pb ++ tc :: Q)).then _)) = _
        rw [termK, ey1]
        show (((termLoop (subD d') _ (normE y) (tc :: Q)).then _)) = _
        rw [termLoop_stop _ _ _ _ (by rw [c1]; decide)]
        show ((twoP k to (normE x) (normE y) (tc :: Q)).then _) = _
        rw [htw]
        show exprLoop _ q _ (tc :: Q) = _
        rw [exprLoop_stop _ _ _ _ (by rw [c1]; exact ⟨by decide, by decide⟩)]
    have e0 : nx (t :: (Pa ++ to :: (Pb ++ [tc])) ++ Q) = t := rfl
    have e2 : (t :: (Pa ++ to :: (Pb ++ [tc])) ++ Q).tail = Pa ++ to :: (Pb ++ tc :: Q) := by simp
    unfold atomK
    rw [e0, if_pos ht, e2]
    show ((exprD d' (Pa ++ to :: (Pb ++ tc :: Q))).then _) = _
    rw [hin]
    show ((mustP [41] (tc :: Q)).then _) = _
    rw [mustP, show (nx (tc :: Q)).1 = tc.1 from rfl, if_pos htc]
    rfl
theorem expr_show {e : Ex} (h : mayE e 12 = true) {P Q : List Tk} (hP : P.map (·.1) = exT e) (hQ : stop Q) : exprD 12 (P ++ Q) = .ok (normE e) Q := by
  have ha := atom_show e 12 12 h (by omega) (by omega) (by omega) P Q hP hQ.1
  rw [exprD_eq, exprK, termK, ha]
  show ((termLoop (subD 12) _ (normE e) Q).then _) = _
  rw [termLoop_stop _ _ _ _ hQ.2.1]
  show exprLoop _ _ _ Q = _
  rw [exprLoop_stop _ _ _ _ ⟨hQ.2.2.1, hQ.2.2.2.1⟩]
theorem name_at {n : Txt} (h : nameL n = true) {t : Tk} (ht : t.1 = n) (Q : List Tk) : nameP (t :: Q) = .ok n Q := by
  rw [nameP, show (nx (t :: Q)).1 = t.1 from rfl, ht, h, if_pos rfl]; rfl
theorem must_at {s : Txt} {t : Tk} (ht : t.1 = s) (Q : List Tk) : mustP s (t :: Q) = .ok () Q := by
  rw [mustP, show (nx (t :: Q)).1 = t.1 from rfl, if_pos ht]; rfl
theorem ref_show {x : Rf} (h : mayRf x = true) {P Q : List Tk} (hP : P.map (·.1) = rfK x) (hQ : (nx Q).1 ≠ [35]) : refP (P ++ Q) = .ok x Q := by
  unfold mayRf at h
  simp only [Bool.and_eq_true, Bool.or_eq_true] at h
  obtain ⟨h1, h2⟩ := h
  obtain ⟨a, b⟩ := x
  unfold rfK at hP
  by_cases h0 : b = []
  · rw [if_pos h0] at hP
    obtain ⟨t, P', rfl, ht, hP'⟩ := map_cons hP
    obtain rfl : P' = [] := by simpa using hP'
    subst h0
    rw [refP, show [t] ++ Q = t :: Q from rfl, name_at h1 ht]
    show (if (nx Q).1 = [35] then _ else Rs.ok (a, []) Q) = _
    rw [if_neg hQ]
  · have h3 : nameL b = true := h2.resolve_left (by simpa using h0)
    rw [if_neg h0] at hP
    obtain ⟨t, P', rfl, ht, hP'⟩ := map_cons hP
    obtain ⟨t2, P2, rfl, ht2, hP2⟩ := map_cons hP'
    obtain ⟨t3, P3, rfl, ht3, hP3⟩ := map_cons hP2
    obtain rfl : P3 = [] := by simpa using hP3
    rw [refP, show [t, t2, t3] ++ Q = t :: t2 :: t3 :: Q from rfl, name_at h1 ht]
    show (if t2.1 = [35] then (nameP (t3 :: Q)).then fun o r => Rs.ok (a, o) r else _) = _
    rw [if_pos ht2, name_at h3 ht3]; rfl
theorem refs_head {l : List Rf} {P Q : List Tk} (hP : P.map (·.1) = rfsK false l) (hQ : (nx Q).1 ≠ [35]) : (nx (P ++ Q)).1 ≠ [35] := by
  cases l with
  | nil =>
    obtain rfl : P = [] := by simpa [rfsK] using hP
    exact hQ
  | cons x l =>
    rw [rfsK] at hP
    obtain ⟨t, P', rfl, ht, _⟩ := map_cons (A := rfK x ++ rfsK false l) hP
    show t.1 ≠ _
    rw [ht]; decide
theorem refs_show : ∀ (l : List Rf), l.all mayRf = true → ∀ (n : Nat), l.length ≤ n → ∀ (P Q : List Tk), P.map (·.1) = rfsK false l → (nx Q).1 ≠ [124] → (nx Q).1 ≠ [35] → refsLoop n (P ++ Q) = .ok l Q
  | [], _, n, _, P, Q, hP, h1, _ => by
    obtain rfl : P = [] := by simpa [rfsK] using hP
    cases n with
    | zero => rfl
    | succ n => rw [List.nil_append, refsLoop, if_neg h1]
  | x :: l, h, n, hn, P, Q, hP, h1, h2 => by
    rw [List.all_cons, Bool.and_eq_true] at h
    obtain ⟨n, rfl⟩ : ∃ k, n = k + 1 := ⟨n - 1, by simp at hn; omega⟩
    rw [rfsK] at hP
    obtain ⟨t, P', rfl, ht, hP'⟩ := map_cons (A := rfK x ++ rfsK false l) hP
    obtain ⟨P1, P2, rfl, hP1, hP2⟩ := map_app hP'
    have ih := refs_show l h.2 n (by simpa using hn) P2 Q hP2 h1 h2
    have hr := ref_show h.1 (Q := P2 ++ Q) hP1 (refs_head hP2 h2)
    rw [List.cons_append, List.append_assoc, refsLoop, show (nx (t :: (P1 ++ (P2 ++ Q)))).1 = t.1 from rfl, if_pos ht]
    show ((refP (P1 ++ (P2 ++ Q))).then _) = _
    rw [hr]
    show ((refsLoop n (P2 ++ Q)).then _) = _
    rw [ih]; rfl
theorem rfsK_len : ∀ (b : Bool) (l : List Rf), l.length ≤ (rfsK b l).length
  | _, [] => by simp [rfsK]
  | b, x :: l => by
    have := rfsK_len false l
    rw [rfsK]
    simp only [List.length_append, List.length_cons, rfK]
    omega
theorem told_show {x : Rl} (h1 : nameL x.name = true) (h2 : x.refs.all mayRf = true) (h0 : x.refs.length ≠ 0) {P Q : List Tk} (hP : P.map (·.1) = x.name :: [58] :: rfsK true x.refs) (hQ : stop Q) : toldP (P ++ Q) = .ok ⟨x.name, x.refs, noEx⟩ Q := by
  obtain ⟨a, rs, e⟩ := x
  cases rs with
  | nil => exact absurd rfl h0
  | cons r l =>
    rw [List.all_cons, Bool.and_eq_true] at h2
    obtain ⟨t, P', rfl, ht, hP'⟩ := map_cons hP
    obtain ⟨t2, P2, rfl, ht2, hP2⟩ := map_cons hP'
    rw [rfsK] at hP2
    obtain ⟨P3, P4, rfl, hP3, hP4⟩ := map_app (A := rfK r) (B := rfsK false l) hP2
    have hr := ref_show h2.1 (Q := P4 ++ Q) hP3 (refs_head hP4 hQ.2.2.2.2.1)
    have hl := refs_show l h2.2 (P4 ++ Q).length (by
      have e1 := congrArg List.length hP4
      rw [List.length_map] at e1
      have := rfsK_len false l
      rw [List.length_append]; omega) P4 Q hP4 hQ.2.2.2.2.2 hQ.2.2.2.2.1
    rw [toldP, show (t :: t2 :: (P3 ++ P4)) ++ Q = t :: t2 :: (P3 ++ (P4 ++ Q)) by simp, name_at h1 ht]
    show ((mustP [58] (t2 :: (P3 ++ (P4 ++ Q)))).then _) = _
    rw [must_at ht2]
    show ((refP (P3 ++ (P4 ++ Q))).then _) = _
    rw [hr]
    show ((refsLoop _ (P4 ++ Q)).then _) = _
    rw [hl]; rfl
theorem def_show {n : Txt} {e : Ex} (h1 : nameL n = true) (h2 : mayE e 12 = true) {P Q : List Tk} (hP : P.map (·.1) = n :: [58] :: exT e) (hQ : stop Q) : defP (P ++ Q) = .ok ⟨n, [], normE e⟩ Q := by
  obtain ⟨t, P', rfl, ht, hP'⟩ := map_cons hP
  obtain ⟨t2, P2, rfl, ht2, hP2⟩ := map_cons hP'
  rw [defP, show (t :: t2 :: P2) ++ Q = t :: t2 :: (P2 ++ Q) from rfl, name_at h1 ht]
  show ((mustP [58] (t2 :: (P2 ++ Q))).then _) = _
  rw [must_at ht2]
  show ((exprD 12 (P2 ++ Q)).then _) = _
  rw [expr_show h2 hP2 hQ]; rfl
theorem stop_of {Q : List Tk} (h : (nx Q).1 = [] ∨ (nx Q).1 = typW2 ∨ (nx Q).1 = relW2 ∨ (nx Q).1 = defW2) : stop Q := by
  unfold stop
  rcases h with h | h | h | h <;> (rw [h]; decide)
theorem rls_head {l : List Rl} {P Q : List Tk} (hP : P.map (·.1) = rlsK l) (hQ : (nx Q).1 = [] ∨ (nx Q).1 = typW2) : (nx (P ++ Q)).1 = [] ∨ (nx (P ++ Q)).1 = typW2 ∨ (nx (P ++ Q)).1 = relW2 ∨ (nx (P ++ Q)).1 = defW2 := by
  cases l with
  | nil =>
    obtain rfl : P = [] := by simpa [rlsK] using hP
    exact hQ.elim .inl (fun h => .inr (.inl h))
  | cons x l =>
    rw [rlsK, rlK] at hP
    by_cases h0 : x.refs.length = 0
    · rw [if_pos h0] at hP
      obtain ⟨t, P', rfl, ht, _⟩ := map_cons (A := (x.name :: [58] :: exT x.expr) ++ rlsK l) hP
      exact .inr (.inr (.inr ht))
    · rw [if_neg h0] at hP
      obtain ⟨t, P', rfl, ht, _⟩ := map_cons (A := (x.name :: [58] :: rfsK true x.refs) ++ rlsK l) hP
      exact .inr (.inr (.inl ht))
theorem rels_show : ∀ (l : List Rl), l.all mayR = true → ∀ (n : Nat), l.length ≤ n → ∀ (P Q : List Tk), P.map (·.1) = rlsK l → ((nx Q).1 = [] ∨ (nx Q).1 = typW2) → relsLoop n (P ++ Q) = .ok (l.map normR) Q
  | [], _, n, _, P, Q, hP, hQ => by
    obtain rfl : P = [] := by simpa [rlsK] using hP
    have h1 : (nx Q).1 ≠ relW2 ∧ (nx Q).1 ≠ defW2 := by rcases hQ with h | h <;> (rw [h]; exact ⟨by decide, by decide⟩)
    cases n with
    | zero => rfl
    | succ n => rw [List.nil_append, relsLoop, if_neg h1.1, if_neg h1.2]; rfl
  | x :: l, h, n, hn, P, Q, hP, hQ => by
    rw [List.all_cons, Bool.and_eq_true] at h
    obtain ⟨n, rfl⟩ : ∃ k, n = k + 1 := ⟨n - 1, by simp at hn; omega⟩
    have hx := h.1
    unfold mayR at hx
    simp only [Bool.and_eq_true, Bool.or_eq_true, decide_eq_true_eq] at hx
    obtain ⟨h1, h2, h3⟩ := hx
    rw [rlsK, rlK] at hP
    rw [List.map_cons, normR]
    by_cases h0 : x.refs.length = 0
    · rw [if_pos h0] at hP ⊢
      obtain ⟨t, P', rfl, ht, hP'⟩ := map_cons (A := (x.name :: [58] :: exT x.expr) ++ rlsK l) hP
      obtain ⟨P1, P2, rfl, hP1, hP2⟩ := map_app hP'
      have ih := rels_show l h.2 n (by simpa using hn) P2 Q hP2 hQ
      have hr := def_show h1 (h3.resolve_left (by omega)) (Q := P2 ++ Q) hP1 (stop_of (rls_head hP2 hQ))
      rw [List.cons_append, List.append_assoc, relsLoop, show (nx (t :: (P1 ++ (P2 ++ Q)))).1 = t.1 from rfl, ht, if_neg (by decide), if_pos rfl]
      show ((defP (P1 ++ (P2 ++ Q))).then _) = _
      rw [hr]
      show ((relsLoop n (P2 ++ Q)).then _) = _
      rw [ih]; rfl
    · rw [if_neg h0] at hP ⊢
      obtain ⟨t, P', rfl, ht, hP'⟩ := map_cons (A := (x.name :: [58] :: rfsK true x.refs) ++ rlsK l) hP
      obtain ⟨P1, P2, rfl, hP1, hP2⟩ := map_app hP'
      have ih := rels_show l h.2 n (by simpa using hn) P2 Q hP2 hQ
      have hr := told_show h1 h2 h0 (Q := P2 ++ Q) hP1 (stop_of (rls_head hP2 hQ))
      rw [List.cons_append, List.append_assoc, relsLoop, show (nx (t :: (P1 ++ (P2 ++ Q)))).1 = t.1 from rfl, if_pos ht]
      show ((toldP (P1 ++ (P2 ++ Q))).then _) = _
      rw [hr]
      show ((relsLoop n (P2 ++ Q)).then _) = _
      rw [ih]; rfl
theorem rlsK_len : ∀ (l : List Rl), l.length ≤ (rlsK l).length
  | [] => by simp [rlsK]
  | x :: l => by
    have := rlsK_len l
    have h1 : 1 ≤ (rlK x).length := by unfold rlK; split <;> simp
    rw [rlsK]
    simp only [List.length_append, List.length_cons]
    omega
theorem types_show : ∀ (s : Sc), mayS s = true → ∀ (n : Nat), s.length ≤ n → ∀ (P Q : List Tk), P.map (·.1) = scK s → (nx Q).1 = [] → typesLoop n (P ++ Q) = .ok (normS s) Q
  | [], _, n, _, P, Q, hP, hQ => by
    obtain rfl : P = [] := by simpa [scK] using hP
    cases n with
    | zero => rfl
    | succ n => rw [List.nil_append, typesLoop, if_neg (by rw [hQ]; decide)]; rfl
  | x :: l, h, n, hn, P, Q, hP, hQ => by
    unfold mayS at h
    rw [List.all_cons, Bool.and_eq_true] at h
    have hx := h.1
    unfold mayT at hx
    rw [Bool.and_eq_true] at hx
    obtain ⟨n, rfl⟩ : ∃ k, n = k + 1 := ⟨n - 1, by simp at hn; omega⟩
    rw [scK, tyK] at hP
    obtain ⟨t, P', rfl, ht, hP'⟩ := map_cons (A := (x.name :: rlsK x.rels) ++ scK l) hP
    obtain ⟨t2, P2, rfl, ht2, hP2⟩ := map_cons (A := rlsK x.rels ++ scK l) hP'
    obtain ⟨P3, P4, rfl, hP3, hP4⟩ := map_app hP2
    have ih := types_show l h.2 n (by simpa using hn) P4 Q hP4 hQ
    have hnext : (nx (P4 ++ Q)).1 = [] ∨ (nx (P4 ++ Q)).1 = typW2 := by
      cases l with
      | nil =>
        obtain rfl : P4 = [] := by simpa [scK] using hP4
        exact .inl hQ
      | cons y l =>
        rw [scK, tyK] at hP4
        obtain ⟨u, P5, rfl, hu, _⟩ := map_cons (A := (y.name :: rlsK y.rels) ++ scK l) hP4
        exact .inr hu
    have hr := rels_show x.rels hx.2 (P3 ++ (P4 ++ Q)).length (by
      have e1 := congrArg List.length hP3
      rw [List.length_map] at e1
      have := rlsK_len x.rels
      rw [List.length_append]; omega) P3 (P4 ++ Q) hP3 hnext
    rw [show (t :: t2 :: (P3 ++ P4)) ++ Q = t :: t2 :: (P3 ++ (P4 ++ Q)) by simp, typesLoop, show (nx (t :: t2 :: (P3 ++ (P4 ++ Q)))).1 = t.1 from rfl, if_pos ht]
    show ((nameP (t2 :: (P3 ++ (P4 ++ Q)))).then _) = _
    rw [name_at hx.1 ht2]
    show ((relsLoop _ (P3 ++ (P4 ++ Q))).then _) = _
    rw [hr]
    show ((typesLoop n (P4 ++ Q)).then _) = _
    rw [ih]; rfl
theorem scK_len : ∀ (s : Sc), s.length ≤ (scK s).length
  | [] => by simp [scK]
  | x :: l => by
    have := scK_len l
    rw [scK, tyK]
    simp only [List.length_append, List.length_cons]
    omega
theorem parse_print {s : Sc} (h : mayS s = true) (hl : (scT s).length ≤ 4096) : parseT (scT s) = (normS s, (0, 0, 0)) := by
  have ht := tokL_map _ (scT s) 1 1 (Nat.le_refl _)
  rw [tok_sc s h] at ht
  obtain ⟨P, P2, hP, hP1, hP2⟩ := map_app ht
  obtain ⟨t, P3, rfl, ht1, hP3⟩ := map_cons hP2
  obtain rfl : P3 = [] := by simpa using hP3
  have hn : (nx [t]).1 = [] := ht1
  have hw := types_show s h (P ++ [t]).length (by
    have e1 := congrArg List.length hP1
    rw [List.length_map] at e1
    have := scK_len s
    rw [List.length_append]; omega) P [t] hP1 hn
  rw [parseT, if_neg (by omega), hP, wholeP, hw]
  show (match (if (nx [t]).1 = [] then Rs.ok (normS s) [t] else _) with | .ok s _ => (s, (0, 0, 0)) | .no d => ([], d)) = _
  rw [if_pos hn]
end Go.Proofs.Ytpiaiibobjlipaa
namespace Go.Proofs.Ytpiaiibobjlipaa
open Go.RowKit
theorem eqE_self : ∀ e : Ex, eqE e e = true := by
  intro e
  refine Ex.all (P := fun e => eqE e e = true) (fun k n o ks ih => ?_) e
  have hL : ∀ l : List Ex, (∀ x ∈ l, x ∈ ks) → eqL l l = true := by
    intro l
    induction l with
    | nil => intro _; rw [eqL]; intro _ _ _ _ h; cases h
    | cons x r ihr =>
      intro hs
      rw [eqL, ih x (hs x (List.mem_cons_self ..)), ihr (fun y hy => hs y (List.mem_cons_of_mem _ hy))]; rfl
  rw [eqE, if_pos ⟨rfl, rfl⟩]
  split
  · simp
  · exact hL ks (fun _ h => h)
theorem eqR_self (x : Rl) : eqR x x = true := by
  rw [eqR, if_pos ⟨rfl, rfl⟩, eqE_self]; simp
theorem eqRs_self : ∀ l : List Rl, eqRs l l = true
  | [] => by rw [eqRs]; intro _ _ _ _ h; cases h
  | x :: l => by rw [eqRs, eqR_self, eqRs_self l]; rfl
theorem eqT_self (t : Ty) : eqT t t = true := by rw [eqT, if_pos ⟨rfl, rfl⟩]; exact eqRs_self _
theorem eqTs_self : ∀ l : List Ty, eqTs l l = true
  | [] => by rw [eqTs]; intro _ _ _ _ h; cases h
  | x :: l => by rw [eqTs, eqT_self, eqTs_self l]; rfl
theorem eqS_self (s : Sc) : eqS s s = true := by rw [eqS, if_pos rfl]; exact eqTs_self s
theorem eqE_norm : ∀ (e : Ex) (m : Int), mayE e m = true → eqE (normE e) e = true := by
  intro e
  refine Ex.all (P := fun e => ∀ m : Int, mayE e m = true → eqE (normE e) e = true) (fun k n o ks ih m h => ?_) e
  obtain ⟨⟨h0, _, _⟩, h⟩ := mayE_op h
  unfold normE
  rcases h with ⟨hk, _, rfl, _⟩ | ⟨hk, x, y, rfl, h1, h2⟩
  · by_cases hk0 : k = 0
    · subst hk0; rw [if_pos rfl, eqE]; simp
    · obtain rfl : k = 1 := by omega
      rw [if_neg (by decide), if_pos rfl, eqE]; simp
  · rw [if_neg (by omega), if_neg (by omega), show normL [x, y] = [normE x, normE y] from rfl, eqE, if_pos ⟨rfl, rfl⟩, if_neg (by simp), eqL, eqL, eqL, ih x (by simp) _ h1, ih y (by simp) _ h2]
    · rfl
    · intro _ _ _ _ h; cases h
theorem eqR_norm {x : Rl} (h : mayR x = true) : eqR (normR x) x = true := by
  unfold mayR at h
  simp only [Bool.and_eq_true, Bool.or_eq_true, decide_eq_true_eq] at h
  obtain ⟨_, _, h3⟩ := h
  unfold normR
  by_cases h0 : x.refs.length = 0
  · rw [if_pos h0, eqR, if_pos ⟨rfl, h0.symm⟩, eqE_norm _ 12 (h3.resolve_left (by omega))]
    rw [List.eq_nil_of_length_eq_zero h0]; rfl
  · rw [if_neg h0, eqR, if_pos ⟨rfl, rfl⟩]
    simp only [beq_self_eq_true, Bool.true_and, Bool.or_eq_true, decide_eq_true_eq]
    exact .inl (by omega)
theorem eqRs_norm : ∀ l : List Rl, l.all mayR = true → eqRs (l.map normR) l = true
  | [], _ => by rw [List.map_nil, eqRs]; intro _ _ _ _ h; cases h
  | x :: l, h => by
    rw [List.all_cons, Bool.and_eq_true] at h
    rw [List.map_cons, eqRs, eqR_norm h.1, eqRs_norm l h.2]; rfl
theorem eqTs_norm : ∀ l : List Ty, l.all mayT = true → eqTs (l.map normT) l = true
  | [], _ => by rw [List.map_nil, eqTs]; intro _ _ _ _ h; cases h
  | x :: l, h => by
    rw [List.all_cons, Bool.and_eq_true] at h
    have hx := h.1
    unfold mayT at hx
    rw [Bool.and_eq_true] at hx
    have e1 : eqT (normT x) x = true := by rw [eqT, normT, if_pos ⟨rfl, by simp⟩]; exact eqRs_norm _ hx.2
    rw [List.map_cons, eqTs, e1, eqTs_norm l h.2]; rfl
theorem eqS_norm {s : Sc} (h : mayS s = true) : eqS (normS s) s = true := by
  rw [eqS, normS, if_pos (by simp)]; exact eqTs_norm s h
theorem mayE_mono : ∀ (e : Ex) (m m' : Int), mayE e m = true → (heightE e : Int) ≤ m' → mayE e m' = true := by
  intro e
  refine Ex.all (P := fun e => ∀ m m' : Int, mayE e m = true → (heightE e : Int) ≤ m' → mayE e m' = true) (fun k n o ks ih m m' h hh => ?_) e
  obtain ⟨⟨h0, k0, k4⟩, h⟩ := mayE_op h
  rw [mayE]
  rcases h with ⟨hk, h1, rfl, h3⟩ | ⟨hk, x, y, rfl, h1, h2⟩
  · simp only [heightE] at hh
    rw [if_neg (by omega), if_pos hk, h1]
    rcases h3 with h3 | h3
    · rw [h3]; rfl
    · rw [h3]; simp
  · simp only [heightE, heightL] at hh
    rw [if_neg (by omega), if_neg (by omega), mayL, mayL, mayL, ih x (by simp) _ (m' - 1) h1 (by omega), ih y (by simp) _ (m' - 1) h2 (by omega)]
    rfl
def Gd (e : Ex) : Prop := normE e = e ∧ mayE e 12 = true
theorem Rs.then_ok {α β : Type} {x : Rs α} {f : α → List Tk → Rs β} {b : β} {r : List Tk} (h : x.then f = .ok b r) : ∃ a r', x = .ok a r' ∧ f a r' = .ok b r := by
  cases x with
  | ok a r' => exact ⟨a, r', rfl, h⟩
  | no d => cases h
theorem nameP_ok {ts r : List Tk} {n : Txt} (h : nameP ts = .ok n r) : nameL n = true ∧ n = (nx ts).1 ∧ r = ts.tail := by
  unfold nameP at h
  by_cases hn : nameL (nx ts).1 = true
  · rw [if_pos hn] at h; injection h with h1 h2; exact ⟨by rw [← h1]; exact hn, h1.symm, h2.symm⟩
  · rw [if_neg hn] at h; cases h
theorem atom_good {sub : Option (List Tk → Rs Ex)} (hs : ∀ f, sub = some f → ∀ ts e r, f ts = .ok e r → Gd e) {ts r : List Tk} {e : Ex} (h : atomK sub ts = .ok e r) : Gd e := by
  unfold atomK at h
  by_cases h1 : (nx ts).1 = [40]
  · rw [if_pos h1] at h
    cases sub with
    | none => cases h
    | some f =>
      obtain ⟨a, r', h2, h3⟩ := Rs.then_ok h
      obtain ⟨u, r2, _, h5⟩ := Rs.then_ok h3
      injection h5 with h6 _
      rw [← h6]
      exact hs f rfl _ _ _ h2
  · rw [if_neg h1] at h
    obtain ⟨a, r', h2, h3⟩ := Rs.then_ok h
    have hn := (nameP_ok h2).1
    by_cases h4 : (nx r').1 = [46]
    · rw [if_pos h4] at h3
      obtain ⟨b, r2, h5, h6⟩ := Rs.then_ok h3
      have hb := (nameP_ok h5).1
      injection h6 with h7 _
      rw [← h7]
      exact ⟨by rw [normE]; rfl, by rw [mayE, if_neg (by decide), if_pos (by decide), hn, hb]; rfl⟩
    · rw [if_neg h4] at h3
      injection h3 with h7 _
      rw [← h7]
      exact ⟨by rw [normE]; rfl, by rw [mayE, if_neg (by decide), if_pos (by decide), hn]; rfl⟩
theorem two_good {k : Int} {t : Tk} {a b e : Ex} {r r' : List Tk} (hk : 2 ≤ k ∧ k ≤ 4) (ha : Gd a) (hb : Gd b) (h : twoP k t a b r = .ok e r') : Gd e ∧ r' = r := by
  unfold twoP at h
  by_cases hh : 12 < heightE (.mk k [] [] [a, b])
  · rw [if_pos hh] at h; cases h
  · rw [if_neg hh] at h
    injection h with h1 h2
    subst h1 h2
    simp only [heightE, heightL] at hh
    refine ⟨⟨?_, ?_⟩, rfl⟩
    · rw [normE, if_neg (by omega), if_neg (by omega), normL, normL, normL, ha.1, hb.1]
    · rw [mayE, if_neg (by omega), if_neg (by omega), mayL, mayL, mayL, mayE_mono a 12 (12 - 1) ha.2 (by omega), mayE_mono b 12 (12 - 1) hb.2 (by omega)]
      rfl
theorem termLoop_good {sub : Option (List Tk → Rs Ex)} (hs : ∀ f, sub = some f → ∀ ts e r, f ts = .ok e r → Gd e) : ∀ (n : Nat) (a : Ex) (ts : List Tk) (e : Ex) (r : List Tk), Gd a → termLoop sub n a ts = .ok e r → Gd e
  | 0, a, ts, e, r, ha, h => by rw [termLoop] at h; injection h with h1 _; rw [← h1]; exact ha
  | n + 1, a, ts, e, r, ha, h => by
    rw [termLoop] at h
    by_cases h1 : (nx ts).1 = [38]
    · rw [if_pos h1] at h
      obtain ⟨b, r1, h2, h3⟩ := Rs.then_ok h
      obtain ⟨c, r2, h4, h5⟩ := Rs.then_ok h3
      exact termLoop_good hs n c r2 e r (two_good (by omega) ha (atom_good hs h2) h4).1 h5
    · rw [if_neg h1] at h; injection h with h2 _; rw [← h2]; exact ha
theorem term_good {sub : Option (List Tk → Rs Ex)} (hs : ∀ f, sub = some f → ∀ ts e r, f ts = .ok e r → Gd e) {ts r : List Tk} {e : Ex} (h : termK sub ts = .ok e r) : Gd e := by
  obtain ⟨a, r1, h1, h2⟩ := Rs.then_ok h
  exact termLoop_good hs _ a r1 e r (atom_good hs h1) h2
theorem exprLoop_good {sub : Option (List Tk → Rs Ex)} (hs : ∀ f, sub = some f → ∀ ts e r, f ts = .ok e r → Gd e) : ∀ (n : Nat) (a : Ex) (ts : List Tk) (e : Ex) (r : List Tk), Gd a → exprLoop sub n a ts = .ok e r → Gd e
  | 0, a, ts, e, r, ha, h => by rw [exprLoop] at h; injection h with h1 _; rw [← h1]; exact ha
  | n + 1, a, ts, e, r, ha, h => by
    rw [exprLoop] at h
    by_cases h1 : (nx ts).1 = [43] ∨ (nx ts).1 = [45]
    · rw [if_pos h1] at h
      obtain ⟨b, r1, h2, h3⟩ := Rs.then_ok h
      obtain ⟨c, r2, h4, h5⟩ := Rs.then_ok h3
      exact exprLoop_good hs n c r2 e r (two_good (by split <;> omega) ha (term_good hs h2) h4).1 h5
    · rw [if_neg h1] at h; injection h with h2 _; rw [← h2]; exact ha
theorem expr_good {sub : Option (List Tk → Rs Ex)} (hs : ∀ f, sub = some f → ∀ ts e r, f ts = .ok e r → Gd e) {ts r : List Tk} {e : Ex} (h : exprK sub ts = .ok e r) : Gd e := by
  obtain ⟨a, r1, h1, h2⟩ := Rs.then_ok h
  exact exprLoop_good hs _ a r1 e r (term_good hs h1) h2
theorem exprD_good : ∀ (d : Nat) (ts : List Tk) (e : Ex) (r : List Tk), exprD d ts = .ok e r → Gd e
  | 0, ts, e, r, h => expr_good (sub := none) (fun f hf => by cases hf) h
  | d + 1, ts, e, r, h => expr_good (sub := some (exprD d)) (fun f hf => by injection hf with hf; subst hf; exact fun ts e r h => exprD_good d ts e r h) h
theorem ref_good {ts r : List Tk} {x : Rf} (h : refP ts = .ok x r) : mayRf x = true := by
  obtain ⟨s, r1, h1, h2⟩ := Rs.then_ok h
  have hs := (nameP_ok h1).1
  by_cases h3 : (nx r1).1 = [35]
  · rw [if_pos h3] at h2
    obtain ⟨o, r2, h4, h5⟩ := Rs.then_ok h2
    have ho := (nameP_ok h4).1
    injection h5 with h6 _
    rw [← h6, mayRf, hs, ho]; simp
  · rw [if_neg h3] at h2
    injection h2 with h6 _
    rw [← h6, mayRf, hs]; rfl
theorem refs_good : ∀ (n : Nat) (ts : List Tk) (l : List Rf) (r : List Tk), refsLoop n ts = .ok l r → l.all mayRf = true
  | 0, ts, l, r, h => by rw [refsLoop] at h; injection h with h1 _; rw [← h1]; rfl
  | n + 1, ts, l, r, h => by
    rw [refsLoop] at h
    by_cases h1 : (nx ts).1 = [124]
    · rw [if_pos h1] at h
      obtain ⟨x, r1, h2, h3⟩ := Rs.then_ok h
      obtain ⟨l2, r2, h4, h5⟩ := Rs.then_ok h3
      injection h5 with h6 _
      rw [← h6, List.all_cons, ref_good h2, refs_good n r1 l2 r2 h4]; rfl
    · rw [if_neg h1] at h; injection h with h2 _; rw [← h2]; rfl
theorem told_good {ts r : List Tk} {x : Rl} (h : toldP ts = .ok x r) : mayR x = true ∧ normR x = x := by
  obtain ⟨n, r1, h1, h2⟩ := Rs.then_ok h
  obtain ⟨_, r2, _, h3⟩ := Rs.then_ok h2
  obtain ⟨f, r3, h4, h5⟩ := Rs.then_ok h3
  obtain ⟨l, r4, h6, h7⟩ := Rs.then_ok h5
  injection h7 with h8 _
  have hl := refs_good _ _ _ _ h6
  rw [← h8]
  refine ⟨?_, ?_⟩
  · unfold mayR
    simp only [(nameP_ok h1).1, List.all_cons, ref_good h4, hl]; simp
  · unfold normR; simp
theorem def_good {ts r : List Tk} {x : Rl} (h : defP ts = .ok x r) : mayR x = true ∧ normR x = x := by
  obtain ⟨n, r1, h1, h2⟩ := Rs.then_ok h
  obtain ⟨_, r2, _, h3⟩ := Rs.then_ok h2
  obtain ⟨e, r3, h4, h5⟩ := Rs.then_ok h3
  injection h5 with h6 _
  have hg := exprD_good _ _ _ _ h4
  rw [← h6]
  refine ⟨?_, ?_⟩
  · unfold mayR
    simp only [(nameP_ok h1).1, hg.2]; rfl
  · unfold normR; simp [hg.1]
theorem rels_good : ∀ (n : Nat) (ts : List Tk) (l : List Rl) (r : List Tk), relsLoop n ts = .ok l r → l.all mayR = true ∧ l.map normR = l
  | 0, ts, l, r, h => by rw [relsLoop] at h; injection h with h1 _; rw [← h1]; exact ⟨rfl, rfl⟩
  | n + 1, ts, l, r, h => by
    rw [relsLoop] at h
    by_cases h1 : (nx ts).1 = relW2
    · rw [if_pos h1] at h
      obtain ⟨x, r1, h2, h3⟩ := Rs.then_ok h
      obtain ⟨l2, r2, h4, h5⟩ := Rs.then_ok h3
      injection h5 with h6 _
      have g := told_good h2
      have gl := rels_good n r1 l2 r2 h4
      rw [← h6]
      exact ⟨by rw [List.all_cons, g.1, gl.1]; rfl, by rw [List.map_cons, g.2, gl.2]⟩
    · rw [if_neg h1] at h
      by_cases h1 : (nx ts).1 = defW2
      · rw [if_pos h1] at h
        obtain ⟨x, r1, h2, h3⟩ := Rs.then_ok h
        obtain ⟨l2, r2, h4, h5⟩ := Rs.then_ok h3
        injection h5 with h6 _
        have g := def_good h2
        have gl := rels_good n r1 l2 r2 h4
        rw [← h6]
        exact ⟨by rw [List.all_cons, g.1, gl.1]; rfl, by rw [List.map_cons, g.2, gl.2]⟩
      · rw [if_neg h1] at h; injection h with h2 _; rw [← h2]; exact ⟨rfl, rfl⟩
theorem types_good : ∀ (n : Nat) (ts : List Tk) (l : Sc) (r : List Tk), typesLoop n ts = .ok l r → mayS l = true ∧ normS l = l
  | 0, ts, l, r, h => by rw [typesLoop] at h; injection h with h1 _; rw [← h1]; exact ⟨rfl, rfl⟩
  | n + 1, ts, l, r, h => by
    rw [typesLoop] at h
    by_cases h1 : (nx ts).1 = typW2
    · rw [if_pos h1] at h
      obtain ⟨s, r1, h2, h3⟩ := Rs.then_ok h
      obtain ⟨rs, r2, h4, h5⟩ := Rs.then_ok h3
      obtain ⟨l2, r3, h6, h7⟩ := Rs.then_ok h5
      injection h7 with h8 _
      have g := rels_good _ _ _ _ h4
      have gl := types_good n r2 l2 r3 h6
      rw [← h8]
      refine ⟨?_, ?_⟩
      · rw [mayS, List.all_cons, mayT, (nameP_ok h2).1, g.1]; exact gl.1
      · rw [normS, List.map_cons, normT]; show Ty.mk s (rs.map normR) :: normS l2 = _; rw [g.2, gl.2]
    · rw [if_neg h1] at h; injection h with h2 _; rw [← h2]; exact ⟨rfl, rfl⟩
theorem parse_good (l : Txt) : mayS (parseT l).1 = true ∧ normS (parseT l).1 = (parseT l).1 := by
  unfold parseT
  split
  · exact ⟨rfl, rfl⟩
  · rcases h : wholeP (tokL l 1 1) with ⟨s, r⟩ | d
    · obtain ⟨s', r', h1, h2⟩ := Rs.then_ok h
      by_cases h3 : (nx r').1 = []
      · rw [if_pos h3] at h2
        injection h2 with h4 _
        rw [← h4]
        exact types_good _ _ _ _ h1
      · rw [if_neg h3] at h2; cases h2
    · exact ⟨rfl, rfl⟩
end Go.Proofs.Ytpiaiibobjlipaa
namespace Go.Proofs.Ytpiaiibobjlipaa
open Go.RowKit
def Lv {α : Type} (x : Rs α) (n : Nat) : Prop := ∀ a r, x = .ok a r → r.length ≤ n
theorem Lv.then {α β : Type} {x : Rs α} {f : α → List Tk → Rs β} {n m : Nat} (h : Lv x n) (hf : ∀ a r, r.length ≤ n → Lv (f a r) m) : Lv (x.then f) m := by
  intro b r hb
  obtain ⟨a, r', h1, h2⟩ := Rs.then_ok hb
  exact hf a r' (h a r' h1) b r h2
theorem Lv.ok {α : Type} {a : α} {r : List Tk} {n : Nat} (h : r.length ≤ n) : Lv (.ok a r) n := by
  intro b r' hb
  injection hb with _ hb
  subst hb; exact h
theorem Lv.no {α : Type} {d : Dg} {n : Nat} : Lv (.no d : Rs α) n := by
  intro b r' hb; cases hb
theorem Lv.mono {α : Type} {x : Rs α} {n m : Nat} (h : Lv x n) (hm : n ≤ m) : Lv x m := fun a r ha => Nat.le_trans (h a r ha) hm
theorem name_lv (ts : List Tk) : Lv (nameP ts) (ts.length - 1) := by
  unfold nameP
  split
  · exact Lv.ok (by simp)
  · exact Lv.no
theorem must_lv (s : Txt) (ts : List Tk) : Lv (mustP s ts) (ts.length - 1) := by
  unfold mustP
  split
  · exact Lv.ok (by simp)
  · exact Lv.no
theorem ref_lv (ts : List Tk) : Lv (refP ts) (ts.length - 1) := by
  unfold refP
  refine (name_lv ts).then fun a r hr => ?_
  split
  · refine (name_lv _).then fun b r' hr' => Lv.ok ?_
    simp at hr'; omega
  · exact Lv.ok hr
theorem refs_lv : ∀ (n : Nat) (ts : List Tk), Lv (refsLoop n ts) ts.length
  | 0, ts => Lv.ok (Nat.le_refl _)
  | n + 1, ts => by
    unfold refsLoop
    split
    · refine (ref_lv _).then fun x r hr => (refs_lv n r).then fun l r' hr' => Lv.ok ?_
      simp at hr; omega
    · exact Lv.ok (Nat.le_refl _)
theorem atom_lv {sub : Option (List Tk → Rs Ex)} (hs : ∀ f, sub = some f → ∀ ts, Lv (f ts) ts.length) (ts : List Tk) : Lv (atomK sub ts) (ts.length - 1) := by
  unfold atomK
  split
  · cases sub with
    | none => exact Lv.no
    | some f =>
      refine (hs f rfl _).then fun e r hr => (must_lv _ _).then fun _ r' hr' => Lv.ok ?_
      simp at hr; omega
  · refine (name_lv ts).then fun a r hr => ?_
    split
    · refine (name_lv _).then fun b r' hr' => Lv.ok ?_
      simp at hr'; omega
    · exact Lv.ok hr
theorem two_lv (k : Int) (t : Tk) (a b : Ex) (r : List Tk) : Lv (twoP k t a b r) r.length := by
  unfold twoP
  split
  · exact Lv.no
  · exact Lv.ok (Nat.le_refl _)
theorem termLoop_lv {sub : Option (List Tk → Rs Ex)} (hs : ∀ f, sub = some f → ∀ ts, Lv (f ts) ts.length) : ∀ (n : Nat) (a : Ex) (ts : List Tk), Lv (termLoop sub n a ts) ts.length
  | 0, a, ts => Lv.ok (Nat.le_refl _)
  | n + 1, a, ts => by
    unfold termLoop
    split
    · refine (atom_lv hs _).then fun b r hr => (two_lv _ _ _ _ _).then fun e r' hr' => (termLoop_lv hs n e r').mono ?_
      simp at hr; omega
    · exact Lv.ok (Nat.le_refl _)
theorem term_lv {sub : Option (List Tk → Rs Ex)} (hs : ∀ f, sub = some f → ∀ ts, Lv (f ts) ts.length) (ts : List Tk) : Lv (termK sub ts) (ts.length - 1) := by
  unfold termK
  exact (atom_lv hs ts).then fun a r hr => (termLoop_lv hs _ _ _).mono hr
theorem exprLoop_lv {sub : Option (List Tk → Rs Ex)} (hs : ∀ f, sub = some f → ∀ ts, Lv (f ts) ts.length) : ∀ (n : Nat) (a : Ex) (ts : List Tk), Lv (exprLoop sub n a ts) ts.length
  | 0, a, ts => Lv.ok (Nat.le_refl _)
  | n + 1, a, ts => by
    unfold exprLoop
    split
    · refine (term_lv hs _).then fun b r hr => (two_lv _ _ _ _ _).then fun e r' hr' => (exprLoop_lv hs n e r').mono ?_
      simp at hr; omega
    · exact Lv.ok (Nat.le_refl _)
theorem expr_lv {sub : Option (List Tk → Rs Ex)} (hs : ∀ f, sub = some f → ∀ ts, Lv (f ts) ts.length) (ts : List Tk) : Lv (exprK sub ts) (ts.length - 1) := by
  unfold exprK
  exact (term_lv hs ts).then fun a r hr => (exprLoop_lv hs _ _ _).mono hr
theorem exprD_lv : ∀ (d : Nat) (ts : List Tk), Lv (exprD d ts) (ts.length - 1)
  | 0, ts => expr_lv (fun f h => by cases h) ts
  | d + 1, ts => expr_lv (fun f h ts => by
      injection h with h
      subst h
      exact (exprD_lv d ts).mono (by omega)) ts
theorem subD_lv (d : Nat) : ∀ f, subD d = some f → ∀ ts, Lv (f ts) ts.length := by
  intro f h ts
  cases d with
  | zero => cases h
  | succ d =>
    injection h with h
    subst h
    exact (exprD_lv d ts).mono (by omega)
theorem told_lv (ts : List Tk) : Lv (toldP ts) (ts.length - 1) := by
  unfold toldP
  refine (name_lv ts).then fun _ r hr => (must_lv _ r).then fun _ r1 h1 => (ref_lv r1).then fun _ r2 h2 => (refs_lv _ r2).then fun _ r3 h3 => Lv.ok ?_
  omega
theorem def_lv (ts : List Tk) : Lv (defP ts) (ts.length - 1) := by
  unfold defP
  refine (name_lv ts).then fun _ r hr => (must_lv _ r).then fun _ r1 h1 => (exprD_lv 12 r1).then fun _ r2 h2 => Lv.ok ?_
  omega
theorem rels_lv : ∀ (n : Nat) (ts : List Tk), Lv (relsLoop n ts) ts.length
  | 0, ts => Lv.ok (Nat.le_refl _)
  | n + 1, ts => by
    unfold relsLoop
    split
    · refine (told_lv _).then fun x r hr => (rels_lv n r).then fun l r' hr' => Lv.ok ?_
      simp at hr; omega
    · split
      · refine (def_lv _).then fun x r hr => (rels_lv n r).then fun l r' hr' => Lv.ok ?_
        simp at hr; omega
      · exact Lv.ok (Nat.le_refl _)
theorem Start.ne {l : Txt} {i : Nat} (h : Start l i) : 0 < (toks l i).length := by
  rcases h.cases with ⟨_, _, _, e⟩ | ⟨_, _, e, h3⟩ | ⟨_, _, _, _, e1, e⟩ | ⟨_, _, _, _, _, e⟩
  all_goals rw [e]; simp
end Go.Proofs.Ytpiaiibobjlipaa
