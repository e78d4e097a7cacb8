/-
  Keys sort as the lists of their parts do; one begins another just if its parts are the other one's first; what lies from a prefix up to the key behind all that begin with it. No program is named here.
-/
import Derived.Test.YtooooppgdchjaaaKeyL
namespace Go.Proofs.Ytooooppgdchjaaa

theorem less_nil (a : List UInt8) : Op.bytesLess a [] = false := by cases a <;> rfl
theorem less_start (c : UInt8) (r : List UInt8) : Op.bytesLess [] (c :: r) = true := rfl
theorem less_cons (x y : UInt8) (a b : List UInt8) : Op.bytesLess (x :: a) (y :: b) = (decide (x < y) || (x == y && Op.bytesLess a b)) := rfl
theorem less_same (x : UInt8) (a b : List UInt8) : Op.bytesLess (x :: a) (x :: b) = Op.bytesLess a b := by
  rw [less_cons]; simp [UInt8.lt_irrefl]
theorem less_append (c a b : List UInt8) : Op.bytesLess (c ++ a) (c ++ b) = Op.bytesLess a b := by
  induction c with
  | nil => rfl
  | cons x c ih => rw [List.cons_append, List.cons_append, less_same, ih]
theorem less_self (a : List UInt8) : Op.bytesLess a a = false := by
  induction a with
  | nil => rfl
  | cons x a ih => rw [less_same, ih]
theorem less_first {x y : UInt8} (h : x ≠ y) (a b : List UInt8) : Op.bytesLess (x :: a) (y :: b) = decide (x < y) := by
  rw [less_cons]; simp [h]

/-- is a list of parts less than another one? -/
def lessL : List (List UInt8) → List (List UInt8) → Bool
  | _, [] => false
  | [], _ :: _ => true
  | x :: a, y :: b => if x = y then lessL a b else Op.bytesLess x y
theorem pos_of_ne {c : UInt8} (h : c ≠ 0) : 0 < c := by
  rw [UInt8.lt_iff_toNat_lt]
  have : c.toNat ≠ 0 := fun e => h (UInt8.toNat_inj.1 e)
  show 0 < c.toNat
  omega
theorem less_part (x y r s : List UInt8) (h : x ≠ y) : Op.bytesLess (escL x ++ (0 :: 1 :: r)) (escL y ++ (0 :: 1 :: s)) = Op.bytesLess x y := by
  induction x generalizing y with
  | nil =>
    cases y with
    | nil => exact absurd rfl h
    | cons d y =>
      rw [escL_cons, less_start]
      by_cases hd : d = 0
      · subst hd
        rw [if_pos rfl]
        show Op.bytesLess (0 :: 1 :: r) (0 :: 255 :: (escL y ++ _)) = true
        rw [less_same, less_cons]
        rfl
      · rw [if_neg hd]
        show Op.bytesLess (0 :: 1 :: r) (d :: (escL y ++ _)) = true
        rw [less_first (fun e => hd e.symm)]
        exact decide_eq_true (pos_of_ne hd)
  | cons c x ih =>
    cases y with
    | nil =>
      rw [escL_cons, less_nil]
      by_cases hc : c = 0
      · subst hc
        rw [if_pos rfl]
        show Op.bytesLess (0 :: 255 :: (escL x ++ _)) (0 :: 1 :: s) = false
        rw [less_same, less_first (by decide)]
        rfl
      · rw [if_neg hc]
        show Op.bytesLess (c :: (escL x ++ _)) (0 :: 1 :: s) = false
        rw [less_first hc]
        exact decide_eq_false (by rw [UInt8.lt_iff_toNat_lt]; exact Nat.not_lt_zero _)
    | cons d y =>
      rw [escL_cons, escL_cons]
      by_cases hcd : c = d
      · subst hcd
        rw [less_same, List.append_assoc, List.append_assoc, less_append]
        exact ih y (fun e => h (by rw [e]))
      · rw [less_first hcd]
        by_cases hc : c = 0
        · subst hc
          rw [if_pos rfl, if_neg (fun e => hcd e.symm)]
          show Op.bytesLess (0 :: 255 :: (escL x ++ _)) (d :: (escL y ++ _)) = _
          rw [less_first hcd]
        · rw [if_neg hc]
          by_cases hd : d = 0
          · subst hd
            rw [if_pos rfl]
            show Op.bytesLess (c :: (escL x ++ _)) (0 :: 255 :: (escL y ++ _)) = _
            rw [less_first hcd]
          · rw [if_neg hd]
            show Op.bytesLess (c :: (escL x ++ _)) (d :: (escL y ++ _)) = _
            rw [less_first hcd]
/-- of two lists of parts the less one has the less key -/
theorem less_enc (a b : List (List UInt8)) : Op.bytesLess (encL a) (encL b) = lessL a b := by
  induction a generalizing b with
  | nil =>
    cases b with
    | nil => rfl
    | cons y b =>
      rw [encL_cons, partL]
      cases hy : escL y with
      | nil => rfl
      | cons c r => rfl
  | cons x a ih =>
    cases b with
    | nil => rw [show encL [] = [] from rfl, less_nil]; rfl
    | cons y b =>
      rw [encL_cons, encL_cons, lessL]
      by_cases h : x = y
      · subst h
        rw [if_pos rfl, less_append, ih]
      · rw [if_neg h, partL, partL, List.append_assoc, List.append_assoc]
        exact less_part x y _ _ h
theorem part_prefix (x y r s : List UInt8) (h : escL x ++ (0 :: 1 :: r) <+: escL y ++ (0 :: 1 :: s)) : x = y ∧ r <+: s := by
  induction x generalizing y with
  | nil =>
    cases y with
    | nil =>
      refine ⟨rfl, ?_⟩
      have h' : (0 :: 1 :: r) <+: (0 :: 1 :: s) := h
      rw [List.cons_prefix_cons, List.cons_prefix_cons] at h'
      exact h'.2.2
    | cons d y =>
      rw [escL_cons] at h
      by_cases hd : d = 0
      · subst hd
        rw [if_pos rfl] at h
        have h' : (0 :: 1 :: r) <+: (0 :: 255 :: (escL y ++ (0 :: 1 :: s))) := h
        rw [List.cons_prefix_cons, List.cons_prefix_cons] at h'
        exact absurd h'.2.1 (by decide)
      · rw [if_neg hd] at h
        have h' : (0 :: 1 :: r) <+: (d :: (escL y ++ (0 :: 1 :: s))) := h
        rw [List.cons_prefix_cons] at h'
        exact absurd h'.1.symm hd
  | cons c x ih =>
    cases y with
    | nil =>
      rw [escL_cons] at h
      by_cases hc : c = 0
      · subst hc
        rw [if_pos rfl] at h
        have h' : (0 :: 255 :: (escL x ++ (0 :: 1 :: r))) <+: (0 :: 1 :: s) := h
        rw [List.cons_prefix_cons, List.cons_prefix_cons] at h'
        exact absurd h'.2.1 (by decide)
      · rw [if_neg hc] at h
        have h' : (c :: (escL x ++ (0 :: 1 :: r))) <+: (0 :: 1 :: s) := h
        rw [List.cons_prefix_cons] at h'
        exact absurd h'.1 hc
    | cons d y =>
      rw [escL_cons, escL_cons] at h
      have hcd : c = d := by
        by_cases hc : c = 0
        · subst hc
          by_cases hd : d = 0
          · exact hd.symm
          · rw [if_pos rfl, if_neg hd] at h
            have h' : (0 :: 255 :: (escL x ++ (0 :: 1 :: r))) <+: (d :: (escL y ++ (0 :: 1 :: s))) := h
            rw [List.cons_prefix_cons] at h'
            exact h'.1
        · by_cases hd : d = 0
          · subst hd
            rw [if_neg hc, if_pos rfl] at h
            have h' : (c :: (escL x ++ (0 :: 1 :: r))) <+: (0 :: 255 :: (escL y ++ (0 :: 1 :: s))) := h
            rw [List.cons_prefix_cons] at h'
            exact h'.1
          · rw [if_neg hc, if_neg hd] at h
            have h' : (c :: (escL x ++ (0 :: 1 :: r))) <+: (d :: (escL y ++ (0 :: 1 :: s))) := h
            rw [List.cons_prefix_cons] at h'
            exact h'.1
      subst hcd
      rw [List.append_assoc, List.append_assoc, List.prefix_append_right_inj] at h
      obtain ⟨rfl, h2⟩ := ih y h
      exact ⟨rfl, h2⟩
/-- a key begins another one just if its parts are the other one's first ones -/
theorem enc_prefix (a b : List (List UInt8)) : encL a <+: encL b ↔ a <+: b := by
  constructor
  · intro h
    induction a generalizing b with
    | nil => exact List.nil_prefix
    | cons x a ih =>
      cases b with
      | nil =>
        have := h.length_le
        simp [encL, partL] at this
      | cons y b =>
        rw [encL_cons, encL_cons, partL, partL, List.append_assoc, List.append_assoc] at h
        obtain ⟨rfl, h2⟩ := part_prefix x y _ _ h
        exact List.cons_prefix_cons.2 ⟨rfl, ih b h2⟩
  · rintro ⟨r, rfl⟩
    rw [encL_append]
    exact List.prefix_append _ _

/-- the key behind all that begin with p, or nothing -/
def behindL (p : List UInt8) : List UInt8 :=
  match p.reverse.dropWhile (· == 255) with
  | [] => []
  | c :: r => r.reverse ++ [c + 1]
/-- a prefix is bytes, one that is not 255, and any number of 255; or only these -/
theorem behind_form (p : List UInt8) : (∃ m, p = List.replicate m 255 ∧ behindL p = []) ∨ ∃ q c m, c ≠ 255 ∧ p = q ++ c :: List.replicate m 255 ∧ behindL p = q ++ [c + 1] := by
  have key : ∀ r : List UInt8, (∃ m, r = List.replicate m 255 ∧ r.dropWhile (· == 255) = []) ∨ ∃ q c m, c ≠ 255 ∧ r = List.replicate m 255 ++ c :: q ∧ r.dropWhile (· == 255) = c :: q := by
    intro r
    induction r with
    | nil => exact .inl ⟨0, rfl, rfl⟩
    | cons x r ih =>
      by_cases hx : x = 255
      · subst hx
        rcases ih with ⟨m, h1, h2⟩ | ⟨q, c, m, hc, h1, h2⟩
        · exact .inl ⟨m + 1, by rw [h1, List.replicate_succ, ← h1], by simpa using h2⟩
        · exact .inr ⟨q, c, m + 1, hc, by rw [h1, List.replicate_succ]; rfl, by simpa using h2⟩
      · exact .inr ⟨r, x, 0, hx, rfl, by simp [hx]⟩
  rcases key p.reverse with ⟨m, h1, h2⟩ | ⟨q, c, m, hc, h1, h2⟩
  · refine .inl ⟨m, ?_, by rw [behindL, h2]⟩
    have := congrArg List.reverse h1
    simpa using this
  · refine .inr ⟨q.reverse, c, m, hc, ?_, by rw [behindL, h2]⟩
    have := congrArg List.reverse h1
    simpa using this
theorem highs (m : Nat) (b : List UInt8) : List.replicate m 255 <+: b ↔ Op.bytesLess b (List.replicate m 255) = false := by
  induction m generalizing b with
  | zero => simp [less_nil]
  | succ m ih =>
    rw [List.replicate_succ]
    cases b with
    | nil => simp [less_start]
    | cons y b =>
      rw [List.cons_prefix_cons]
      by_cases hy : y = 255
      · subst hy
        rw [less_same, ← ih]
        simp
      · rw [less_first hy]
        have h1 : y < 255 := by
          rw [UInt8.lt_iff_toNat_lt]
          have h2 := y.toNat_lt
          have h3 : y.toNat ≠ 255 := fun e => hy (UInt8.toNat_inj.1 e)
          show y.toNat < 255
          omega
        simp [h1, Ne.symm hy]
theorem succ_nat {c : UInt8} (h : c ≠ 255) : (c + 1).toNat = c.toNat + 1 := by
  have h2 := c.toNat_lt
  have h3 : c.toNat ≠ 255 := fun e => h (UInt8.toNat_inj.1 e)
  rw [UInt8.toNat_add]
  show (c.toNat + 1) % 256 = _
  omega
theorem between_one (c : UInt8) (m : Nat) (b : List UInt8) (h : c ≠ 255) : (c :: List.replicate m 255) <+: b ↔ (Op.bytesLess b (c :: List.replicate m 255) = false ∧ Op.bytesLess b [c + 1] = true) := by
  cases b with
  | nil => simp [less_start]
  | cons y b =>
    rw [List.cons_prefix_cons, highs]
    have hs := succ_nat h
    by_cases hy : y = c
    · subst hy
      rw [less_same, less_cons]
      have : y < y + 1 := by rw [UInt8.lt_iff_toNat_lt]; omega
      simp [this]
    · rw [less_first hy, less_cons, less_nil]
      have hne : y.toNat ≠ c.toNat := fun e => hy (UInt8.toNat_inj.1 e)
      simp only [UInt8.lt_iff_toNat_lt, hs, Bool.and_false, Bool.or_false, decide_eq_false_iff_not, decide_eq_true_eq]
      constructor
      · rintro ⟨rfl, _⟩; exact absurd rfl hy
      · rintro ⟨h1, h2⟩; omega
theorem between_on (q p h b : List UInt8) (hp : ∀ b, p <+: b ↔ (Op.bytesLess b p = false ∧ Op.bytesLess b h = true)) : q ++ p <+: b ↔ (Op.bytesLess b (q ++ p) = false ∧ Op.bytesLess b (q ++ h) = true) := by
  induction q generalizing b with
  | nil => exact hp b
  | cons x q ih =>
    rw [List.cons_append, List.cons_append]
    cases b with
    | nil => simp [less_start]
    | cons y b =>
      rw [List.cons_prefix_cons]
      by_cases hy : y = x
      · subst hy
        rw [less_same, less_same, ← ih]
        simp
      · rw [less_first hy, less_first hy]
        simp [Ne.symm hy]
/-- what begins with a prefix lies from it up to the key behind; nothing else does -/
theorem between (p b : List UInt8) : p <+: b ↔ (Op.bytesLess b p = false ∧ (behindL p = [] ∨ Op.bytesLess b (behindL p) = true)) := by
  rcases behind_form p with ⟨m, h1, h2⟩ | ⟨q, c, m, hc, h1, h2⟩
  · rw [h2, h1, highs]; simp
  · rw [h2, h1, between_on q (c :: List.replicate m 255) [c + 1] b (fun b => between_one c m b hc)]
    simp
end Go.Proofs.Ytooooppgdchjaaa
