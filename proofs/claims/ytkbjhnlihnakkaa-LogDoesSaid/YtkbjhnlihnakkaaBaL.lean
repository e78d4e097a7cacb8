/-
  Plain mathematics of layer 6: a batch's bytes, and the puts that bytes are. No conditions.
-/
import Derived.Test.YtkbjhnlihnakkaaGetPut
namespace Go.Proofs.Ytkbjhnlihnakkaa
open Go.RowKit

/-- a put: its key, its value, whether it is gone -/
abbrev PutV := List UInt8 × List UInt8 × Bool
def partP (x : List UInt8) : List UInt8 := putL x.length ++ x
def putV1 (p : PutV) : List UInt8 := if p.2.2 = true then 1 :: partP p.1 else 0 :: (partP p.1 ++ partP p.2.1)
def putsV (l : List PutV) : List UInt8 := (l.map putV1).flatten
def batchL (l : List PutV) : List UInt8 := putL l.length ++ putsV l
/-- a put without the value that it does not tell -/
def clearV (p : PutV) : PutV := if p.2.2 = true then (p.1, [], true) else p
theorem clearV_twice (p : PutV) : clearV (clearV p) = clearV p := by
  unfold clearV
  split
  · simp
  · rfl
def sameV (a b : List PutV) : Bool := decide (a.map clearV = b.map clearV)

/-- a number of bytes, and these; what is left -/
def textL (l : List UInt8) : Option (List UInt8 × List UInt8) :=
  if (getL l 0 0).2 = 0 then none
  else if (l.drop (getL l 0 0).2).length < (getL l 0 0).1 then none
  else some ((l.drop (getL l 0 0).2).take (getL l 0 0).1, (l.drop (getL l 0 0).2).drop (getL l 0 0).1)
/-- a put; what is left -/
def oneL : List UInt8 → Option (PutV × List UInt8)
  | [] => none
  | c :: r =>
    if c = 1 then
      match textL r with
      | none => none
      | some (t, u) => some ((t, [], true), u)
    else if c = 0 then
      match textL r with
      | none => none
      | some (t, u) =>
        match textL u with
        | none => none
        | some (v, x) => some ((t, v, false), x)
    else none
/-- n puts and no more, behind those that have been read -/
def readN : Nat → List UInt8 → List PutV → Option (List PutV)
  | 0, r, acc => if r = [] then some acc else none
  | n + 1, r, acc =>
    match oneL r with
    | none => none
    | some (p, u) => readN n u (acc ++ [p])
/-- the puts that bytes are -/
def putsL (b : List UInt8) : Option (List PutV) := if (getL b 0 0).2 = 0 then none else readN (getL b 0 0).1 (b.drop (getL b 0 0).2) []

theorem textL_some {l t u : List UInt8} (h : textL l = some (t, u)) : (getL l 0 0).2 ≠ 0 ∧ (getL l 0 0).1 ≤ (l.drop (getL l 0 0).2).length ∧ t = (l.drop (getL l 0 0).2).take (getL l 0 0).1 ∧ u = (l.drop (getL l 0 0).2).drop (getL l 0 0).1 ∧ t.length = (getL l 0 0).1 := by
  unfold textL at h
  split at h
  · cases h
  · rename_i hk
    split at h
    · cases h
    · rename_i hl
      injection h with h
      injection h with h1 h2
      subst h1 h2
      exact ⟨hk, by omega, rfl, rfl, by rw [List.length_take]; omega⟩
theorem textL_less {l t u : List UInt8} (h : textL l = some (t, u)) : u.length + t.length < l.length := by
  obtain ⟨h1, h2, h3, h4, h5⟩ := textL_some h
  rw [h5, h4]
  simp only [List.length_drop] at h2 ⊢
  have := (get_fits (l := l)).1
  omega
theorem textL_none {l : List UInt8} (h : textL l = none) : (getL l 0 0).2 = 0 ∨ (l.drop (getL l 0 0).2).length < (getL l 0 0).1 := by
  unfold textL at h
  split at h
  · exact .inl ‹_›
  · split at h
    · exact .inr ‹_›
    · cases h
theorem oneL_less {r u : List UInt8} {p : PutV} (h : oneL r = some (p, u)) : u.length < r.length := by
  cases r with
  | nil => cases h
  | cons c r =>
    rw [oneL] at h
    rw [List.length_cons]
    split at h
    · split at h
      · cases h
      · rename_i t u' ht
        injection h with h; injection h with _ h; subst h
        have := textL_less ht; omega
    · split at h
      · split at h
        · cases h
        · rename_i t u' ht
          split at h
          · cases h
          · rename_i v x hv
            injection h with h; injection h with _ h; subst h
            have := textL_less ht; have := textL_less hv; omega
      · cases h
theorem oneL_bound {r u : List UInt8} {p : PutV} (h : oneL r = some (p, u)) : p.1.length ≤ r.length ∧ p.2.1.length ≤ r.length := by
  cases r with
  | nil => cases h
  | cons c r =>
    rw [oneL] at h
    rw [List.length_cons]
    split at h
    · split at h
      · cases h
      · rename_i t u' ht
        injection h with h; injection h with h _; subst h
        have := textL_less ht
        simp only [List.length_nil]; omega
    · split at h
      · split at h
        · cases h
        · rename_i t u' ht
          split at h
          · cases h
          · rename_i v x hv
            injection h with h; injection h with h _; subst h
            have := textL_less ht; have := textL_less hv
            simp only; omega
      · cases h
theorem readN_many : ∀ (n : Nat) (r : List UInt8) (acc : List PutV), r.length < n → readN n r acc = none
  | 0, _, _, h => by omega
  | n + 1, r, acc, h => by
    rw [readN]
    split
    · rfl
    · rename_i p u hp
      exact readN_many n u _ (by have := oneL_less hp; omega)

theorem text_part (x t : List UInt8) (h : x.length ≤ 9223372036854775807) : textL (partP x ++ t) = some (x, t) := by
  have hg := get_put0 (x ++ t) x.length h
  rw [partP, List.append_assoc, textL, hg]
  have := putL_pos x.length
  rw [if_neg (by simp only; omega)]
  simp only [List.drop_left]
  rw [if_neg (by simp only [List.length_append]; omega)]
  simp
theorem one_put (p : PutV) (t : List UInt8) (h1 : p.1.length ≤ 9223372036854775807) (h2 : p.2.1.length ≤ 9223372036854775807) : oneL (putV1 p ++ t) = some (clearV p, t) := by
  obtain ⟨k, v, g⟩ := p
  cases g with
  | true =>
    rw [putV1, if_pos rfl, clearV, if_pos rfl, List.cons_append, oneL, if_pos rfl, text_part k t h1]
  | false =>
    rw [putV1, if_neg (by simp), clearV, if_neg (by simp), List.cons_append, oneL, if_neg (by decide), if_pos rfl, List.append_assoc, text_part k _ h1]
    simp only
    rw [text_part v t h2]
theorem read_puts : ∀ (l : List PutV) (acc : List PutV), (∀ p ∈ l, p.1.length ≤ 9223372036854775807 ∧ p.2.1.length ≤ 9223372036854775807) → readN l.length (putsV l) acc = some (acc ++ l.map clearV)
  | [], acc, _ => by simp [putsV, readN]
  | p :: l, acc, h => by
    have hp := h p (by simp)
    have e : putsV (p :: l) = putV1 p ++ putsV l := rfl
    rw [List.length_cons, readN, e, one_put p _ hp.1 hp.2]
    simp only
    rw [read_puts l _ (fun q hq => h q (by simp [hq])), List.map_cons, List.append_assoc]
    rfl
theorem puts_batch (l : List PutV) (hl : l.length ≤ 9223372036854775807) (h : ∀ p ∈ l, p.1.length ≤ 9223372036854775807 ∧ p.2.1.length ≤ 9223372036854775807) : putsL (batchL l) = some (l.map clearV) := by
  have hg := get_put0 (putsV l) l.length hl
  have := putL_pos l.length
  rw [batchL, putsL, hg, if_neg (by simp only; omega)]
  simp only [List.drop_left]
  rw [read_puts l [] h, List.nil_append]
theorem same_clear (l : List PutV) : sameV (l.map clearV) l = true := by
  refine decide_eq_true ?_
  rw [List.map_map]
  exact List.map_congr_left fun p _ => clearV_twice p
theorem same_self (l : List PutV) : sameV l l = true := decide_eq_true rfl
theorem putsV_snoc (l : List PutV) (p : PutV) : putsV (l ++ [p]) = putsV l ++ putV1 p := by
  simp [putsV]
end Go.Proofs.Ytkbjhnlihnakkaa
