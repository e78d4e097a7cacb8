/-
  Plain mathematics: groups are read as they were put, and what is read was put so; eight bytes are the number that they are. No conditions.
-/
import Derived.Test.YtkbjhnlihnakkaaOrd
import Derived.Test.YtkbjhnlihnakkaaGet
import Derived.Test.YtkbjhnlihnakkaaPut
namespace Go.Proofs.Ytkbjhnlihnakkaa
open Go.RowKit

theorem get_put (t : List UInt8) (n : Nat) : ∀ (i acc : Nat), i ≤ 8 → n < 128 ^ (9 - i) → (i = 0 ∨ 0 < n) → getL (putL n ++ t) i acc = (acc + n * 128 ^ i, i + (putL n).length) := by
  induction n using Nat.strongRecOn with
  | _ n ih =>
    intro i acc hi hn hp
    by_cases h : n < 128
    · rw [putL_small h, List.singleton_append, getL, if_neg (by omega)]
      have e : (UInt8.ofNat n).toNat = n := by rw [UInt8.toNat_ofNat']; omega
      rw [e, if_neg (by omega), if_neg (by omega), Nat.mod_eq_of_lt h]
      rfl
    · rw [putL_more (by omega), List.cons_append, getL, if_neg (by omega)]
      have e : (UInt8.ofNat (n % 128 + 128)).toNat = n % 128 + 128 := by rw [UInt8.toNat_ofNat']; omega
      have hi8 : i ≤ 7 := by
        rcases Nat.lt_or_ge i 8 with h8 | h8
        · omega
        · have : i = 8 := by omega
          subst this
          simp at hn
          omega
      have hn' : n / 128 < 128 ^ (9 - (i + 1)) := by
        have e9 : 9 - i = (9 - (i + 1)) + 1 := by omega
        rw [e9, Nat.pow_succ] at hn
        omega
      rw [e, if_pos (by omega), ih (n / 128) (by omega) (i + 1) _ (by omega) hn' (.inr (by omega))]
      rw [show (n % 128 + 128) % 128 = n % 128 from by omega, List.length_cons, Nat.pow_succ]
      have hd : n = 128 * (n / 128) + n % 128 := by omega
      have e2 : acc + n % 128 * 128 ^ i + n / 128 * (128 ^ i * 128) = acc + n * 128 ^ i := by
        generalize 128 ^ i = P
        rw [Nat.add_assoc]
        congr 1
        conv => rhs; rw [hd]
        rw [Nat.add_mul, Nat.mul_comm P 128, ← Nat.mul_assoc, Nat.mul_comm (n / 128) 128, Nat.add_comm]
      rw [e2]
      congr 1
      omega
theorem get_put0 (t : List UInt8) (n : Nat) (h : n ≤ 9223372036854775807) : getL (putL n ++ t) 0 0 = (n, (putL n).length) := by
  have e : 128 ^ (9 - 0) = 9223372036854775808 := by decide
  rw [get_put t n 0 0 (by omega) (by omega) (.inl rfl)]
  simp

/-- what is read was put so -/
theorem put_of_get : ∀ (l : List UInt8) (i acc : Nat), i ≤ 8 → (getL l i acc).2 ≠ 0 → ∃ (m : Nat) (t : List UInt8), l = putL m ++ t ∧ getL l i acc = (acc + m * 128 ^ i, i + (putL m).length) ∧ m < 128 ^ (9 - i) ∧ (i = 0 ∨ 0 < m)
  | [], _, _, _, h => absurd rfl h
  | c :: r, i, acc, hi, h => by
    have hc := c.toNat_lt
    rw [getL, if_neg (by omega)] at h ⊢
    have hpow : 0 < 128 ^ (9 - (i + 1)) := Nat.pow_pos (by decide)
    have e9 : 128 ^ (9 - i) = 128 ^ (9 - (i + 1)) * 128 := by rw [← Nat.pow_succ]; congr 1; omega
    by_cases h1 : 128 ≤ c.toNat
    · rw [if_pos h1] at h ⊢
      by_cases h8 : i + 1 ≤ 8
      · obtain ⟨m, t, rfl, he, hm, hp⟩ := put_of_get r (i + 1) _ h8 h
        have hp : 0 < m := by rcases hp with h | h; omega; exact h
        have hP : putL (c.toNat % 128 + 128 * m) = c :: putL m := by
          rw [putL_more (n := c.toNat % 128 + 128 * m) (by omega), show (c.toNat % 128 + 128 * m) % 128 + 128 = c.toNat from by omega, show (c.toNat % 128 + 128 * m) / 128 = m from by omega, UInt8.ofNat_toNat]
        refine ⟨c.toNat % 128 + 128 * m, t, by rw [hP]; rfl, ?_, by rw [e9]; omega, .inr (by omega)⟩
        · rw [he, hP, List.length_cons, Nat.pow_succ]
          have e2 : acc + c.toNat % 128 * 128 ^ i + m * (128 ^ i * 128) = acc + (c.toNat % 128 + 128 * m) * 128 ^ i := by
            generalize 128 ^ i = P
            rw [Nat.add_mul, Nat.add_assoc, Nat.mul_comm P 128, ← Nat.mul_assoc, Nat.mul_comm m 128]
          rw [e2]
          congr 1
          omega
      · rw [getL_nine r (i + 1) _ (by omega)] at h
        exact absurd rfl h
    · rw [if_neg h1] at h ⊢
      by_cases h2 : c.toNat = 0 ∧ 0 < i
      · rw [if_pos h2] at h; exact absurd rfl h
      · rw [if_neg h2]
        refine ⟨c.toNat, r, ?_, ?_, by rw [e9]; omega, ?_⟩
        · rw [putL_small (by omega), UInt8.ofNat_toNat]; rfl
        · rw [putL_small (by omega), Nat.mod_eq_of_lt (by omega)]; rfl
        · rcases Nat.eq_zero_or_pos i with h0 | h0
          · exact .inl h0
          · exact .inr (by omega)
theorem put_of_get0 {l : List UInt8} (h : (getL l 0 0).2 ≠ 0) : ∃ (t : List UInt8), l = putL (getL l 0 0).1 ++ t ∧ (getL l 0 0).2 = (putL (getL l 0 0).1).length ∧ (getL l 0 0).1 ≤ 9223372036854775807 := by
  obtain ⟨m, t, h1, h2, h3, _⟩ := put_of_get l 0 0 (by omega) h
  have e : 128 ^ (9 - 0) = 9223372036854775808 := by decide
  have e1 : (getL l 0 0).1 = m := by rw [h2]; simp
  have e2 : (getL l 0 0).2 = (putL m).length := by rw [h2]; simp
  rw [e1, e2]
  exact ⟨t, h1, rfl, by omega⟩
theorem get_fits {l : List UInt8} : (getL l 0 0).2 ≤ l.length ∧ (getL l 0 0).2 ≤ 9 ∧ (getL l 0 0).1 ≤ 9223372036854775807 := by
  by_cases h : (getL l 0 0).2 = 0
  · refine ⟨by omega, by omega, ?_⟩
    -- nothing is read: the number is 0
    have key : ∀ (l : List UInt8) (i acc : Nat), (getL l i acc).2 = 0 → (getL l i acc).1 = 0 := by
      intro l
      induction l with
      | nil => intro i acc _; rfl
      | cons c r ih =>
        intro i acc h
        rw [getL] at h ⊢
        split at h
        · rename_i h1; rw [if_pos h1]
        · rename_i h1
          rw [if_neg h1]
          split at h
          · rename_i h2; rw [if_pos h2]; exact ih _ _ h
          · rename_i h2
            rw [if_neg h2]
            split at h
            · rename_i h3; rw [if_pos h3]
            · simp at h
    rw [key l 0 0 h]; omega
  · obtain ⟨t, h1, h2, h3⟩ := put_of_get0 h
    refine ⟨?_, ?_, h3⟩
    · have := congrArg List.length h1
      rw [List.length_append] at this
      omega
    · rw [h2]; exact putL_length9 h3

theorem nar_inj : ∀ (a b : List UInt8) (x : Nat), a.length = b.length → nar a x = nar b x → a = b
  | [], [], _, _, _ => rfl
  | [], _ :: _, _, h, _ => by simp at h
  | _ :: _, [], _, h, _ => by simp at h
  | c :: a, d :: b, x, h, e => by
    have hl : a.length = b.length := by simpa using h
    rcases Nat.lt_trichotomy c.toNat d.toNat with h1 | h1 | h1
    · have := nar_acc a b (256 * x + c.toNat) (256 * x + d.toNat) hl (by omega)
      simp only [nar] at e; omega
    · have hcd : c = d := UInt8.toNat_inj.1 h1
      subst hcd
      rw [nar_inj a b _ hl e]
    · have := nar_acc b a (256 * x + d.toNat) (256 * x + c.toNat) hl.symm (by omega)
      simp only [nar] at e; omega

/-- a number's eight bytes -/
def wideI (n : Int) : List UInt8 := wideOf (n % 18446744073709551616).toNat
/-- the number of eight bytes -/
def narI (l : List UInt8) : Int := wrap64 ((nar l 0 : Nat) : Int)
theorem wideI_length (n : Int) : (wideI n).length = 8 := wideOf_length _
theorem nar_lt8 {l : List UInt8} (h : l.length = 8) : nar l 0 < 18446744073709551616 := by
  have := nar_lt l 0 0 (by decide)
  rw [h] at this
  have e : 256 ^ (0 + 8) = 18446744073709551616 := by decide
  omega
theorem wide_nar {l : List UInt8} (h : l.length = 8) : wideI (narI l) = l := by
  have hl := nar_lt8 h
  unfold wideI narI
  have e : (wrap64 ((nar l 0 : Nat) : Int) % 18446744073709551616).toNat = nar l 0 := by unfold wrap64; omega
  rw [e]
  refine nar_inj _ _ 0 (by rw [wideOf_length, h]) (nar_wide _ hl)
theorem nar_wideI {n : Int} (h0 : -9223372036854775808 ≤ n) (h1 : n ≤ 9223372036854775807) : narI (wideI n) = n := by
  unfold narI wideI
  rw [nar_wide _ (by omega)]
  unfold wrap64
  omega
theorem narI_range (l : List UInt8) : -9223372036854775808 ≤ narI l ∧ narI l ≤ 9223372036854775807 := by
  unfold narI wrap64; omega
end Go.Proofs.Ytkbjhnlihnakkaa
