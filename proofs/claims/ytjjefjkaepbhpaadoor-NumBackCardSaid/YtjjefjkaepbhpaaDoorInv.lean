/-
  Plain mathematics: signs, groups and digits are read as they were put. No conditions.
-/
import Derived.Test.YtjjefjkaepbhpaaDoorOrd
import Derived.Test.YtjjefjkaepbhpaaDoorHex
import Derived.Test.YtjjefjkaepbhpaaDoorUnhex
import Derived.Test.YtjjefjkaepbhpaaDoorGet
import Derived.Test.YtjjefjkaepbhpaaDoorPut
import Derived.Test.YtjjefjkaepbhpaaDoorParse
import Derived.Lib.ItoaNum
namespace Go.Proofs.YtjjefjkaepbhpaaDoor
open Go.RowKit

theorem sign_says (k : Nat) (h : k < 16) : hb (sign k).toNat = true ∧ hv (sign k).toNat = k := by
  have key : ∀ m : Fin 16, hb (sign m.val).toNat = true ∧ hv (sign m.val).toNat = m.val := by decide
  exact key ⟨k, h⟩
theorem unh_hex : ∀ (l acc : List UInt8), unh (hexL l) acc = some (acc ++ l)
  | [], acc => by simp [hexL, unh]
  | c :: r, acc => by
    have hc := c.toNat_lt
    have h1 := sign_says (c.toNat / 16) (by omega)
    have h2 := sign_says (c.toNat % 16) (by omega)
    rw [hexL, unh, h1.1, h2.1, h1.2, h2.2, show 16 * (c.toNat / 16) + c.toNat % 16 = c.toNat from by omega, UInt8.ofNat_toNat]
    simp only [Bool.and_self, if_true]
    rw [unh_hex r, List.append_assoc, List.singleton_append]

theorem get_put (t : List UInt8) (n : Nat) : ∀ (i acc : Nat), i ≤ 8 → n < 128 ^ (9 - i) → (i = 0 ∨ 0 < n) → getL (putL n ++ t) i acc = (acc + n * 128 ^ i, i + (putL n).length) := by
  induction n using Nat.strongRecOn with
  | _ n ih =>
    intro i acc hi hn hp
    by_cases h : n < 128
    · rw [putL_small h, List.singleton_append, getL, if_neg (by omega)]
      have e : (UInt8.ofNat n).toNat = n := by rw [UInt8.toNat_ofNat']; omega
      rw [e, if_neg (by omega), if_neg (by omega), Nat.mod_eq_of_lt h]
      rfl
    · rw [putL_more (by omega), List.cons_append, getL, if_neg (by omega)]
      have e : (UInt8.ofNat (n % 128 + 128)).toNat = n % 128 + 128 := by rw [UInt8.toNat_ofNat']; omega
      have hi8 : i ≤ 7 := by
        rcases Nat.lt_or_ge i 8 with h8 | h8
        · omega
        · have : i = 8 := by omega
          subst this
          simp at hn
          omega
      have hn' : n / 128 < 128 ^ (9 - (i + 1)) := by
        have e9 : 9 - i = (9 - (i + 1)) + 1 := by omega
        rw [e9, Nat.pow_succ] at hn
        omega
      rw [e, if_pos (by omega), ih (n / 128) (by omega) (i + 1) _ (by omega) hn' (.inr (by omega))]
      rw [show (n % 128 + 128) % 128 = n % 128 from by omega, List.length_cons, Nat.pow_succ]
      have hd : n = 128 * (n / 128) + n % 128 := by omega
      have e2 : acc + n % 128 * 128 ^ i + n / 128 * (128 ^ i * 128) = acc + n * 128 ^ i := by
        generalize 128 ^ i = P
        rw [Nat.add_assoc]
        congr 1
        conv => rhs; rw [hd]
        rw [Nat.add_mul, Nat.mul_comm P 128, ← Nat.mul_assoc, Nat.mul_comm (n / 128) 128, Nat.add_comm]
      rw [e2]
      congr 1
      omega
theorem get_put0 (t : List UInt8) (n : Nat) (h : n ≤ 9223372036854775807) : getL (putL n ++ t) 0 0 = (n, (putL n).length) := by
  have e : 128 ^ (9 - 0) = 9223372036854775808 := by decide
  rw [get_put t n 0 0 (by omega) (by omega) (.inl rfl)]
  simp

theorem dec_value (n : Nat) : decL (Lib.decDigits n) 0 = n := by
  induction n using Nat.strongRecOn with
  | _ n ih =>
    by_cases h : n < 10
    · rw [Lib.decDigits, dif_pos h]
      simp only [decL, UInt8.toNat_ofNat']
      omega
    · rw [Lib.decDigits, dif_neg h, decL_snoc, ih (n / 10) (by omega), UInt8.toNat_ofNat']
      omega
theorem dig_ofNat (k : Nat) (h : k < 10) : dig (UInt8.ofNat (48 + k)) = true := by
  unfold dig
  rw [UInt8.toNat_ofNat']
  simp
  omega
theorem dec_digs (n : Nat) : (Lib.decDigits n).all dig = true := by
  induction n using Nat.strongRecOn with
  | _ n ih =>
    by_cases h : n < 10
    · rw [Lib.decDigits, dif_pos h]
      rw [List.all_cons, List.all_nil, dig_ofNat n h]; rfl
    · rw [Lib.decDigits, dif_neg h, List.all_append, ih (n / 10) (by omega), List.all_cons, List.all_nil, dig_ofNat (n % 10) (by omega)]; rfl
theorem dec_length (n : Nat) : ∀ k, n < 10 ^ (k + 1) → 1 ≤ (Lib.decDigits n).length ∧ (Lib.decDigits n).length ≤ k + 1 := by
  induction n using Nat.strongRecOn with
  | _ n ih =>
    intro k hk
    by_cases h : n < 10
    · rw [Lib.decDigits, dif_pos h]
      simp
    · rw [Lib.decDigits, dif_neg h, List.length_append]
      cases k with
      | zero => simp at hk; omega
      | succ k =>
        have := ih (n / 10) (by omega) k (by rw [Nat.pow_succ] at hk; omega)
        simp
        omega
theorem dec_head (n : Nat) (hn : 0 < n) : ((Lib.decDigits n).getD 0 0).toNat ≠ 48 := by
  induction n using Nat.strongRecOn with
  | _ n ih =>
    by_cases h : n < 10
    · rw [Lib.decDigits, dif_pos h]
      simp only [List.getD_cons_zero, UInt8.toNat_ofNat']
      omega
    · rw [Lib.decDigits, dif_neg h, List.getD_eq_getElem?_getD, List.getElem?_append_left (by
        have e : n / 10 < 10 ^ (n / 10 + 1) := Nat.lt_of_lt_of_le (Nat.lt_succ_self _) (Nat.le_of_lt (Nat.lt_pow_self (by omega)))
        have := (dec_length (n / 10) (n / 10) e).1
        omega), ← List.getD_eq_getElem?_getD]
      exact ih (n / 10) (by omega) (by omega)
theorem parse_show (n : Nat) (h : n ≤ 999999999999999999) : parseOf (Lib.itoa (n : Int)) = (n, true) := by
  rw [Lib.itoa, if_neg (by omega), Int.toNat_natCast]
  have e18 : 10 ^ (17 + 1) = 1000000000000000000 := by decide
  have hl := dec_length n 17 (by omega)
  have hb : badForm (Lib.decDigits n) = false := by
    unfold badForm
    rw [decide_eq_false_iff_not]
    intro hh
    rcases hh with h0 | h0 | ⟨h0, h1⟩
    · omega
    · omega
    · have : 0 < n := by
        rcases Nat.eq_zero_or_pos n with hz | hz
        · subst hz
          rw [Lib.decDigits, dif_pos (by decide)] at h0
          simp at h0
        · exact hz
      exact dec_head n this h1
  rw [parseOf, hb]
  simp only [Bool.false_eq_true, if_false]
  rw [if_pos (dec_digs n), dec_value]

theorem wide_back (n : Int) (h0 : -9223372036854775808 ≤ n) (h1 : n ≤ 9223372036854775807) : wrap64 ((nar (wideOf (n % 18446744073709551616).toNat) 0 : Nat) : Int) = n := by
  rw [nar_wide _ (by omega)]
  unfold wrap64
  omega
end Go.Proofs.YtjjefjkaepbhpaaDoor
