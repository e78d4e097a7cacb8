/-
  What Get, the program's and the document's, comes to: one Lean function of the bytes. No conditions beyond how the bytes lie in memory.
-/
import Derived.Test.YtkbjhnlihnakkaaChecked
import Derived.Test.YtkbjhnlihnakkaaMem
namespace Go.Proofs.Ytkbjhnlihnakkaa
open Go.RowKit

/-- the number with which bytes begin, and how many bytes it takes: i groups, n, have been read -/
def getL : List UInt8 → Nat → Nat → Nat × Nat
  | [], _, _ => (0, 0)
  | c :: r, i, n =>
    if 9 ≤ i then (0, 0)
    else if 128 ≤ c.toNat then getL r (i + 1) (n + c.toNat % 128 * 128 ^ i)
    else if c.toNat = 0 ∧ 0 < i then (0, 0)
    else (n + c.toNat % 128 * 128 ^ i, i + 1)

theorem getL_nine (l : List UInt8) (i n : Nat) (h : 9 ≤ i) : getL l i n = (0, 0) := by
  cases l with
  | nil => rfl
  | cons c r => rw [getL, if_pos h]
theorem drop_cons (l : List UInt8) (k : Nat) (h : k < l.length) : l.drop k = l[k] :: l.drop (k + 1) := by
  rw [List.drop_eq_getElem_cons h]
/-- a group more stays below the next bound -/
theorem group_lt {n x k : Nat} (hk : k < 9) (hn : n < 128 ^ k) : n + x % 128 * 128 ^ k < 128 ^ (k + 1) ∧ x % 128 * 128 ^ k ≤ 9223372036854775807 ∧ n + x % 128 * 128 ^ k ≤ 9223372036854775807 := by
  have h1 : x % 128 * 128 ^ k ≤ 127 * 128 ^ k := Nat.mul_le_mul_right _ (by omega)
  have h2 : 128 ^ (k + 1) = 128 ^ k * 128 := Nat.pow_succ ..
  have h3 : 128 ^ (k + 1) ≤ 128 ^ 9 := Nat.pow_le_pow_right (by omega) (by omega)
  have h4 : 128 ^ 9 = 9223372036854775808 := by decide
  omega
theorem group_or {n x k : Nat} (hn : n < 128 ^ k) : n ||| x % 128 * 128 ^ k = n + x % 128 * 128 ^ k := by
  rw [Nat.or_comm, nat_join (7 * k) (x % 128 * 128 ^ k) n (by rw [Nat.pow_mul]; exact Nat.mul_mod_left _ _) (by rw [Nat.pow_mul]; exact hn), Nat.add_comm]

theorem or_i64 (a b : Nat) (ha : a ≤ 9223372036854775807) (hb : b ≤ 9223372036854775807) : bits .or .i64 (a : Int) (b : Int) = ((a ||| b : Nat) : Int) := by
  have hx : a ||| b < 2 ^ 63 := Nat.or_lt_two_pow (by omega) (by omega)
  show IntKind.i64.wrap ((BitVec.ofInt 64 (a : Int) ||| BitVec.ofInt 64 (b : Int)).toNat : Int) = _
  rw [BitVec.toNat_or, ofInt_u64 a (by omega), ofInt_u64 b (by omega), IntKind.wrap_i64]
  omega
theorem group_term {n x k : Nat} (hk : k < 9) (hn : n < 128 ^ k) : bits .or .i64 (n : Int) (wrap64 ((x : Int) % 128 * 2 ^ (7 * k))) = ((n + x % 128 * 128 ^ k : Nat) : Int) := by
  obtain ⟨_, q2, q3⟩ := group_lt (x := x) hk hn
  have e : (x : Int) % 128 * 2 ^ (7 * k) = ((x % 128 * 128 ^ k : Nat) : Int) := by
    rw [Int.natCast_mul, Int.natCast_pow, Int.natCast_emod, show ((128 : Nat) : Int) ^ k = 2 ^ (7 * k) from by rw [Int.pow_mul]; rfl]; rfl
  rw [e, IntWalk.wrap64_in _ ⟨by omega, by omega⟩, or_i64 _ _ (by omega) q2, group_or hn]

set_option maxHeartbeats 400000 in
set_option maxRecDepth 100000 in
theorem get_long (A : Option Addr) (l : List UInt8) (c : Nat) (w : World) (hl : l.length ≤ 9223372036854775807) (h9 : 9 < l.length) (hs : Seen w A l) :
    Calls Try.prog 82 #[.slice A l.length c] w fun e w' =>
      e = .returned (.tuple #[.int .i64 ((getL l 0 0).1 : Nat), .int .i64 ((getL l 0 0).2 : Nat)]) ∧ w = w' := by
  have HS := Lib.hid hs
  clear hs
  go_enter Try.func82, Try.ntmps82
  go_wp2
  go_loop [4, 9] (fun s i => ∃ k n : Nat, k ≤ 9 ∧ i = .int .i64 k ∧ s = .int .i64 n ∧ Hid (n < 128 ^ k ∧ getL l 0 0 = getL (l.drop k) k n)) (fun _ i => 9 - (intOf i).toNat)
  case atStart => exact ⟨0, 0, by omega, rfl, rfl, by omega, rfl⟩
  case round =>
    obtain ⟨k, n, hk, rfl, rfl, H⟩ := hrel
    by_cases hlt : k < 9
    · have hlt' : k < l.length := by omega
      have hlt9 : k < 9 := by omega
      obtain ⟨b, off, rfl, hb, hc⟩ := HS.out.at_ hlt'
      have hx := l[k].toNat_lt
      have Q1 := Lib.hid (group_lt (x := l[k].toNat) hlt9 H.out.1).1
      have HN : Hid (getL l 0 0 = if 128 ≤ l[k].toNat then getL (l.drop (k + 1)) (k + 1) (n + l[k].toNat % 128 * 128 ^ k) else if l[k].toNat = 0 ∧ 0 < k then (0, 0) else (n + l[k].toNat % 128 * 128 ^ k, k + 1)) := by
        show _ = _; rw [H.out.2, drop_cons l k hlt', getL, if_neg (by omega)]
      have HO := Lib.hid (group_term (x := l[k].toNat) hlt9 H.out.1)
      generalize l[k].toNat = x at *
      have e1 : bits .and .u8 (x : Int) 127 = ((x % 128 : Nat) : Int) := by
        rw [show (127 : Int) = ((127 : Nat) : Int) from rfl, u8_and_nat x 127 hx (by omega), nat_mask7]
      by_cases h128 : 128 ≤ x
      · have HG : Hid (getL l 0 0 = getL (l.drop (k + 1)) (k + 1) (n + x % 128 * 128 ^ k)) := by show _ = _; rw [HN.out, if_pos h128]
        go_wp2_with fail
        go_round
        case rel => exact ⟨k + 1, n + x % 128 * 128 ^ k, by omega, by go_num, by rw [HO.out], Q1.out, HG.out⟩
        case measure => simp [intOf]; omega
      · by_cases h0 : x = 0
        · by_cases hk0 : 0 < k
          · have HG : Hid (getL l 0 0 = (0, 0)) := by show _ = _; rw [HN.out, if_neg h128, if_pos ⟨h0, hk0⟩]
            have t0 : ((x : Int) == 0) = true := by simp [h0]
            clear h0
            go_wp2_with fail
            all_goals go_ret2
            all_goals exact ⟨by rw [HG.out]; rfl, rfl⟩
          · have HG : Hid (getL l 0 0 = (n + x % 128 * 128 ^ k, k + 1)) := by show _ = _; rw [HN.out, if_neg h128, if_neg (fun h => hk0 h.2)]
            have t0 : ((x : Int) == 0) = true := by simp [h0]
            have hkz : k ≤ 0 := by omega
            clear h0 hk0
            go_wp2_with fail
            all_goals go_ret2
            all_goals exact ⟨by rw [HG.out, ← HO.out]; rfl, rfl⟩
        · have HG : Hid (getL l 0 0 = (n + x % 128 * 128 ^ k, k + 1)) := by show _ = _; rw [HN.out, if_neg h128, if_neg (fun h => h0 h.1)]
          have t0 : ((x : Int) == 0) = false := by simp; omega
          clear h0
          go_wp2_with fail
          all_goals go_ret2
          all_goals exact ⟨by rw [HG.out, ← HO.out]; rfl, rfl⟩
    · have HG : Hid (getL l 0 0 = (0, 0)) := by show _ = _; rw [H.out.2, getL_nine _ _ _ (by omega)]
      go_wp2_with fail
      go_ret2
      exact ⟨by rw [HG.out]; rfl, rfl⟩

set_option maxHeartbeats 400000 in
set_option maxRecDepth 100000 in
theorem get_short (A : Option Addr) (l : List UInt8) (c : Nat) (w : World) (hl : l.length ≤ 9223372036854775807) (h9 : l.length ≤ 9) (hs : Seen w A l) :
    Calls Try.prog 82 #[.slice A l.length c] w fun e w' =>
      e = .returned (.tuple #[.int .i64 ((getL l 0 0).1 : Nat), .int .i64 ((getL l 0 0).2 : Nat)]) ∧ w = w' := by
  have HS := Lib.hid hs
  clear hs
  go_enter Try.func82, Try.ntmps82
  go_wp2
  go_loop [4, 9] (fun s i => ∃ k n : Nat, k ≤ l.length ∧ i = .int .i64 k ∧ s = .int .i64 n ∧ Hid (n < 128 ^ k ∧ getL l 0 0 = getL (l.drop k) k n)) (fun _ i => l.length - (intOf i).toNat)
  case atStart => exact ⟨0, 0, by omega, rfl, rfl, by omega, rfl⟩
  case round =>
    obtain ⟨k, n, hk, rfl, rfl, H⟩ := hrel
    by_cases hlt : k < l.length
    · have hlt' : k < l.length := by omega
      have hlt9 : k < 9 := by omega
      obtain ⟨b, off, rfl, hb, hc⟩ := HS.out.at_ hlt'
      have hx := l[k].toNat_lt
      have Q1 := Lib.hid (group_lt (x := l[k].toNat) hlt9 H.out.1).1
      have HN : Hid (getL l 0 0 = if 128 ≤ l[k].toNat then getL (l.drop (k + 1)) (k + 1) (n + l[k].toNat % 128 * 128 ^ k) else if l[k].toNat = 0 ∧ 0 < k then (0, 0) else (n + l[k].toNat % 128 * 128 ^ k, k + 1)) := by
        show _ = _; rw [H.out.2, drop_cons l k hlt', getL, if_neg (by omega)]
      have HO := Lib.hid (group_term (x := l[k].toNat) hlt9 H.out.1)
      generalize l[k].toNat = x at *
      have e1 : bits .and .u8 (x : Int) 127 = ((x % 128 : Nat) : Int) := by
        rw [show (127 : Int) = ((127 : Nat) : Int) from rfl, u8_and_nat x 127 hx (by omega), nat_mask7]
      by_cases h128 : 128 ≤ x
      · have HG : Hid (getL l 0 0 = getL (l.drop (k + 1)) (k + 1) (n + x % 128 * 128 ^ k)) := by show _ = _; rw [HN.out, if_pos h128]
        go_wp2_with fail
        go_round
        case rel => exact ⟨k + 1, n + x % 128 * 128 ^ k, by omega, by go_num, by rw [HO.out], Q1.out, HG.out⟩
        case measure => simp [intOf]; omega
      · by_cases h0 : x = 0
        · by_cases hk0 : 0 < k
          · have HG : Hid (getL l 0 0 = (0, 0)) := by show _ = _; rw [HN.out, if_neg h128, if_pos ⟨h0, hk0⟩]
            have t0 : ((x : Int) == 0) = true := by simp [h0]
            clear h0
            go_wp2_with fail
            all_goals go_ret2
            all_goals exact ⟨by rw [HG.out]; rfl, rfl⟩
          · have HG : Hid (getL l 0 0 = (n + x % 128 * 128 ^ k, k + 1)) := by show _ = _; rw [HN.out, if_neg h128, if_neg (fun h => hk0 h.2)]
            have t0 : ((x : Int) == 0) = true := by simp [h0]
            have hkz : k ≤ 0 := by omega
            clear h0 hk0
            go_wp2_with fail
            all_goals go_ret2
            all_goals exact ⟨by rw [HG.out, ← HO.out]; rfl, rfl⟩
        · have HG : Hid (getL l 0 0 = (n + x % 128 * 128 ^ k, k + 1)) := by show _ = _; rw [HN.out, if_neg h128, if_neg (fun h => h0 h.1)]
          have t0 : ((x : Int) == 0) = false := by simp; omega
          clear h0
          go_wp2_with fail
          all_goals go_ret2
          all_goals exact ⟨by rw [HG.out, ← HO.out]; rfl, rfl⟩
    · have HG : Hid (getL l 0 0 = (0, 0)) := by show _ = _; rw [H.out.2, List.drop_eq_nil_of_le (by omega)]; rfl
      go_wp2_with fail
      go_ret2
      exact ⟨by rw [HG.out]; rfl, rfl⟩

theorem get_any (A : Option Addr) (l : List UInt8) (c : Nat) (w : World) (hl : l.length ≤ 9223372036854775807) (hs : Seen w A l) :
    Calls Try.prog 82 #[.slice A l.length c] w fun e w' =>
      e = .returned (.tuple #[.int .i64 ((getL l 0 0).1 : Nat), .int .i64 ((getL l 0 0).2 : Nat)]) ∧ w = w' := by
  by_cases h : 9 < l.length
  · exact get_long A l c w hl h hs
  · exact get_short A l c w hl (by omega) hs
theorem group_sum {n x k : Nat} {F : Int} (hk : k < 9) (hn : n < 128 ^ k) (hF : F = ((128 ^ k : Nat) : Int)) : wrap64 ((n : Int) + wrap64 ((x : Int) % 128 * F)) = ((n + x % 128 * 128 ^ k : Nat) : Int) := by
  obtain ⟨_, q2, q3⟩ := group_lt (x := x) hk hn
  have e : (x : Int) % 128 * F = ((x % 128 * 128 ^ k : Nat) : Int) := by
    rw [Int.natCast_mul, Int.natCast_emod, hF]; rfl
  rw [e]
  clear e hF
  generalize x % 128 * 128 ^ k = m at *
  rw [IntWalk.wrap64_in (m : Int) ⟨by omega, by omega⟩, IntWalk.wrap64_in ((n : Int) + (m : Int)) ⟨by omega, by omega⟩, Int.natCast_add]
theorem factor_next {k : Nat} {F : Int} (hk : k < 9) (hF : F = ((128 ^ k : Nat) : Int)) : k + 1 < 9 → wrap64 (F * 128) = ((128 ^ (k + 1) : Nat) : Int) := by
  intro h
  have h3 : 128 ^ (k + 1) ≤ 128 ^ 8 := Nat.pow_le_pow_right (by omega) (by omega)
  have h4 : 128 ^ 8 = 72057594037927936 := by decide
  have e : F * 128 = ((128 ^ (k + 1) : Nat) : Int) := by rw [hF, Nat.pow_succ, Int.natCast_mul]; rfl
  rw [e]
  clear e hF
  generalize 128 ^ (k + 1) = m at *
  rw [IntWalk.wrap64_in (m : Int) ⟨by omega, by omega⟩]

set_option maxHeartbeats 400000 in
set_option maxRecDepth 100000 in
theorem refGet_any (A : Option Addr) (l : List UInt8) (c : Nat) (w : World) (hs : Seen w A l) :
    Calls Try.prog 61 #[.slice A l.length c] w fun e w' =>
      e = .returned (.tuple #[.int .i64 ((getL l 0 0).1 : Nat), .int .i64 ((getL l 0 0).2 : Nat)]) ∧ w = w' := by
  have HS := Lib.hid hs
  clear hs
  go_enter Try.func61, Try.ntmps61
  go_wp2
  go_loop [4, 5, 6] (fun s f i => ∃ (k n : Nat) (F : Int), k ≤ 9 ∧ i = .int .i64 k ∧ s = .int .i64 n ∧ f = .int .i64 F ∧ Hid (n < 128 ^ k ∧ getL l 0 0 = getL (l.drop k) k n ∧ (k < 9 → F = ((128 ^ k : Nat) : Int)))) (fun _ _ i => 9 - (intOf i).toNat)
  case atStart => exact ⟨0, 0, 1, by omega, rfl, rfl, rfl, by omega, rfl, fun _ => rfl⟩
  case round =>
    obtain ⟨k, n, F, hk, rfl, rfl, rfl, H⟩ := hrel
    by_cases hlt : k < l.length ∧ k < 9
    · obtain ⟨hlt', hlt9⟩ := hlt
      obtain ⟨b, off, rfl, hb, hc⟩ := HS.out.at_ hlt'
      have hx := l[k].toNat_lt
      have Q1 := Lib.hid (group_lt (x := l[k].toNat) hlt9 H.out.1).1
      have HN : Hid (getL l 0 0 = if 128 ≤ l[k].toNat then getL (l.drop (k + 1)) (k + 1) (n + l[k].toNat % 128 * 128 ^ k) else if l[k].toNat = 0 ∧ 0 < k then (0, 0) else (n + l[k].toNat % 128 * 128 ^ k, k + 1)) := by
        show _ = _; rw [H.out.2.1, drop_cons l k hlt', getL, if_neg (by omega)]
      have HO := Lib.hid (group_sum (x := l[k].toNat) hlt9 H.out.1 (H.out.2.2 hlt9))
      have HF := Lib.hid (factor_next hlt9 (H.out.2.2 hlt9))
      generalize l[k].toNat = x at *
      by_cases h128 : 128 ≤ x
      · have HG : Hid (getL l 0 0 = getL (l.drop (k + 1)) (k + 1) (n + x % 128 * 128 ^ k)) := by show _ = _; rw [HN.out, if_pos h128]
        go_wp2_with fail
        go_round
        case rel => exact ⟨k + 1, n + x % 128 * 128 ^ k, _, by omega, by go_num, by rw [HO.out], rfl, Q1.out, HG.out, HF.out⟩
        case measure => simp [intOf]; omega
      · by_cases h0 : x = 0
        · by_cases hk0 : 0 < k
          · have HG : Hid (getL l 0 0 = (0, 0)) := by show _ = _; rw [HN.out, if_neg h128, if_pos ⟨h0, hk0⟩]
            have t0 : ((x : Int) == 0) = true := by simp [h0]
            clear h0
            go_wp2_with fail
            all_goals go_ret2
            all_goals exact ⟨by rw [HG.out]; rfl, rfl⟩
          · have HG : Hid (getL l 0 0 = (n + x % 128 * 128 ^ k, k + 1)) := by show _ = _; rw [HN.out, if_neg h128, if_neg (fun h => hk0 h.2)]
            have t0 : ((x : Int) == 0) = true := by simp [h0]
            have hkz : k ≤ 0 := by omega
            clear h0 hk0
            go_wp2_with fail
            all_goals go_ret2
            all_goals exact ⟨by rw [HG.out, ← HO.out]; rfl, rfl⟩
        · have HG : Hid (getL l 0 0 = (n + x % 128 * 128 ^ k, k + 1)) := by show _ = _; rw [HN.out, if_neg h128, if_neg (fun h => h0 h.1)]
          have t0 : ((x : Int) == 0) = false := by simp; omega
          clear h0
          go_wp2_with fail
          all_goals go_ret2
          all_goals exact ⟨by rw [HG.out, ← HO.out]; rfl, rfl⟩
    · have HG : Hid (getL l 0 0 = (0, 0)) := by
        show _ = _
        rw [H.out.2.1]
        by_cases h9 : 9 ≤ k
        · exact getL_nine _ _ _ h9
        · rw [List.drop_eq_nil_of_le (by omega)]; rfl
      by_cases hkl : k < l.length
      · have hk9 : 9 ≤ k := by omega
        clear hlt
        go_wp2_with fail
        all_goals go_ret2
        all_goals exact ⟨by rw [HG.out]; rfl, rfl⟩
      · clear hlt
        go_wp2_with fail
        all_goals go_ret2
        all_goals exact ⟨by rw [HG.out]; rfl, rfl⟩
end Go.Proofs.Ytkbjhnlihnakkaa
