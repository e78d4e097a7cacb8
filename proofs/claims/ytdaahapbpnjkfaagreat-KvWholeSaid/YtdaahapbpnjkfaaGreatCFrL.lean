/-
  What Get, the program's and the document's, comes to: one Lean function of the bytes. No conditions beyond how the bytes lie in memory.
  What Put, the program's and the document's, comes to: one Lean function of the number, behind the bytes. Condition: the bytes are at most 2^47 - 4096.
  Plain mathematics: groups are read as they were put, and what is read was put so; eight bytes are the number that they are. No conditions.
  Plain mathematics of layer 6: a frame's bytes, and the frame that bytes begin with. No conditions.
-/
import Derived.Test.YtdaahapbpnjkfaaGreatChecked
import Derived.Test.YtdaahapbpnjkfaaGreatCFlat
import Derived.WalkSpells
import Derived.Test.YtdaahapbpnjkfaaGreatCOrd
namespace Go.Proofs.YtdaahapbpnjkfaaGreat
open Go.RowKit
def getL : List UInt8 → Nat → Nat → Nat × Nat
  | [], _, _ => (0, 0)
  | c :: r, i, n =>
    if 9 ≤ i then (0, 0)
    else if 128 ≤ c.toNat then getL r (i + 1) (n + c.toNat % 128 * 128 ^ i)
    else if c.toNat = 0 ∧ 0 < i then (0, 0)
    else (n + c.toNat % 128 * 128 ^ i, i + 1)
theorem getL_nine (l : List UInt8) (i n : Nat) (h : 9 ≤ i) : getL l i n = (0, 0) := by
  cases l with
  | nil => rfl
  | cons c r => rw [getL, if_pos h]
theorem drop_cons (l : List UInt8) (k : Nat) (h : k < l.length) : l.drop k = l[k] :: l.drop (k + 1) := by
  rw [List.drop_eq_getElem_cons h]
theorem group_lt {n x k : Nat} (hk : k < 9) (hn : n < 128 ^ k) : n + x % 128 * 128 ^ k < 128 ^ (k + 1) ∧ x % 128 * 128 ^ k ≤ 9223372036854775807 ∧ n + x % 128 * 128 ^ k ≤ 9223372036854775807 := by
  have h1 : x % 128 * 128 ^ k ≤ 127 * 128 ^ k := Nat.mul_le_mul_right _ (by omega)
  have h2 : 128 ^ (k + 1) = 128 ^ k * 128 := Nat.pow_succ ..
  have h3 : 128 ^ (k + 1) ≤ 128 ^ 9 := Nat.pow_le_pow_right (by omega) (by omega)
  have h4 : 128 ^ 9 = 9223372036854775808 := by decide
  omega
theorem group_or {n x k : Nat} (hn : n < 128 ^ k) : n ||| x % 128 * 128 ^ k = n + x % 128 * 128 ^ k := by
  rw [Nat.or_comm, nat_join (7 * k) (x % 128 * 128 ^ k) n (by rw [Nat.pow_mul]; exact Nat.mul_mod_left _ _) (by rw [Nat.pow_mul]; exact hn), Nat.add_comm]
theorem or_i64 (a b : Nat) (ha : a ≤ 9223372036854775807) (hb : b ≤ 9223372036854775807) : bits .or .i64 (a : Int) (b : Int) = ((a ||| b : Nat) : Int) := by
  have hx : a ||| b < 2 ^ 63 := Nat.or_lt_two_pow (by omega) (by omega)
  show IntKind.i64.wrap ((BitVec.ofInt 64 (a : Int) ||| BitVec.ofInt 64 (b : Int)).toNat : Int) = _
  rw [BitVec.toNat_or, ofInt_u64 a (by omega), ofInt_u64 b (by omega), IntKind.wrap_i64]
  omega
theorem group_term {n x k : Nat} (hk : k < 9) (hn : n < 128 ^ k) : bits .or .i64 (n : Int) (wrap64 ((x : Int) % 128 * 2 ^ (7 * k))) = ((n + x % 128 * 128 ^ k : Nat) : Int) := by
  obtain ⟨_, q2, q3⟩ := group_lt (x := x) hk hn
  have e : (x : Int) % 128 * 2 ^ (7 * k) = ((x % 128 * 128 ^ k : Nat) : Int) := by
    rw [Int.natCast_mul, Int.natCast_pow, Int.natCast_emod, show ((128 : Nat) : Int) ^ k = 2 ^ (7 * k) from by rw [Int.pow_mul]; rfl]; rfl
  rw [e, IntWalk.wrap64_in _ ⟨by omega, by omega⟩, or_i64 _ _ (by omega) q2, group_or hn]
set_option maxHeartbeats 400000 in
set_option maxRecDepth 100000 in
theorem get_long (A : Option Addr) (l : List UInt8) (c : Nat) (w : World) (hl : l.length ≤ 9223372036854775807) (h9 : 9 < l.length) (hs : Seen w A l) :
    Calls Tryz.prog 161 #[.slice A l.length c] w fun e w' =>
      e = .returned (.tuple #[.int .i64 ((getL l 0 0).1 : Nat), .int .i64 ((getL l 0 0).2 : Nat)]) ∧ w = w' := by
  have HS := Lib.hid hs
  clear hs
  go_enter Tryz.func161, Tryz.ntmps161
  go_wp2
  go_loop [4, 9] (fun s i => ∃ k n : Nat, k ≤ 9 ∧ i = .int .i64 k ∧ s = .int .i64 n ∧ Hid (n < 128 ^ k ∧ getL l 0 0 = getL (l.drop k) k n)) (fun _ i => 9 - (intOf i).toNat)
  case atStart => exact ⟨0, 0, by omega, rfl, rfl, by omega, rfl⟩
  case round =>
    obtain ⟨k, n, hk, rfl, rfl, H⟩ := hrel
    by_cases hlt : k < 9
    · have hlt' : k < l.length := by omega
      have hlt9 : k < 9 := by omega
      obtain ⟨b, off, rfl, hb, hc⟩ := HS.out.at_ hlt'
      have hx := l[k].toNat_lt
      have Q1 := Lib.hid (group_lt (x := l[k].toNat) hlt9 H.out.1).1
      have HN : Hid (getL l 0 0 = if 128 ≤ l[k].toNat then getL (l.drop (k + 1)) (k + 1) (n + l[k].toNat % 128 * 128 ^ k) else if l[k].toNat = 0 ∧ 0 < k then (0, 0) else (n + l[k].toNat % 128 * 128 ^ k, k + 1)) := by
        show _ = _; rw [H.out.2, drop_cons l k hlt', getL, if_neg (by omega)]
      have HO := Lib.hid (group_term (x := l[k].toNat) hlt9 H.out.1)
      generalize l[k].toNat = x at *
      have e1 : bits .and .u8 (x : Int) 127 = ((x % 128 : Nat) : Int) := by
        rw [show (127 : Int) = ((127 : Nat) : Int) from rfl, u8_and_nat x 127 hx (by omega), nat_mask7]
      by_cases h128 : 128 ≤ x
      · have HG : Hid (getL l 0 0 = getL (l.drop (k + 1)) (k + 1) (n + x % 128 * 128 ^ k)) := by show _ = _; rw [HN.out, if_pos h128]
        go_wp2_with fail
        go_round
        case rel => exact ⟨k + 1, n + x % 128 * 128 ^ k, by omega, by go_num, by rw [HO.out], Q1.out, HG.out⟩
        case measure => simp [intOf]; omega
      · by_cases h0 : x = 0
        · by_cases hk0 : 0 < k
          · have HG : Hid (getL l 0 0 = (0, 0)) := by show _ = _; rw [HN.out, if_neg h128, if_pos ⟨h0, hk0⟩]
            have t0 : ((x : Int) == 0) = true := by simp [h0]
            clear h0
            go_wp2_with fail
            all_goals go_ret2
            all_goals exact ⟨by rw [HG.out]; rfl, rfl⟩
          · have HG : Hid (getL l 0 0 = (n + x % 128 * 128 ^ k, k + 1)) := by show _ = _; rw [HN.out, if_neg h128, if_neg (fun h => hk0 h.2)]
            have t0 : ((x : Int) == 0) = true := by simp [h0]
            have hkz : k ≤ 0 := by omega
            clear h0 hk0
            go_wp2_with fail
            all_goals go_ret2
            all_goals exact ⟨by rw [HG.out, ← HO.out]; rfl, rfl⟩
        · have HG : Hid (getL l 0 0 = (n + x % 128 * 128 ^ k, k + 1)) := by show _ = _; rw [HN.out, if_neg h128, if_neg (fun h => h0 h.1)]
          have t0 : ((x : Int) == 0) = false := by simp; omega
          clear h0
          go_wp2_with fail
          all_goals go_ret2
          all_goals exact ⟨by rw [HG.out, ← HO.out]; rfl, rfl⟩
    · have HG : Hid (getL l 0 0 = (0, 0)) := by show _ = _; rw [H.out.2, getL_nine _ _ _ (by omega)]
      go_wp2_with fail
      go_ret2
      exact ⟨by rw [HG.out]; rfl, rfl⟩
set_option maxHeartbeats 400000 in
set_option maxRecDepth 100000 in
theorem get_short (A : Option Addr) (l : List UInt8) (c : Nat) (w : World) (hl : l.length ≤ 9223372036854775807) (h9 : l.length ≤ 9) (hs : Seen w A l) :
    Calls Tryz.prog 161 #[.slice A l.length c] w fun e w' =>
      e = .returned (.tuple #[.int .i64 ((getL l 0 0).1 : Nat), .int .i64 ((getL l 0 0).2 : Nat)]) ∧ w = w' := by
  have HS := Lib.hid hs
  clear hs
  go_enter Tryz.func161, Tryz.ntmps161
  go_wp2
  go_loop [4, 9] (fun s i => ∃ k n : Nat, k ≤ l.length ∧ i = .int .i64 k ∧ s = .int .i64 n ∧ Hid (n < 128 ^ k ∧ getL l 0 0 = getL (l.drop k) k n)) (fun _ i => l.length - (intOf i).toNat)
  case atStart => exact ⟨0, 0, by omega, rfl, rfl, by omega, rfl⟩
  case round =>
    obtain ⟨k, n, hk, rfl, rfl, H⟩ := hrel
    by_cases hlt : k < l.length
    · have hlt' : k < l.length := by omega
      have hlt9 : k < 9 := by omega
      obtain ⟨b, off, rfl, hb, hc⟩ := HS.out.at_ hlt'
      have hx := l[k].toNat_lt
      have Q1 := Lib.hid (group_lt (x := l[k].toNat) hlt9 H.out.1).1
      have HN : Hid (getL l 0 0 = if 128 ≤ l[k].toNat then getL (l.drop (k + 1)) (k + 1) (n + l[k].toNat % 128 * 128 ^ k) else if l[k].toNat = 0 ∧ 0 < k then (0, 0) else (n + l[k].toNat % 128 * 128 ^ k, k + 1)) := by
        show _ = _; rw [H.out.2, drop_cons l k hlt', getL, if_neg (by omega)]
      have HO := Lib.hid (group_term (x := l[k].toNat) hlt9 H.out.1)
      generalize l[k].toNat = x at *
      have e1 : bits .and .u8 (x : Int) 127 = ((x % 128 : Nat) : Int) := by
        rw [show (127 : Int) = ((127 : Nat) : Int) from rfl, u8_and_nat x 127 hx (by omega), nat_mask7]
      by_cases h128 : 128 ≤ x
      · have HG : Hid (getL l 0 0 = getL (l.drop (k + 1)) (k + 1) (n + x % 128 * 128 ^ k)) := by show _ = _; rw [HN.out, if_pos h128]
        go_wp2_with fail
        go_round
        case rel => exact ⟨k + 1, n + x % 128 * 128 ^ k, by omega, by go_num, by rw [HO.out], Q1.out, HG.out⟩
        case measure => simp [intOf]; omega
      · by_cases h0 : x = 0
        · by_cases hk0 : 0 < k
          · have HG : Hid (getL l 0 0 = (0, 0)) := by show _ = _; rw [HN.out, if_neg h128, if_pos ⟨h0, hk0⟩]
            have t0 : ((x : Int) == 0) = true := by simp [h0]
            clear h0
            go_wp2_with fail
            all_goals go_ret2
            all_goals exact ⟨by rw [HG.out]; rfl, rfl⟩
          · have HG : Hid (getL l 0 0 = (n + x % 128 * 128 ^ k, k + 1)) := by show _ = _; rw [HN.out, if_neg h128, if_neg (fun h => hk0 h.2)]
            have t0 : ((x : Int) == 0) = true := by simp [h0]
            have hkz : k ≤ 0 := by omega
            clear h0 hk0
            go_wp2_with fail
            all_goals go_ret2
            all_goals exact ⟨by rw [HG.out, ← HO.out]; rfl, rfl⟩
        · have HG : Hid (getL l 0 0 = (n + x % 128 * 128 ^ k, k + 1)) := by show _ = _; rw [HN.out, if_neg h128, if_neg (fun h => h0 h.1)]
          have t0 : ((x : Int) == 0) = false := by simp; omega
          clear h0
          go_wp2_with fail
          all_goals go_ret2
          all_goals exact ⟨by rw [HG.out, ← HO.out]; rfl, rfl⟩
    · have HG : Hid (getL l 0 0 = (0, 0)) := by show _ = _; rw [H.out.2, List.drop_eq_nil_of_le (by omega)]; rfl
      go_wp2_with fail
      go_ret2
      exact ⟨by rw [HG.out]; rfl, rfl⟩
theorem get_any (A : Option Addr) (l : List UInt8) (c : Nat) (w : World) (hl : l.length ≤ 9223372036854775807) (hs : Seen w A l) :
    Calls Tryz.prog 161 #[.slice A l.length c] w fun e w' =>
      e = .returned (.tuple #[.int .i64 ((getL l 0 0).1 : Nat), .int .i64 ((getL l 0 0).2 : Nat)]) ∧ w = w' := by
  by_cases h : 9 < l.length
  · exact get_long A l c w hl h hs
  · exact get_short A l c w hl (by omega) hs
end Go.Proofs.YtdaahapbpnjkfaaGreat
namespace Go.Proofs.YtdaahapbpnjkfaaGreat
open Go.RowKit
theorem info8p : (Tryz.prog.info? 5).map (fun i => (i.zero, i.size, i.bytes)) = some (some (.int .u8 0), 1, 1) := by kernel_rfl
theorem none_nil {w : World} {l : List UInt8} (hs : Seen w none l) : l = [] := by
  rcases hs with h | ⟨_, _, h, _⟩
  · exact h
  · cases h
set_option maxHeartbeats 400000 in
theorem clone_any (A : Option Addr) (l : List UInt8) (c : Nat) (w : World) (hl : l.length ≤ 140737488351232) (hs : Seen w A l) :
    Calls Tryz.prog 69 #[.slice A l.length c] w fun e w' => ∃ v, e = .returned v ∧ Made 5 w l v w' := by
  obtain ⟨i0, hi, hz0, hz1, hz2⟩ := info_parts info8p
  have heq := fun (W : World) (A : Option Addr) (n c : Nat) => Lib.run_eql_slice_nil (P := Tryz.prog) W 22 5 A n c 0 0 Tryz.underlying22
  rcases A with _ | ad
  · obtain rfl : l = [] := none_nil hs
    clear hs
    go_enter Tryz.func69, Tryz.ntmps69
    go_wp2_with fail
    go_ret
    exact ⟨_, rfl, World.ownsRow_nil _ _ _ _, Below.refl _ _⟩
  · have HS := Lib.hid hs
    clear hs
    have HO : Made 5 w [] (.slice (some ⟨w.heap.size, 0, none⟩) 0 0) (w.alloc (.cells #[] 5)) :=
      ⟨World.ownsRow_lit w #[] 0 (Nat.le_refl _) (by unfold maxLen; omega) rfl, (Below.refl _ _).alloc (Nat.le_refl _) _⟩
    go_enter Tryz.func69, Tryz.ntmps69
    go_wp2_with (at_builtin; refine wpList_append_bytes _ rfl _ _ 22 rfl 5 i0 (.int .u8 0) Tryz.underlying22 hi hz0 hz1 hz2 rfl w _ [] (some ad) l c rfl rfl HO ?c1 ?c2 ?_)
    case c1 => exact HS.out.alloc _
    case c2 => simp; omega
    intro v' w' hown _
    go_wp2_with fail
    go_ret
    exact ⟨_, rfl, hown⟩
def putL (n : Nat) : List UInt8 := if n < 128 then [UInt8.ofNat n] else UInt8.ofNat (n % 128 + 128) :: putL (n / 128)
  termination_by n
  decreasing_by omega
theorem putL_small {n : Nat} (h : n < 128) : putL n = [UInt8.ofNat n] := by rw [putL, if_pos h]
theorem putL_more {n : Nat} (h : 128 ≤ n) : putL n = UInt8.ofNat (n % 128 + 128) :: putL (n / 128) := by rw [putL, if_neg (by omega)]
theorem putL_length : ∀ (k n : Nat), n < 128 ^ (k + 1) → (putL n).length ≤ k + 1
  | 0, n, h => by rw [putL_small (by simpa using h)]; simp
  | k + 1, n, h => by
    by_cases hn : n < 128
    · rw [putL_small hn]; simp
    · rw [putL_more (by omega), List.length_cons]
      have := putL_length k (n / 128) (by rw [Nat.pow_succ] at h; omega)
      omega
theorem putL_length9 {n : Nat} (h : n ≤ 9223372036854775807) : (putL n).length ≤ 9 :=
  putL_length 8 n (by have : 128 ^ 9 = 9223372036854775808 := by decide
                      omega)
theorem putL_pos (n : Nat) : 1 ≤ (putL n).length := by
  by_cases hn : n < 128
  · rw [putL_small hn]; simp
  · rw [putL_more (by omega)]; simp
theorem and_i64 (a b : Nat) (ha : a ≤ 9223372036854775807) (hb : b ≤ 9223372036854775807) : bits .and .i64 (a : Int) (b : Int) = ((a &&& b : Nat) : Int) := by
  have hx : a &&& b < 2 ^ 63 := Nat.and_lt_two_pow _ (by omega)
  show IntKind.i64.wrap ((BitVec.ofInt 64 (a : Int) &&& BitVec.ofInt 64 (b : Int)).toNat : Int) = _
  rw [BitVec.toNat_and, ofInt_u64 a (by omega), ofInt_u64 b (by omega), IntKind.wrap_i64]
  omega
theorem or_128 (x : Nat) (h : x < 128) : bits .or .u8 (x : Int) 128 = ((x + 128 : Nat) : Int) := by
  rw [show (128 : Int) = ((128 : Nat) : Int) from rfl, u8_or_nat x 128 (by omega) (by omega), Nat.or_comm, nat_join 7 128 x (by decide) (by omega), Nat.add_comm]
set_option maxRecDepth 100000 in
set_option maxHeartbeats 400000 in
theorem put_any (A : Option Addr) (l : List UInt8) (c : Nat) (n : Nat) (w : World) (hl : l.length ≤ 140737488351232) (hn : n ≤ 9223372036854775807) (hs : Seen w A l) :
    Calls Tryz.prog 122 #[.slice A l.length c, .int .i64 (n : Int)] w fun e w' => ∃ v, e = .returned v ∧ Made 5 w (l ++ putL n) v w' := by
  obtain ⟨i0, hi, hz0, hz1, hz2⟩ := info_parts info8p
  have HS := Lib.hid hs
  have HL := Lib.hid (putL_length9 hn)
  clear hs
  go_enter Tryz.func122, Tryz.ntmps122
  go_wp2_with fail
  refine (clone_any A l c _ hl HS.out).mono ?_
  rintro e w1 ⟨v, rfl, HM⟩
  go_wp2_with fail
  go_loopw [1, 5] (fun i v wr => ∃ (m : Nat) (d : List UInt8) (V : Value), i = .int .i64 m ∧ V = v ∧ m ≤ 9223372036854775807 ∧ Hid (l ++ putL n = d ++ putL m) ∧ Made 5 w d V wr) (fun i _ _ => (intOf i).toNat)
  case atStart => exact ⟨n, l, v, rfl, rfl, hn, rfl, HM⟩
  case round =>
    obtain ⟨m, d, V, rfl, rfl, hm, H, HD⟩ := hrel
    have hd : d.length ≤ 140737488351241 := by
      have h1 := congrArg List.length H.out
      have h2 := putL_pos m
      have h3 := HL.out
      simp only [List.length_append] at h1
      omega
    by_cases hlt : 128 ≤ m
    · have e1 : bits .and .i64 (m : Int) 127 = ((m % 128 : Nat) : Int) := by
        rw [show (127 : Int) = ((127 : Nat) : Int) from rfl, and_i64 m 127 (by omega) (by omega), nat_mask7]
      have e2 : bits .or .u8 ((m : Int) % 128) 128 = ((m % 128 + 128 : Nat) : Int) := by
        rw [show (m : Int) % 128 = ((m % 128 : Nat) : Int) from by omega]; exact or_128 _ (by omega)
      have HN : Hid (l ++ putL n = pushed d ((m : Int) % 128 + 128) ++ putL (m / 128)) := by
        show _ = _
        rw [H.out, putL_more hlt, pushed, List.append_assoc, List.singleton_append, show ((m : Int) % 128 + 128).toNat = m % 128 + 128 from by omega]
      go_wp2_with (at_builtin; refine wpList_append_byte _ rfl _ _ 22 rfl 5 i0 (.int .u8 0) Tryz.underlying22 hi hz0 hz1 hz2 rfl w V d _ rfl rfl HD ?c1 ?c2 ?c3 ?_)
      case c1 => omega
      case c2 => omega
      case c3 => omega
      intro v' w' HD'
      go_wp2_with fail
      go_roundw
      case rel => exact ⟨m / 128, _, _, by go_num, rfl, by omega, HN, HD'⟩
      case measure => simp [intOf]; omega
    · have HN : Hid (pushed d (m : Int) = l ++ putL n) := by
        show _ = _
        rw [H.out, putL_small (by omega), pushed, Int.toNat_natCast]
      go_wp2_with (at_builtin; refine wpList_append_byte _ rfl _ _ 22 rfl 5 i0 (.int .u8 0) Tryz.underlying22 hi hz0 hz1 hz2 rfl w V d _ rfl rfl HD ?c1 ?c2 ?c3 ?_)
      case c1 => omega
      case c2 => omega
      case c3 => omega
      intro v' w' HD'
      go_wp2_with fail
      go_ret
      exact ⟨_, rfl, by rw [← HN.out]; exact HD'⟩
end Go.Proofs.YtdaahapbpnjkfaaGreat
namespace Go.Proofs.YtdaahapbpnjkfaaGreat
open Go.RowKit
theorem get_put (t : List UInt8) (n : Nat) : ∀ (i acc : Nat), i ≤ 8 → n < 128 ^ (9 - i) → (i = 0 ∨ 0 < n) → getL (putL n ++ t) i acc = (acc + n * 128 ^ i, i + (putL n).length) := by
  induction n using Nat.strongRecOn with
  | _ n ih =>
    intro i acc hi hn hp
    by_cases h : n < 128
    · rw [putL_small h, List.singleton_append, getL, if_neg (by omega)]
      have e : (UInt8.ofNat n).toNat = n := by rw [UInt8.toNat_ofNat']; omega
      rw [e, if_neg (by omega), if_neg (by omega), Nat.mod_eq_of_lt h]
      rfl
    · rw [putL_more (by omega), List.cons_append, getL, if_neg (by omega)]
      have e : (UInt8.ofNat (n % 128 + 128)).toNat = n % 128 + 128 := by rw [UInt8.toNat_ofNat']; omega
      have hi8 : i ≤ 7 := by
        rcases Nat.lt_or_ge i 8 with h8 | h8
        · omega
        · have : i = 8 := by omega
          subst this
          simp at hn
          omega
      have hn' : n / 128 < 128 ^ (9 - (i + 1)) := by
        have e9 : 9 - i = (9 - (i + 1)) + 1 := by omega
        rw [e9, Nat.pow_succ] at hn
        omega
      rw [e, if_pos (by omega), ih (n / 128) (by omega) (i + 1) _ (by omega) hn' (.inr (by omega))]
      rw [show (n % 128 + 128) % 128 = n % 128 from by omega, List.length_cons, Nat.pow_succ]
      have hd : n = 128 * (n / 128) + n % 128 := by omega
      have e2 : acc + n % 128 * 128 ^ i + n / 128 * (128 ^ i * 128) = acc + n * 128 ^ i := by
        generalize 128 ^ i = P
        rw [Nat.add_assoc]
        congr 1
        conv => rhs; rw [hd]
        rw [Nat.add_mul, Nat.mul_comm P 128, ← Nat.mul_assoc, Nat.mul_comm (n / 128) 128, Nat.add_comm]
      rw [e2]
      congr 1
      omega
theorem get_put0 (t : List UInt8) (n : Nat) (h : n ≤ 9223372036854775807) : getL (putL n ++ t) 0 0 = (n, (putL n).length) := by
  have e : 128 ^ (9 - 0) = 9223372036854775808 := by decide
  rw [get_put t n 0 0 (by omega) (by omega) (.inl rfl)]
  simp
theorem put_of_get : ∀ (l : List UInt8) (i acc : Nat), i ≤ 8 → (getL l i acc).2 ≠ 0 → ∃ (m : Nat) (t : List UInt8), l = putL m ++ t ∧ getL l i acc = (acc + m * 128 ^ i, i + (putL m).length) ∧ m < 128 ^ (9 - i) ∧ (i = 0 ∨ 0 < m)
  | [], _, _, _, h => absurd rfl h
  | c :: r, i, acc, hi, h => by
    have hc := c.toNat_lt
    rw [getL, if_neg (by omega)] at h ⊢
    have hpow : 0 < 128 ^ (9 - (i + 1)) := Nat.pow_pos (by decide)
    have e9 : 128 ^ (9 - i) = 128 ^ (9 - (i + 1)) * 128 := by rw [← Nat.pow_succ]; congr 1; omega
    by_cases h1 : 128 ≤ c.toNat
    · rw [if_pos h1] at h ⊢
      by_cases h8 : i + 1 ≤ 8
      · obtain ⟨m, t, rfl, he, hm, hp⟩ := put_of_get r (i + 1) _ h8 h
        have hp : 0 < m := by rcases hp with h | h; omega; exact h
        have hP : putL (c.toNat % 128 + 128 * m) = c :: putL m := by
          rw [putL_more (n := c.toNat % 128 + 128 * m) (by omega), show (c.toNat % 128 + 128 * m) % 128 + 128 = c.toNat from by omega, show (c.toNat % 128 + 128 * m) / 128 = m from by omega, UInt8.ofNat_toNat]
        refine ⟨c.toNat % 128 + 128 * m, t, by rw [hP]; rfl, ?_, by rw [e9]; omega, .inr (by omega)⟩
        · rw [he, hP, List.length_cons, Nat.pow_succ]
          have e2 : acc + c.toNat % 128 * 128 ^ i + m * (128 ^ i * 128) = acc + (c.toNat % 128 + 128 * m) * 128 ^ i := by
            generalize 128 ^ i = P
            rw [Nat.add_mul, Nat.add_assoc, Nat.mul_comm P 128, ← Nat.mul_assoc, Nat.mul_comm m 128]
          rw [e2]
          congr 1
          omega
      · rw [getL_nine r (i + 1) _ (by omega)] at h
        exact absurd rfl h
    · rw [if_neg h1] at h ⊢
      by_cases h2 : c.toNat = 0 ∧ 0 < i
      · rw [if_pos h2] at h; exact absurd rfl h
      · rw [if_neg h2]
        refine ⟨c.toNat, r, ?_, ?_, by rw [e9]; omega, ?_⟩
        · rw [putL_small (by omega), UInt8.ofNat_toNat]; rfl
        · rw [putL_small (by omega), Nat.mod_eq_of_lt (by omega)]; rfl
        · rcases Nat.eq_zero_or_pos i with h0 | h0
          · exact .inl h0
          · exact .inr (by omega)
theorem put_of_get0 {l : List UInt8} (h : (getL l 0 0).2 ≠ 0) : ∃ (t : List UInt8), l = putL (getL l 0 0).1 ++ t ∧ (getL l 0 0).2 = (putL (getL l 0 0).1).length ∧ (getL l 0 0).1 ≤ 9223372036854775807 := by
  obtain ⟨m, t, h1, h2, h3, _⟩ := put_of_get l 0 0 (by omega) h
  have e : 128 ^ (9 - 0) = 9223372036854775808 := by decide
  have e1 : (getL l 0 0).1 = m := by rw [h2]; simp
  have e2 : (getL l 0 0).2 = (putL m).length := by rw [h2]; simp
  rw [e1, e2]
  exact ⟨t, h1, rfl, by omega⟩
theorem get_fits {l : List UInt8} : (getL l 0 0).2 ≤ l.length ∧ (getL l 0 0).2 ≤ 9 ∧ (getL l 0 0).1 ≤ 9223372036854775807 := by
  by_cases h : (getL l 0 0).2 = 0
  · refine ⟨by omega, by omega, ?_⟩
    -- nothing is read: the number is 0
    have key : ∀ (l : List UInt8) (i acc : Nat), (getL l i acc).2 = 0 → (getL l i acc).1 = 0 := by
      intro l
      induction l with
      | nil => intro i acc _; rfl
      | cons c r ih =>
        intro i acc h
        rw [getL] at h ⊢
        split at h
        · rename_i h1; rw [if_pos h1]
        · rename_i h1
          rw [if_neg h1]
          split at h
          · rename_i h2; rw [if_pos h2]; exact ih _ _ h
          · rename_i h2
            rw [if_neg h2]
            split at h
            · rename_i h3; rw [if_pos h3]
            · simp at h
    rw [key l 0 0 h]; omega
  · obtain ⟨t, h1, h2, h3⟩ := put_of_get0 h
    refine ⟨?_, ?_, h3⟩
    · have := congrArg List.length h1
      rw [List.length_append] at this
      omega
    · rw [h2]; exact putL_length9 h3
def wideI (n : Int) : List UInt8 := wideOf (n % 18446744073709551616).toNat
def narI (l : List UInt8) : Int := wrap64 ((nar l 0 : Nat) : Int)
theorem wideI_length (n : Int) : (wideI n).length = 8 := wideOf_length _
theorem nar_wideI {n : Int} (h0 : -9223372036854775808 ≤ n) (h1 : n ≤ 9223372036854775807) : narI (wideI n) = n := by
  unfold narI wideI
  rw [nar_wide _ (by omega)]
  unfold wrap64
  omega
theorem narI_range (l : List UInt8) : -9223372036854775808 ≤ narI l ∧ narI l ≤ 9223372036854775807 := by
  unfold narI wrap64; omega
end Go.Proofs.YtdaahapbpnjkfaaGreat
namespace Go.Proofs.YtdaahapbpnjkfaaGreat
open Go.RowKit
def sum4 (x : Nat) : List UInt8 := [UInt8.ofNat (x / 16777216 % 256), UInt8.ofNat (x / 65536 % 256), UInt8.ofNat (x / 256 % 256), UInt8.ofNat (x % 256)]
theorem sum4_length (x : Nat) : (sum4 x).length = 4 := rfl
theorem crcOf_lt (l : List UInt8) : crcOf l < 4294967296 :=
  Nat.xor_lt_two_pow (n := 32) (by have := crcL_lt l 4294967295 (by omega); omega) (by omega)
def sumOf (l : List UInt8) : List UInt8 := sum4 (crcOf l)
theorem sumOf_length (l : List UInt8) : (sumOf l).length = 4 := rfl
def headL (g s : Int) (d : List UInt8) : List UInt8 := 245 :: (putL d.length ++ (wideI g ++ (wideI s ++ d)))
def frameL (g s : Int) (d : List UInt8) : List UInt8 := headL g s d ++ sumOf (headL g s d)
theorem headL_length (g s : Int) (d : List UInt8) : (headL g s d).length = (putL d.length).length + d.length + 17 := by
  simp only [headL, List.length_cons, List.length_append, wideI_length]; omega
theorem frameL_length (g s : Int) (d : List UInt8) : (frameL g s d).length = (putL d.length).length + d.length + 21 := by
  rw [frameL, List.length_append, headL_length, sumOf_length]
theorem frameL_pos (g s : Int) (d : List UInt8) : 22 ≤ (frameL g s d).length := by
  rw [frameL_length]; have := putL_pos d.length; omega
def mayB (g s : Int) (n : Nat) : Bool := decide (0 ≤ g ∧ g ≤ 1152921504606846976 ∧ 0 ≤ s ∧ s ≤ 1152921504606846976 ∧ n ≤ 65536)
theorem mayB_true {g s : Int} {n : Nat} (h : mayB g s n = true) : 0 ≤ g ∧ g ≤ 1152921504606846976 ∧ 0 ≤ s ∧ s ≤ 1152921504606846976 ∧ n ≤ 65536 := of_decide_eq_true h
theorem mayB_false {g s : Int} {n : Nat} (h : mayB g s n = false) : ¬ (0 ≤ g ∧ g ≤ 1152921504606846976 ∧ 0 ≤ s ∧ s ≤ 1152921504606846976 ∧ n ≤ 65536) := of_decide_eq_false h
def encF (g s : Int) (d : List UInt8) : List UInt8 := if mayB g s d.length = true then frameL g s d else []
theorem encF_may {g s : Int} {d : List UInt8} (h : mayB g s d.length = true) : encF g s d = frameL g s d := if_pos h
theorem encF_not {g s : Int} {d : List UInt8} (h : mayB g s d.length = false) : encF g s d = [] := if_neg (by rw [h]; decide)
theorem putL3 {n : Nat} (h : n ≤ 65536) : (putL n).length ≤ 3 := putL_length 2 n (by have : 128 ^ 3 = 2097152 := by decide
                                                                                     omega)
theorem encF_fits (g s : Int) (d : List UInt8) : (encF g s d).length ≤ 65560 := by
  by_cases h : mayB g s d.length = true
  · have h5 := (mayB_true h).2.2.2.2
    have := putL3 h5
    rw [encF_may h, frameL_length]; omega
  · rw [encF_not (by simpa using h)]; simp
def sizeL (n : Int) : Int := if n < 0 ∨ 65536 < n then 0 else ((putL n.toNat).length : Int) + n + 21
theorem sizeL_frame {g s : Int} {d : List UInt8} (h : mayB g s d.length = true) : sizeL (d.length : Int) = ((frameL g s d).length : Int) := by
  have := (mayB_true h).2.2.2.2
  rw [sizeL, if_neg (by omega), frameL_length]
  simp only [Int.toNat_natCast]
  omega
def readR (r : List UInt8) : Option (Int × Int × List UInt8) :=
  if (getL r 0 0).2 = 0 then none
  else if (r.drop (getL r 0 0).2).length < 16 + (getL r 0 0).1 then none
  else some (narI ((r.drop (getL r 0 0).2).take 8), narI (((r.drop (getL r 0 0).2).drop 8).take 8), (((r.drop (getL r 0 0).2).drop 8).drop 8).take (getL r 0 0).1)
def readF : List UInt8 → Option (Int × Int × List UInt8)
  | [] => none
  | _ :: r => readR r
def decF (b : List UInt8) : Option (Int × Int × List UInt8) :=
  match readF b with
  | none => none
  | some f => if mayB f.1 f.2.1 f.2.2.length = true ∧ b.take (frameL f.1 f.2.1 f.2.2).length = frameL f.1 f.2.1 f.2.2 then some f else none
theorem decF_some {b : List UInt8} {f : Int × Int × List UInt8} (h : decF b = some f) : readF b = some f ∧ mayB f.1 f.2.1 f.2.2.length = true ∧ b.take (frameL f.1 f.2.1 f.2.2).length = frameL f.1 f.2.1 f.2.2 := by
  unfold decF at h
  split at h
  · cases h
  · rename_i f' hf
    split at h
    · rename_i hc
      injection h with h
      subst h
      exact ⟨hf, hc⟩
    · cases h
theorem decF_fits {b : List UInt8} {f : Int × Int × List UInt8} (h : decF b = some f) : (frameL f.1 f.2.1 f.2.2).length ≤ b.length := by
  have := congrArg List.length (decF_some h).2.2
  rw [List.length_take] at this
  omega
theorem readR_some {r : List UInt8} {f : Int × Int × List UInt8} (h : readR r = some f) : (getL r 0 0).2 ≠ 0 ∧ 16 + (getL r 0 0).1 ≤ (r.drop (getL r 0 0).2).length ∧ f.2.2.length = (getL r 0 0).1 ∧ f.2.2 = (((r.drop (getL r 0 0).2).drop 8).drop 8).take (getL r 0 0).1 ∧
    f.1 = narI ((r.drop (getL r 0 0).2).take 8) ∧ f.2.1 = narI (((r.drop (getL r 0 0).2).drop 8).take 8) := by
  unfold readR at h
  split at h
  · cases h
  · rename_i hk
    split at h
    · cases h
    · rename_i hl
      injection h with h
      subst h
      refine ⟨hk, by omega, ?_, rfl, rfl, rfl⟩
      simp only [List.length_take, List.length_drop] at hl ⊢
      omega
theorem dec_enc {g s : Int} {d : List UInt8} (h : mayB g s d.length = true) (t : List UInt8) : decF (frameL g s d ++ t) = some (g, s, d) := by
  have hm := mayB_true h
  have e1 : frameL g s d ++ t = 245 :: (putL d.length ++ (wideI g ++ (wideI s ++ (d ++ (sumOf (headL g s d) ++ t))))) := by
    simp only [frameL, headL, List.cons_append, List.append_assoc]
  have hg := get_put0 (wideI g ++ (wideI s ++ (d ++ (sumOf (headL g s d) ++ t)))) d.length (by omega)
  have hr : readF (frameL g s d ++ t) = some (g, s, d) := by
    rw [e1, readF, readR, hg]
    have hp := putL_pos d.length
    have w8 := wideI_length g
    have w9 := wideI_length s
    rw [if_neg (by simp only; omega)]
    simp only [List.drop_left]
    rw [if_neg (by simp only [List.length_append, w8, w9]; omega)]
    have d1 : List.take 8 (wideI g ++ (wideI s ++ (d ++ (sumOf (headL g s d) ++ t)))) = wideI g := by rw [← w8]; exact List.take_left' rfl
    have d2 : List.drop 8 (wideI g ++ (wideI s ++ (d ++ (sumOf (headL g s d) ++ t)))) = wideI s ++ (d ++ (sumOf (headL g s d) ++ t)) := by rw [← w8]; exact List.drop_left' rfl
    have d3 : List.take 8 (wideI s ++ (d ++ (sumOf (headL g s d) ++ t))) = wideI s := by rw [← w9]; exact List.take_left' rfl
    have d4 : List.drop 8 (wideI s ++ (d ++ (sumOf (headL g s d) ++ t))) = d ++ (sumOf (headL g s d) ++ t) := by rw [← w9]; exact List.drop_left' rfl
    rw [d2, d1, d3, d4, List.take_left' rfl, nar_wideI (by omega) (by omega), nar_wideI (by omega) (by omega)]
  unfold decF
  rw [hr]
  simp only
  rw [if_pos ⟨h, List.take_left' rfl⟩]
theorem dec_short {b : List UInt8} (h : b.length < 22) : decF b = none := by
  rcases hd : decF b with _ | f
  · rfl
  · have := decF_fits hd; have := frameL_pos f.1 f.2.1 f.2.2; omega
theorem dec_mark {b0 : UInt8} {r : List UInt8} (h : b0 ≠ 245) : decF (b0 :: r) = none := by
  rcases hd : decF (b0 :: r) with _ | f
  · rfl
  · have h1 := (decF_some hd).2.2
    rw [frameL, headL, List.cons_append, List.length_cons, List.take_succ_cons] at h1
    injection h1 with h1
    exact absurd h1 h
end Go.Proofs.YtdaahapbpnjkfaaGreat
