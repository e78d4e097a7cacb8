/-
  What Put, the program's and the document's, comes to: one Lean function of the number, behind the bytes. Condition: the bytes are at most 2^47 - 4096.
-/
import Derived.Test.YtkbjhnlihnakkaaChecked
import Derived.Test.YtkbjhnlihnakkaaApp
import Derived.WalkSpells
namespace Go.Proofs.Ytkbjhnlihnakkaa
open Go.RowKit

theorem info8p : (Try.prog.info? 5).map (fun i => (i.zero, i.size, i.bytes)) = some (some (.int .u8 0), 1, 1) := by kernel_rfl

theorem none_nil {w : World} {l : List UInt8} (hs : Seen w none l) : l = [] := by
  rcases hs with h | ⟨_, _, h, _⟩
  · exact h
  · cases h

set_option maxHeartbeats 400000 in
theorem clone_any (A : Option Addr) (l : List UInt8) (c : Nat) (w : World) (hl : l.length ≤ 140737488351232) (hs : Seen w A l) :
    Calls Try.prog 60 #[.slice A l.length c] w fun e w' => ∃ v, e = .returned v ∧ Made 5 w l v w' := by
  obtain ⟨i0, hi, hz0, hz1, hz2⟩ := info_parts info8p
  have heq := fun (W : World) (A : Option Addr) (n c : Nat) => Lib.run_eql_slice_nil (P := Try.prog) W 22 5 A n c 0 0 Try.underlying22
  rcases A with _ | ad
  · obtain rfl : l = [] := none_nil hs
    clear hs
    go_enter Try.func60, Try.ntmps60
    go_wp2_with fail
    go_ret
    exact ⟨_, rfl, World.ownsRow_nil _ _ _ _, Below.refl _ _⟩
  · have HS := Lib.hid hs
    clear hs
    have HO : Made 5 w [] (.slice (some ⟨w.heap.size, 0, none⟩) 0 0) (w.alloc (.cells #[] 5)) :=
      ⟨World.ownsRow_lit w #[] 0 (Nat.le_refl _) (by unfold maxLen; omega) rfl, (Below.refl _ _).alloc (Nat.le_refl _) _⟩
    go_enter Try.func60, Try.ntmps60
    go_wp2_with (at_builtin; refine wpList_append_bytes _ rfl _ _ 22 rfl 5 i0 (.int .u8 0) Try.underlying22 hi hz0 hz1 hz2 rfl w _ [] (some ad) l c rfl rfl HO ?c1 ?c2 ?_)
    case c1 => exact HS.out.alloc _
    case c2 => simp; omega
    intro v' w' hown _
    go_wp2_with fail
    go_ret
    exact ⟨_, rfl, hown⟩

/-- a number in groups of seven bits -/
def putL (n : Nat) : List UInt8 := if n < 128 then [UInt8.ofNat n] else UInt8.ofNat (n % 128 + 128) :: putL (n / 128)
  termination_by n
  decreasing_by omega

theorem putL_small {n : Nat} (h : n < 128) : putL n = [UInt8.ofNat n] := by rw [putL, if_pos h]
theorem putL_more {n : Nat} (h : 128 ≤ n) : putL n = UInt8.ofNat (n % 128 + 128) :: putL (n / 128) := by rw [putL, if_neg (by omega)]
theorem putL_length : ∀ (k n : Nat), n < 128 ^ (k + 1) → (putL n).length ≤ k + 1
  | 0, n, h => by rw [putL_small (by simpa using h)]; simp
  | k + 1, n, h => by
    by_cases hn : n < 128
    · rw [putL_small hn]; simp
    · rw [putL_more (by omega), List.length_cons]
      have := putL_length k (n / 128) (by rw [Nat.pow_succ] at h; omega)
      omega
theorem putL_length9 {n : Nat} (h : n ≤ 9223372036854775807) : (putL n).length ≤ 9 :=
  putL_length 8 n (by have : 128 ^ 9 = 9223372036854775808 := by decide
                      omega)
theorem putL_pos (n : Nat) : 1 ≤ (putL n).length := by
  by_cases hn : n < 128
  · rw [putL_small hn]; simp
  · rw [putL_more (by omega)]; simp

theorem and_i64 (a b : Nat) (ha : a ≤ 9223372036854775807) (hb : b ≤ 9223372036854775807) : bits .and .i64 (a : Int) (b : Int) = ((a &&& b : Nat) : Int) := by
  have hx : a &&& b < 2 ^ 63 := Nat.and_lt_two_pow _ (by omega)
  show IntKind.i64.wrap ((BitVec.ofInt 64 (a : Int) &&& BitVec.ofInt 64 (b : Int)).toNat : Int) = _
  rw [BitVec.toNat_and, ofInt_u64 a (by omega), ofInt_u64 b (by omega), IntKind.wrap_i64]
  omega
theorem or_128 (x : Nat) (h : x < 128) : bits .or .u8 (x : Int) 128 = ((x + 128 : Nat) : Int) := by
  rw [show (128 : Int) = ((128 : Nat) : Int) from rfl, u8_or_nat x 128 (by omega) (by omega), Nat.or_comm, nat_join 7 128 x (by decide) (by omega), Nat.add_comm]

set_option maxHeartbeats 400000 in
theorem put_neg (A : Option Addr) (l : List UInt8) (c : Nat) (n : Int) (w : World) (hl : l.length ≤ 140737488351232) (hn : n < 0) (hs : Seen w A l) :
    Calls Try.prog 46 #[.slice A l.length c, .int .i64 n] w fun e w' => ∃ v, e = .returned v ∧ Made 5 w l v w' := by
  have HS := Lib.hid hs
  clear hs
  go_enter Try.func46, Try.ntmps46
  go_wp2_with fail
  refine (clone_any A l c _ hl HS.out).mono ?_
  rintro e w' ⟨v, rfl, HM⟩
  go_wp2_with fail
  go_ret
  exact ⟨_, rfl, HM⟩

set_option maxRecDepth 100000 in
set_option maxHeartbeats 400000 in
theorem put_any (A : Option Addr) (l : List UInt8) (c : Nat) (n : Nat) (w : World) (hl : l.length ≤ 140737488351232) (hn : n ≤ 9223372036854775807) (hs : Seen w A l) :
    Calls Try.prog 46 #[.slice A l.length c, .int .i64 (n : Int)] w fun e w' => ∃ v, e = .returned v ∧ Made 5 w (l ++ putL n) v w' := by
  obtain ⟨i0, hi, hz0, hz1, hz2⟩ := info_parts info8p
  have HS := Lib.hid hs
  have HL := Lib.hid (putL_length9 hn)
  clear hs
  go_enter Try.func46, Try.ntmps46
  go_wp2_with fail
  refine (clone_any A l c _ hl HS.out).mono ?_
  rintro e w1 ⟨v, rfl, HM⟩
  go_wp2_with fail
  go_loopw [1, 5] (fun i v wr => ∃ (m : Nat) (d : List UInt8) (V : Value), i = .int .i64 m ∧ V = v ∧ m ≤ 9223372036854775807 ∧ Hid (l ++ putL n = d ++ putL m) ∧ Made 5 w d V wr) (fun i _ _ => (intOf i).toNat)
  case atStart => exact ⟨n, l, v, rfl, rfl, hn, rfl, HM⟩
  case round =>
    obtain ⟨m, d, V, rfl, rfl, hm, H, HD⟩ := hrel
    have hd : d.length ≤ 140737488351241 := by
      have h1 := congrArg List.length H.out
      have h2 := putL_pos m
      have h3 := HL.out
      simp only [List.length_append] at h1
      omega
    by_cases hlt : 128 ≤ m
    · have e1 : bits .and .i64 (m : Int) 127 = ((m % 128 : Nat) : Int) := by
        rw [show (127 : Int) = ((127 : Nat) : Int) from rfl, and_i64 m 127 (by omega) (by omega), nat_mask7]
      have e2 : bits .or .u8 ((m : Int) % 128) 128 = ((m % 128 + 128 : Nat) : Int) := by
        rw [show (m : Int) % 128 = ((m % 128 : Nat) : Int) from by omega]; exact or_128 _ (by omega)
      have HN : Hid (l ++ putL n = pushed d ((m : Int) % 128 + 128) ++ putL (m / 128)) := by
        show _ = _
        rw [H.out, putL_more hlt, pushed, List.append_assoc, List.singleton_append, show ((m : Int) % 128 + 128).toNat = m % 128 + 128 from by omega]
      go_wp2_with (at_builtin; refine wpList_append_byte _ rfl _ _ 22 rfl 5 i0 (.int .u8 0) Try.underlying22 hi hz0 hz1 hz2 rfl w V d _ rfl rfl HD ?c1 ?c2 ?c3 ?_)
      case c1 => omega
      case c2 => omega
      case c3 => omega
      intro v' w' HD'
      go_wp2_with fail
      go_roundw
      case rel => exact ⟨m / 128, _, _, by go_num, rfl, by omega, HN, HD'⟩
      case measure => simp [intOf]; omega
    · have HN : Hid (pushed d (m : Int) = l ++ putL n) := by
        show _ = _
        rw [H.out, putL_small (by omega), pushed, Int.toNat_natCast]
      go_wp2_with (at_builtin; refine wpList_append_byte _ rfl _ _ 22 rfl 5 i0 (.int .u8 0) Try.underlying22 hi hz0 hz1 hz2 rfl w V d _ rfl rfl HD ?c1 ?c2 ?c3 ?_)
      case c1 => omega
      case c2 => omega
      case c3 => omega
      intro v' w' HD'
      go_wp2_with fail
      go_ret
      exact ⟨_, rfl, by rw [← HN.out]; exact HD'⟩
set_option maxHeartbeats 400000 in
theorem refPut_neg (A : Option Addr) (l : List UInt8) (c : Nat) (n : Int) (w : World) (hl : l.length ≤ 140737488351232) (hn : n < 0) (hs : Seen w A l) :
    Calls Try.prog 69 #[.slice A l.length c, .int .i64 n] w fun e w' => ∃ v, e = .returned v ∧ Made 5 w l v w' := by
  obtain ⟨i0, hi, hz0, hz1, hz2⟩ := info_parts info8p
  have HS := Lib.hid hs
  clear hs
  have HO := Made.nil 5 w
  go_enter Try.func69, Try.ntmps69
  go_wp2_with (at_builtin; refine wpList_append_bytes _ rfl _ _ 22 rfl 5 i0 (.int .u8 0) Try.underlying22 hi hz0 hz1 hz2 rfl w _ [] A l c rfl rfl HO ?c1 ?c2 ?_)
  case c1 => exact HS.out
  case c2 => simp; omega
  intro v w1 HM _
  go_wp2_with fail
  go_ret
  exact ⟨_, rfl, HM⟩

set_option maxRecDepth 100000 in
set_option maxHeartbeats 400000 in
theorem refPut_any (A : Option Addr) (l : List UInt8) (c : Nat) (n : Nat) (w : World) (hl : l.length ≤ 140737488351232) (hn : n ≤ 9223372036854775807) (hs : Seen w A l) :
    Calls Try.prog 69 #[.slice A l.length c, .int .i64 (n : Int)] w fun e w' => ∃ v, e = .returned v ∧ Made 5 w (l ++ putL n) v w' := by
  obtain ⟨i0, hi, hz0, hz1, hz2⟩ := info_parts info8p
  have HS := Lib.hid hs
  have HL := Lib.hid (putL_length9 hn)
  clear hs
  have HO := Made.nil 5 w
  go_enter Try.func69, Try.ntmps69
  go_wp2_with (at_builtin; refine wpList_append_bytes _ rfl _ _ 22 rfl 5 i0 (.int .u8 0) Try.underlying22 hi hz0 hz1 hz2 rfl w _ [] A l c rfl rfl HO ?c1 ?c2 ?_)
  case c1 => exact HS.out
  case c2 => simp; omega
  intro v w1 HM _
  go_wp2_with fail
  go_loopw [1, 5] (fun i v wr => ∃ (m : Nat) (d : List UInt8) (V : Value), i = .int .i64 m ∧ V = v ∧ m ≤ 9223372036854775807 ∧ Hid (l ++ putL n = d ++ putL m) ∧ Made 5 w d V wr) (fun i _ _ => (intOf i).toNat)
  case atStart => exact ⟨n, l, v, rfl, rfl, hn, rfl, HM⟩
  case round =>
    obtain ⟨m, d, V, rfl, rfl, hm, H, HD⟩ := hrel
    have hd : d.length ≤ 140737488351241 := by
      have h1 := congrArg List.length H.out
      have h2 := putL_pos m
      have h3 := HL.out
      simp only [List.length_append] at h1
      omega
    by_cases hlt : 128 ≤ m
    · have HN : Hid (l ++ putL n = pushed d ((m : Int) % 128 + 128) ++ putL (m / 128)) := by
        show _ = _
        rw [H.out, putL_more hlt, pushed, List.append_assoc, List.singleton_append, show ((m : Int) % 128 + 128).toNat = m % 128 + 128 from by omega]
      go_wp2_with (at_builtin; refine wpList_append_byte _ rfl _ _ 22 rfl 5 i0 (.int .u8 0) Try.underlying22 hi hz0 hz1 hz2 rfl w V d _ rfl rfl HD ?c1 ?c2 ?c3 ?_)
      case c1 => omega
      case c2 => omega
      case c3 => omega
      intro v' w' HD'
      go_wp2_with fail
      go_roundw
      case rel => exact ⟨m / 128, _, _, by go_num, rfl, by omega, HN, HD'⟩
      case measure => simp [intOf]; omega
    · have HN : Hid (pushed d (m : Int) = l ++ putL n) := by
        show _ = _
        rw [H.out, putL_small (by omega), pushed, Int.toNat_natCast]
      go_wp2_with (at_builtin; refine wpList_append_byte _ rfl _ _ 22 rfl 5 i0 (.int .u8 0) Try.underlying22 hi hz0 hz1 hz2 rfl w V d _ rfl rfl HD ?c1 ?c2 ?c3 ?_)
      case c1 => omega
      case c2 => omega
      case c3 => omega
      intro v' w' HD'
      go_wp2_with fail
      go_ret
      exact ⟨_, rfl, by rw [← HN.out]; exact HD'⟩
end Go.Proofs.Ytkbjhnlihnakkaa
