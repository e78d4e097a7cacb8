/-
  What the program's Size and Encode come to: the size, and the bytes, of a frame. Condition: the data are at most 2^46 bytes.
-/
import Derived.Test.YtkbjhnlihnakkaaCrc
import Derived.Test.YtkbjhnlihnakkaaWide
import Derived.Test.YtkbjhnlihnakkaaFrL
import Derived.Test.YtkbjhnlihnakkaaAppTo
namespace Go.Proofs.Ytkbjhnlihnakkaa
open Go.RowKit

theorem ret_bool {a b : Bool} (h : a = b) : Ending.returned (.bool a) = .returned (.bool b) := by rw [h]

theorem size_any (n : Int) (w : World) (h0 : -9223372036854775808 ≤ n) (h1 : n ≤ 9223372036854775807) :
    Calls Try.prog 32 #[.int .i64 n] w fun e w' => e = .returned (.int .i64 (sizeL n)) ∧ Below w.heap.size w w' := by
  by_cases hn : n < 0
  · have HE : Hid (sizeL n = 0) := if_pos (.inl hn)
    go_enter Try.func32, Try.ntmps32
    go_wp2_with fail
    go_ret
    exact ⟨ret_int HE.out.symm, Below.refl _ _⟩
  · by_cases hb : 65536 < n
    · have HE : Hid (sizeL n = 0) := if_pos (.inr hb)
      have hn' : 0 ≤ n := by omega
      clear hn
      go_enter Try.func32, Try.ntmps32
      go_wp2_with fail
      go_ret
      exact ⟨ret_int HE.out.symm, Below.refl _ _⟩
    · obtain ⟨m, rfl⟩ := Int.eq_ofNat_of_zero_le (show 0 ≤ n by omega)
      have HE : Hid (sizeL (m : Int) = ((putL m).length : Int) + m + 21) := by show _ = _; rw [sizeL, if_neg (by omega)]; rfl
      have hm : m ≤ 65536 := by omega
      have h3 := putL3 hm
      have HL : Hid ((putL m).length ≤ 3) := h3
      clear hn hb h3
      go_enter Try.func32, Try.ntmps32
      go_wp2_with fail
      refine (put_made m _ (by omega)).mono ?_
      rintro e w1 ⟨A, k, c, rfl, hk⟩
      have HK := Lib.hid hk.1
      have HB := Lib.hid hk.2.2
      have hk3 : k ≤ 3 := by have := HL.out; have := HK.out; omega
      clear hk
      go_wp2_with fail
      go_ret
      refine ⟨ret_int ?_, HB.out⟩
      rw [HE.out, HK.out]; omega

def inB (n : Int) : Bool := decide (0 ≤ n ∧ n ≤ 1152921504606846976)
theorem inRange_any (n : Int) (w : World) (h0 : -9223372036854775808 ≤ n) (h1 : n ≤ 9223372036854775807) :
    Calls Try.prog 47 #[.int .i64 n] w fun e w' => e = .returned (.bool (inB n)) ∧ w = w' := by
  by_cases hn : n < 0
  · have HE : Hid (inB n = false) := decide_eq_false (by omega)
    go_enter Try.func47, Try.ntmps47
    go_wp2_with fail
    go_ret
    exact ⟨ret_bool HE.out.symm, rfl⟩
  · have hn' : 0 ≤ n := by omega
    clear hn
    by_cases hb : n ≤ 1152921504606846976
    · have HE : Hid (inB n = true) := decide_eq_true ⟨hn', hb⟩
      go_enter Try.func47, Try.ntmps47
      go_wp2_with fail
      go_ret
      exact ⟨ret_bool HE.out.symm, rfl⟩
    · have HE : Hid (inB n = false) := decide_eq_false (by omega)
      go_enter Try.func47, Try.ntmps47
      go_wp2_with fail
      go_ret
      exact ⟨ret_bool HE.out.symm, rfl⟩

set_option maxHeartbeats 400000 in
theorem appendNumber_any (w0 w : World) (A : Option Addr) (d : List UInt8) (n c m : Nat) (H : MadeN 5 w0 d A n c w) (hm : m ≤ 9223372036854775807) (hb : n ≤ 140737488355000) :
    Calls Try.prog 48 #[.slice A n c, .int .i64 (m : Int)] w fun e w' => ∃ A' n' c', e = .returned (.slice A' n' c') ∧ MadeN 5 w0 (d ++ putL m) A' n' c' w' ∧ n' ≤ n + 9 ∧ Grew w (.slice A n c) w' (.slice A' n' c') := by
  obtain ⟨i0, hi, hz0, hz1, hz2⟩ := info_parts info8p
  have HH := Lib.hid H
  have H9 := Lib.hid (putL_length9 hm)
  clear H
  go_enter Try.func48, Try.ntmps48
  go_wp2_with fail
  refine (put_made m _ hm).mono ?_
  rintro e w1 ⟨B, k, c1, rfl, hk⟩
  have HK := Lib.hid hk.1
  have HS := Lib.hid hk.seen
  have HH1 := Lib.hid (HH.out.below hk.2.2)
  have HB1 := Lib.hid hk.2.2
  have hk9 : k ≤ 9 := by have := H9.out; have := HK.out; omega
  clear hk
  obtain ⟨D, hD⟩ : ∃ D, D = d ++ putL m := ⟨_, rfl⟩
  obtain ⟨N, hN⟩ : ∃ N, N = n + k := ⟨_, rfl⟩
  have ED := Lib.hid hD
  have EN := Lib.hid hN
  clear hD hN
  go_wp2_with (at_builtin; refine wpList_append_by w1 rfl (.tmp 5) (.tmp 7) 22 rfl 5 i0 (.int .u8 0) Try.underlying22 hi hz0 hz1 hz2 rfl w0 A n c d B k c1 (putL m) D N rfl rfl HH1 HS HK ED EN (by omega) ?_)
  intro A2 c2 w2 H2 G2
  go_wp2_with fail
  go_ret
  exact ⟨A2, N, c2, rfl, by rw [← ED.out]; exact H2.out, by rw [EN.out]; omega, G2.out.after HB1.out⟩
end Go.Proofs.Ytkbjhnlihnakkaa
