/-
  What the program's checksum, and the document's, come to: one Lean function of the bytes. No conditions beyond how the bytes lie in memory.
-/
import Derived.Test.YtkbjhnlihnakkaaChecked
import Derived.Test.YtkbjhnlihnakkaaMem
namespace Go.Proofs.Ytkbjhnlihnakkaa
open Go.RowKit

def crcStep (x : Nat) : Nat := if x % 2 = 1 then (x / 2) ^^^ 3988292384 else x / 2
def crcK (x : Nat) : Nat → Nat
  | 0 => x
  | k + 1 => crcStep (crcK x k)
def crcL : List UInt8 → Nat → Nat
  | [], x => x
  | c :: r, x => crcL r (crcK (x ^^^ c.toNat) 8)
def crcOf (l : List UInt8) : Nat := crcL l 4294967295 ^^^ 4294967295

theorem crcStep_lt {x : Nat} (h : x < 4294967296) : crcStep x < 4294967296 := by
  unfold crcStep
  split
  · exact Nat.xor_lt_two_pow (n := 32) (by omega) (by omega)
  · omega
theorem crcK_lt {x : Nat} (h : x < 4294967296) : ∀ k, crcK x k < 4294967296
  | 0 => h
  | k + 1 => crcStep_lt (crcK_lt h k)
theorem crcL_snoc (l : List UInt8) (c : UInt8) : ∀ x, crcL (l ++ [c]) x = crcK (crcL l x ^^^ c.toNat) 8 := by
  induction l with
  | nil => intro x; rfl
  | cons d r ih => intro x; simp only [List.cons_append, crcL]; exact ih _
theorem xor_byte_lt {x : Nat} (h : x < 4294967296) (c : UInt8) : x ^^^ c.toNat < 4294967296 :=
  Nat.xor_lt_two_pow (n := 32) (by omega) (by have := c.toNat_lt; omega)
theorem crcL_lt (l : List UInt8) : ∀ x, x < 4294967296 → crcL l x < 4294967296 := by
  induction l with
  | nil => intro x h; exact h
  | cons d r ih => intro x h; exact ih _ (crcK_lt (xor_byte_lt h d) 8)
theorem take_more (l : List UInt8) (k : Nat) (h : k < l.length) : l.take (k + 1) = l.take k ++ [l[k]] := by
  rw [List.take_succ_eq_append_getElem h]

set_option maxHeartbeats 400000 in
theorem crcByte_any (x : Nat) (hx : x < 4294967296) (w : World) :
    Calls Try.prog 66 #[.int .u32 (x : Int)] w fun e w' =>
      e = .returned (.int .u32 (crcK x 8 : Nat)) ∧ w = w' := by
  go_enter Try.func66, Try.ntmps66
  go_wp2
  go_loop [0, 4] (fun s i => ∃ k y : Nat, k ≤ 8 ∧ i = .int .i64 k ∧ y < 4294967296 ∧ s = .int .u32 y ∧ Hid (y = crcK x k)) (fun _ i => 8 - (intOf i).toNat)
  case atStart => exact ⟨0, x, by omega, rfl, hx, rfl, rfl⟩
  case round =>
    obtain ⟨k, y, hk, rfl, hy, rfl, H⟩ := hrel
    have hn : Hid (crcK x (k + 1) = crcStep y) := by show crcStep (crcK x k) = _; rw [H.out]
    by_cases hlt : k < 8
    · have e1 : bits .and .u32 (y : Int) 1 = ((y % 2 : Nat) : Int) := by
        rw [show (1 : Int) = ((1 : Nat) : Int) from rfl, u32_and_nat y 1 hy (by omega), nat_mask1]
      have e2 : bits .xor .u32 ((y : Int) / 2) 3988292384 = (((y / 2) ^^^ 3988292384 : Nat) : Int) := by
        rw [show (3988292384 : Int) = ((3988292384 : Nat) : Int) from rfl, show (y : Int) / 2 = ((y / 2 : Nat) : Int) from by omega, u32_xor_nat (y / 2) 3988292384 (by omega) (by omega)]
      by_cases ho : y % 2 = 1
      · have t1 : (((y % 2 : Nat) : Int) == 1) = true := by rw [ho]; rfl
        go_wp2
        go_round
        case rel => exact ⟨k + 1, crcStep y, by omega, by go_num, crcStep_lt hy, by rw [crcStep, if_pos ho], hn.out.symm⟩
        case measure => simp [intOf]; omega
      · have t1 : (((y % 2 : Nat) : Int) == 1) = false := by rw [show y % 2 = 0 by omega]; rfl
        go_wp2
        go_round
        case rel => exact ⟨k + 1, crcStep y, by omega, by go_num, crcStep_lt hy, by rw [crcStep, if_neg ho]; go_num, hn.out.symm⟩
        case measure => simp [intOf]; omega
    · go_wp2
      go_ret
      exact ⟨ret_int (by rw [H.out, show k = 8 by omega]), rfl⟩

set_option maxHeartbeats 400000 in
theorem crc_any (A : Option Addr) (l : List UInt8) (c : Nat) (w : World) (hl : l.length ≤ 9223372036854775807) (hs : Seen w A l) :
    Calls Try.prog 50 #[.slice A l.length c] w fun e w' =>
      e = .returned (.int .u32 (crcOf l : Nat)) ∧ w = w' := by
  have HS := Lib.hid hs
  clear hs
  go_enter Try.func50, Try.ntmps50
  go_wp2
  go_loop [3, 8] (fun s i => ∃ k y : Nat, k ≤ l.length ∧ i = .int .i64 k ∧ y < 4294967296 ∧ s = .int .u32 y ∧ Hid (y = crcL (l.take k) 4294967295)) (fun _ i => l.length - (intOf i).toNat)
  case atStart => exact ⟨0, 4294967295, by omega, rfl, by omega, rfl, rfl⟩
  case round =>
    obtain ⟨k, y, hk, rfl, hy, rfl, H⟩ := hrel
    by_cases hlt : k < l.length
    · obtain ⟨b, off, rfl, hb, hc⟩ := HS.out.at_ hlt
      have hn : Hid (crcL (l.take (k + 1)) 4294967295 = crcK (y ^^^ l[k].toNat) 8) := by
        rw [take_more l k hlt]; show _ = _; rw [crcL_snoc, H.out]
      have hx := xor_byte_lt hy l[k]
      have h8 := l[k].toNat_lt
      generalize l[k].toNat = x at *
      have e2 : bits .xor .u32 (y : Int) (x : Int) = ((y ^^^ x : Nat) : Int) := u32_xor_nat y x hy (by omega)
      go_wp2_with fail
      refine (crcByte_any (y ^^^ x) hx _).mono ?_
      rintro e w' ⟨rfl, rfl⟩
      go_wp2_with fail
      go_round
      case rel => exact ⟨k + 1, _, by omega, by go_num, crcK_lt hx 8, rfl, hn.out.symm⟩
      case measure => simp [intOf]; omega
    · have hk' : l.take k = l := List.take_of_length_le (by omega)
      have hn : Hid (bits .xor .u32 IntKind.u32.max (y : Int) = ((crcOf l : Nat) : Int)) := by
        show _ = _
        rw [show IntKind.u32.max = ((4294967295 : Nat) : Int) from by decide, u32_xor_nat 4294967295 y (by omega) hy, crcOf, Nat.xor_comm, H.out, hk']
      clear hk'
      go_wp2_with fail
      go_ret
      exact ⟨ret_int hn.out, rfl⟩

set_option maxHeartbeats 400000 in
theorem refCrc_any (A : Option Addr) (l : List UInt8) (c : Nat) (w : World) (hl : l.length ≤ 9223372036854775807) (hs : Seen w A l) :
    Calls Try.prog 79 #[.slice A l.length c] w fun e w' =>
      e = .returned (.int .u32 (crcOf l : Nat)) ∧ w = w' := by
  have HS := Lib.hid hs
  clear hs
  go_enter Try.func79, Try.ntmps79
  go_wp2
  go_loop [3, 4] (fun s i => ∃ k y : Nat, k ≤ l.length ∧ i = .int .i64 k ∧ y < 4294967296 ∧ s = .int .u32 y ∧ Hid (y = crcL (l.take k) 4294967295)) (fun _ i => l.length - (intOf i).toNat)
  case atStart => exact ⟨0, 4294967295, by omega, rfl, by omega, rfl, rfl⟩
  case round =>
    obtain ⟨k, y, hk, rfl, hy, rfl, H⟩ := hrel
    by_cases hlt : k < l.length
    · obtain ⟨b, off, rfl, hb, hc⟩ := HS.out.at_ hlt
      have hn : Hid (crcL (l.take (k + 1)) 4294967295 = crcK (y ^^^ l[k].toNat) 8) := by
        rw [take_more l k hlt]; show _ = _; rw [crcL_snoc, H.out]
      have hx := xor_byte_lt hy l[k]
      have h8 := l[k].toNat_lt
      generalize l[k].toNat = x at *
      have e2 : bits .xor .u32 (y : Int) (x : Int) = ((y ^^^ x : Nat) : Int) := u32_xor_nat y x hy (by omega)
      generalize y ^^^ x = z at *
      go_wp2_with fail
      go_loop [3, 5] (fun s i => ∃ j y : Nat, j ≤ 8 ∧ i = .int .i64 j ∧ y < 4294967296 ∧ s = .int .u32 y ∧ Hid (y = crcK z j)) (fun _ i => 8 - (intOf i).toNat)
      case atStart => exact ⟨0, z, by omega, rfl, hx, rfl, rfl⟩
      case round =>
        obtain ⟨j, u, hj, rfl, hu, rfl, H2⟩ := hrel
        have hn2 : Hid (crcK z (j + 1) = crcStep u) := by show crcStep (crcK z j) = _; rw [H2.out]
        by_cases hlt2 : j < 8
        · have e3 : bits .xor .u32 ((u : Int) / 2) 3988292384 = (((u / 2) ^^^ 3988292384 : Nat) : Int) := by
            rw [show (3988292384 : Int) = ((3988292384 : Nat) : Int) from rfl, show (u : Int) / 2 = ((u / 2 : Nat) : Int) from by omega, u32_xor_nat (u / 2) 3988292384 (by omega) (by omega)]
          by_cases ho : u % 2 = 1
          · have t1 : ((u : Int) % 2 == 1) = true := by simp; omega
            go_wp2_with fail
            go_round
            case rel => exact ⟨j + 1, crcStep u, by omega, by go_num, crcStep_lt hu, by rw [crcStep, if_pos ho], hn2.out.symm⟩
            case measure => simp [intOf]; omega
          · have t1 : ((u : Int) % 2 == 1) = false := by simp; omega
            go_wp2_with fail
            go_round
            case rel => exact ⟨j + 1, crcStep u, by omega, by go_num, crcStep_lt hu, by rw [crcStep, if_neg ho]; go_num, hn2.out.symm⟩
            case measure => simp [intOf]; omega
        · have hn3 : Hid (crcL (l.take (k + 1)) 4294967295 = u) := by show _ = _; rw [hn.out, H2.out, show j = 8 by omega]
          go_wp2_with fail
          go_round
          case rel => exact ⟨k + 1, _, by omega, by go_num, hu, rfl, hn3.out.symm⟩
          case measure => simp [intOf]; omega
    · have hk' : l.take k = l := List.take_of_length_le (by omega)
      have hn : Hid (bits .xor .u32 (y : Int) 4294967295 = ((crcOf l : Nat) : Int)) := by
        show _ = _
        rw [show (4294967295 : Int) = ((4294967295 : Nat) : Int) from rfl, u32_xor_nat y 4294967295 hy (by omega), crcOf, H.out, hk']
      clear hk'
      go_wp2_with fail
      go_ret
      exact ⟨ret_int hn.out, rfl⟩
end Go.Proofs.Ytkbjhnlihnakkaa
