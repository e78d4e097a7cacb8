/-
  The words of the hash, rotated and mixed: what the program's small functions, and the document's, come to. No conditions but that the words are of 32 bits.
-/
import Derived.Test.YtmmfnfndepijlaaDoorChecked
import Derived.Test.YtmmfnfndepijlaaDoorMem
namespace Go.Proofs.YtmmfnfndepijlaaDoor
open Go.RowKit

def rot (x k : Nat) : Nat := (x / 2 ^ k) ||| (x * 2 ^ (32 - k) % 4294967296)
def add32 (a b : Nat) : Nat := (a + b) % 4294967296
def xor3 (a b c : Nat) : Nat := (a ^^^ b) ^^^ c
def sg0 (x : Nat) : Nat := xor3 (rot x 7) (rot x 18) (x / 8)
def sg1 (x : Nat) : Nat := xor3 (rot x 17) (rot x 19) (x / 1024)
def bg0 (x : Nat) : Nat := xor3 (rot x 2) (rot x 13) (rot x 22)
def bg1 (x : Nat) : Nat := xor3 (rot x 6) (rot x 11) (rot x 25)
def choose (e f g : Nat) : Nat := (e &&& f) ^^^ ((4294967295 ^^^ e) &&& g)
def major (a b c : Nat) : Nat := xor3 (a &&& b) (a &&& c) (b &&& c)

theorem rot_lt {x : Nat} (k : Nat) (hx : x < 4294967296) : rot x k < 4294967296 := by
  unfold rot
  refine Nat.or_lt_two_pow (n := 32) (Nat.lt_of_le_of_lt (Nat.div_le_self _ _) hx) (Nat.mod_lt _ (by decide))
theorem add32_lt (a b : Nat) : add32 a b < 4294967296 := Nat.mod_lt _ (by decide)
theorem xor3_lt {a b c : Nat} (ha : a < 4294967296) (hb : b < 4294967296) (hc : c < 4294967296) : xor3 a b c < 4294967296 :=
  Nat.xor_lt_two_pow (n := 32) (Nat.xor_lt_two_pow (n := 32) ha hb) hc
theorem xor2_lt {a b : Nat} (ha : a < 4294967296) (hb : b < 4294967296) : a ^^^ b < 4294967296 := Nat.xor_lt_two_pow (n := 32) ha hb
theorem and2_lt {a : Nat} (b : Nat) (ha : a < 4294967296) : a &&& b < 4294967296 := Nat.lt_of_le_of_lt Nat.and_le_left ha
theorem sg0_lt {x : Nat} (h : x < 4294967296) : sg0 x < 4294967296 := xor3_lt (rot_lt _ h) (rot_lt _ h) (by omega)
theorem sg1_lt {x : Nat} (h : x < 4294967296) : sg1 x < 4294967296 := xor3_lt (rot_lt _ h) (rot_lt _ h) (by omega)
theorem bg0_lt {x : Nat} (h : x < 4294967296) : bg0 x < 4294967296 := xor3_lt (rot_lt _ h) (rot_lt _ h) (rot_lt _ h)
theorem bg1_lt {x : Nat} (h : x < 4294967296) : bg1 x < 4294967296 := xor3_lt (rot_lt _ h) (rot_lt _ h) (rot_lt _ h)
theorem choose_lt {e : Nat} (f g : Nat) (he : e < 4294967296) : choose e f g < 4294967296 :=
  xor2_lt (and2_lt _ he) (and2_lt _ (xor2_lt (by decide) he))
theorem major_lt {a b c : Nat} (ha : a < 4294967296) (hb : b < 4294967296) : major a b c < 4294967296 := xor3_lt (and2_lt _ ha) (and2_lt _ ha) (and2_lt _ hb)

theorem sum32 (a b : Nat) : ((a : Int) + (b : Int)) % 4294967296 = ((add32 a b : Nat) : Int) := by unfold add32; omega
theorem rot_bits (x k : Nat) (hx : x < 4294967296) : bits .or .u32 ((x : Int) / 2 ^ k) ((x : Int) * 2 ^ (32 - k) % 4294967296) = ((rot x k : Nat) : Int) := by
  have e1 : (x : Int) / 2 ^ k = ((x / 2 ^ k : Nat) : Int) := by push_cast; rfl
  have e2 : (x : Int) * 2 ^ (32 - k) % 4294967296 = ((x * 2 ^ (32 - k) % 4294967296 : Nat) : Int) := by
    rw [Int.natCast_emod, Int.natCast_mul, Int.natCast_pow]; rfl
  rw [e1, e2, u32_or_nat _ _ (Nat.lt_of_le_of_lt (Nat.div_le_self _ _) hx) (Nat.mod_lt _ (by decide))]
  rfl

/-- three words, each made by one rotation, and their exclusive or -/
theorem xor3_bits (a b c : Nat) (ha : a < 4294967296) (hb : b < 4294967296) (hc : c < 4294967296) :
    bits .xor .u32 (bits .xor .u32 (a : Int) (b : Int)) (c : Int) = ((xor3 a b c : Nat) : Int) := by
  rw [u32_xor_nat a b ha hb, u32_xor_nat _ c (xor2_lt ha hb) hc]; rfl

section
variable (x : Nat) (w : World) (hx : x < 4294967296)
include hx
theorem rotate_any (k : Nat) (h1 : 1 ≤ k) (h2 : k ≤ 31) :
    Calls Tryd.prog 37 #[.int .u32 (x : Int), .int .u64 (k : Int)] w fun e w' => e = .returned (.int .u32 (rot x k : Nat)) ∧ w = w' := by
  have e := Lib.hid (rot_bits x k hx)
  go_enter Tryd.func37, Tryd.ntmps37
  go_wp2
  go_ret
  exact ⟨ret_int e.out, rfl⟩
theorem turned_any (k : Nat) (h1 : 1 ≤ k) (h2 : k ≤ 31) :
    Calls Tryd.prog 31 #[.int .u32 (x : Int), .int .u64 (k : Int)] w fun e w' => e = .returned (.int .u32 (rot x k : Nat)) ∧ w = w' := by
  have e := Lib.hid (rot_bits x k hx)
  go_enter Tryd.func31, Tryd.ntmps31
  go_wp2
  go_ret
  exact ⟨ret_int e.out, rfl⟩

theorem bigOne_any : Calls Tryd.prog 33 #[.int .u32 (x : Int)] w fun e w' => e = .returned (.int .u32 (bg1 x : Nat)) ∧ w = w' := by
  have e := Lib.hid (xor3_bits (rot x 6) (rot x 11) (rot x 25) (rot_lt _ hx) (rot_lt _ hx) (rot_lt _ hx))
  go_enter Tryd.func33, Tryd.ntmps33
  go_wp2_with fail
  refine (rotate_any x _ hx 6 (by decide) (by decide)).mono ?_
  rintro e w' ⟨rfl, rfl⟩
  go_wp2_with fail
  refine (rotate_any x _ hx 11 (by decide) (by decide)).mono ?_
  rintro e w' ⟨rfl, rfl⟩
  go_wp2_with fail
  refine (rotate_any x _ hx 25 (by decide) (by decide)).mono ?_
  rintro e w' ⟨rfl, rfl⟩
  go_wp2_with fail
  go_ret
  exact ⟨ret_int e.out, rfl⟩
theorem bigZero_any : Calls Tryd.prog 34 #[.int .u32 (x : Int)] w fun e w' => e = .returned (.int .u32 (bg0 x : Nat)) ∧ w = w' := by
  have e := Lib.hid (xor3_bits (rot x 2) (rot x 13) (rot x 22) (rot_lt _ hx) (rot_lt _ hx) (rot_lt _ hx))
  go_enter Tryd.func34, Tryd.ntmps34
  go_wp2_with fail
  refine (rotate_any x _ hx 2 (by decide) (by decide)).mono ?_
  rintro e w' ⟨rfl, rfl⟩
  go_wp2_with fail
  refine (rotate_any x _ hx 13 (by decide) (by decide)).mono ?_
  rintro e w' ⟨rfl, rfl⟩
  go_wp2_with fail
  refine (rotate_any x _ hx 22 (by decide) (by decide)).mono ?_
  rintro e w' ⟨rfl, rfl⟩
  go_wp2_with fail
  go_ret
  exact ⟨ret_int e.out, rfl⟩
theorem smallOne_any : Calls Tryd.prog 35 #[.int .u32 (x : Int)] w fun e w' => e = .returned (.int .u32 (sg1 x : Nat)) ∧ w = w' := by
  have e := Lib.hid (xor3_bits (rot x 17) (rot x 19) (x / 1024) (rot_lt _ hx) (rot_lt _ hx) (by omega))
  go_enter Tryd.func35, Tryd.ntmps35
  go_wp2_with fail
  refine (rotate_any x _ hx 17 (by decide) (by decide)).mono ?_
  rintro e w' ⟨rfl, rfl⟩
  go_wp2_with fail
  refine (rotate_any x _ hx 19 (by decide) (by decide)).mono ?_
  rintro e w' ⟨rfl, rfl⟩
  go_wp2_with fail
  go_ret
  exact ⟨ret_int e.out, rfl⟩
theorem smallZero_any : Calls Tryd.prog 36 #[.int .u32 (x : Int)] w fun e w' => e = .returned (.int .u32 (sg0 x : Nat)) ∧ w = w' := by
  have e := Lib.hid (xor3_bits (rot x 7) (rot x 18) (x / 8) (rot_lt _ hx) (rot_lt _ hx) (by omega))
  go_enter Tryd.func36, Tryd.ntmps36
  go_wp2_with fail
  refine (rotate_any x _ hx 7 (by decide) (by decide)).mono ?_
  rintro e w' ⟨rfl, rfl⟩
  go_wp2_with fail
  refine (rotate_any x _ hx 18 (by decide) (by decide)).mono ?_
  rintro e w' ⟨rfl, rfl⟩
  go_wp2_with fail
  go_ret
  exact ⟨ret_int e.out, rfl⟩

/-! the same, as a region that draws its order takes them -/
theorem smallOne_still : Calls Tryd.prog 35 #[.int .u32 (x : Int)] w fun e w' => e = .returned (.int .u32 (sg1 x : Nat)) ∧ w' = w := (smallOne_any x w hx).mono fun _ _ h => ⟨h.1, h.2.symm⟩
theorem smallZero_still : Calls Tryd.prog 36 #[.int .u32 (x : Int)] w fun e w' => e = .returned (.int .u32 (sg0 x : Nat)) ∧ w' = w := (smallZero_any x w hx).mono fun _ _ h => ⟨h.1, h.2.symm⟩
theorem bigOne_still : Calls Tryd.prog 33 #[.int .u32 (x : Int)] w fun e w' => e = .returned (.int .u32 (bg1 x : Nat)) ∧ w' = w := (bigOne_any x w hx).mono fun _ _ h => ⟨h.1, h.2.symm⟩
theorem turned_still (k : Nat) (h1 : 1 ≤ k) (h2 : k ≤ 31) : Calls Tryd.prog 31 #[.int .u32 (x : Int), .int .u64 (k : Int)] w fun e w' => e = .returned (.int .u32 (rot x k : Nat)) ∧ w' = w := (turned_any x w hx k h1 h2).mono fun _ _ h => ⟨h.1, h.2.symm⟩
end
end Go.Proofs.YtmmfnfndepijlaaDoor
