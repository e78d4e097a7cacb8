/-
  The code of bytes under a key as a Lean function, and what is plain of it. No program is named here.
-/
import Derived.Test.YtmmfnfndepijlaaDoorBlk
namespace Go.Proofs.YtmmfnfndepijlaaDoor
open Go.RowKit

/-- the key, or its hash -/
def keyL (k : List UInt8) : List UInt8 := if 64 < k.length then shaL k else k
/-- with noughts behind it, 64 bytes in all -/
def fillL (k : List UInt8) : List UInt8 := k ++ List.replicate (64 - k.length) 0
def xorL (m : UInt8) (l : List UInt8) : List UInt8 := l.map (· ^^^ m)
def macL (key b : List UInt8) : List UInt8 :=
  shaL (xorL 92 (fillL (keyL key)) ++ shaL (xorL 54 (fillL (keyL key)) ++ b))

theorem keyL_short (k : List UInt8) : (keyL k).length ≤ 64 := by
  unfold keyL; split
  · rw [length_shaL]; decide
  · omega
theorem length_fillL {k : List UInt8} (h : k.length ≤ 64) : (fillL k).length = 64 := by simp [fillL]; omega
theorem length_xorL (m : UInt8) (l : List UInt8) : (xorL m l).length = l.length := by simp [xorL]
theorem length_macL (key b : List UInt8) : (macL key b).length = 32 := length_shaL _
theorem xorL_append (m : UInt8) (a b : List UInt8) : xorL m (a ++ b) = xorL m a ++ xorL m b := by simp [xorL]
/-- noughts behind a key of at most 64 bytes together -/
theorem macL_noughts (k b : List UInt8) (n : Nat) (h : k.length + n ≤ 64) : macL (k ++ List.replicate n 0) b = macL k b := by
  have e : fillL (keyL (k ++ List.replicate n 0)) = fillL (keyL k) := by
    unfold keyL
    rw [if_neg (by simp; omega), if_neg (by omega)]
    unfold fillL
    rw [List.append_assoc, List.replicate_append_replicate, List.length_append, List.length_replicate]
    congr 2
    omega
  unfold macL
  rw [e]
/-- what the program's row holds behind k rounds -/
def maskedTo (m : UInt8) (l : List UInt8) (k : Nat) : List UInt8 := xorL m (l.take k) ++ l.drop k
theorem maskedTo_zero (m : UInt8) (l : List UInt8) : maskedTo m l 0 = l := by simp [maskedTo, xorL]
theorem maskedTo_all (m : UInt8) (l : List UInt8) : maskedTo m l l.length = xorL m l := by simp [maskedTo]
theorem length_maskedTo (m : UInt8) (l : List UInt8) (k : Nat) : (maskedTo m l k).length = l.length := by simp [maskedTo, xorL]; omega
theorem maskedTo_get (m : UInt8) (l : List UInt8) (k : Nat) (h : k < l.length) : (maskedTo m l k)[k]'(by rw [length_maskedTo]; exact h) = l[k] := by
  simp only [maskedTo]
  rw [List.getElem_append_right (by simp [xorL]; omega)]
  simp [xorL, Nat.min_eq_left (Nat.le_of_lt h)]
theorem maskedTo_next (m : UInt8) (l : List UInt8) (k : Nat) (h : k < l.length) : (maskedTo m l k).set k (l[k] ^^^ m) = maskedTo m l (k + 1) := by
  have hl : (xorL m (l.take k)).length = k := by simp [xorL]; omega
  unfold maskedTo
  rw [List.set_append_right _ _ (by omega), hl, Nat.sub_self, List.take_succ_eq_append_getElem h, xorL_append, List.append_assoc]
  congr 1
  rw [List.drop_eq_getElem_cons h]
  rfl

set_option maxRecDepth 100000 in
theorem mac_jefe : macL [74, 101, 102, 101] [119, 104, 97, 116, 32, 100, 111, 32, 121, 97, 32, 119, 97, 110, 116, 32, 102, 111, 114, 32, 110, 111, 116, 104, 105, 110, 103, 63] = [91, 220, 193, 70, 191, 96, 117, 78, 106, 4, 36, 38, 8, 149, 117, 199, 90, 0, 63, 8, 157, 39, 57, 131, 157, 236, 88, 185, 100, 236, 56, 67] := by
  decide +kernel
end Go.Proofs.YtmmfnfndepijlaaDoor
