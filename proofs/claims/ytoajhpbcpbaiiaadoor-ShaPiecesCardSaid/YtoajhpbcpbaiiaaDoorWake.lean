/-
  The chapter's two examples are answered. Condition: the program's tables lie as their initialisers lay them.
-/
import Derived.Test.YtoajhpbcpbaiiaaDoorSumState
import Derived.Test.YtoajhpbcpbaiiaaDoorRefHex
import Derived.Lib.SlBytesConst
namespace Go.Proofs.YtoajhpbcpbaiiaaDoor
open Go.RowKit

def text0 : ByteArray := ⟨#[101, 51, 98, 48, 99, 52, 52, 50, 57, 56, 102, 99, 49, 99, 49, 52, 57, 97, 102, 98, 102, 52, 99, 56, 57, 57, 54, 102, 98, 57, 50, 52, 50, 55, 97, 101, 52, 49, 101, 52, 54, 52, 57, 98, 57, 51, 52, 99, 97, 52, 57, 53, 57, 57, 49, 98, 55, 56, 53, 50, 98, 56, 53, 53]⟩
def textA : ByteArray := ⟨#[98, 97, 55, 56, 49, 54, 98, 102, 56, 102, 48, 49, 99, 102, 101, 97, 52, 49, 52, 49, 52, 48, 100, 101, 53, 100, 97, 101, 50, 50, 50, 51, 98, 48, 48, 51, 54, 49, 97, 51, 57, 54, 49, 55, 55, 97, 57, 99, 98, 52, 49, 48, 102, 102, 54, 49, 102, 50, 48, 48, 49, 53, 97, 100]⟩
theorem hex_none : (⟨(hexL (shaL [])).toArray⟩ : ByteArray) = text0 := by rw [sha_none]; rfl
theorem hex_abc : (⟨(hexL (shaL [97, 98, 99])).toArray⟩ : ByteArray) = textA := by rw [sha_abc]; rfl
theorem same0 : (text0.toList == [101, 51, 98, 48, 99, 52, 52, 50, 57, 56, 102, 99, 49, 99, 49, 52, 57, 97, 102, 98, 102, 52, 99, 56, 57, 57, 54, 102, 98, 57, 50, 52, 50, 55, 97, 101, 52, 49, 101, 52, 54, 52, 57, 98, 57, 51, 52, 99, 97, 52, 57, 53, 57, 57, 49, 98, 55, 56, 53, 50, 98, 56, 53, 53]) = true := by simp [text0, go_sem]
theorem sameA : (textA.toList == [98, 97, 55, 56, 49, 54, 98, 102, 56, 102, 48, 49, 99, 102, 101, 97, 52, 49, 52, 49, 52, 48, 100, 101, 53, 100, 97, 101, 50, 50, 50, 51, 98, 48, 48, 51, 54, 49, 97, 51, 57, 54, 49, 55, 55, 97, 57, 99, 98, 52, 49, 48, 102, 102, 54, 49, 102, 50, 48, 48, 49, 53, 97, 100]) = true := by simp [textA, go_sem]
theorem seen_mark (w : World) (e : TypeId) (l : List UInt8) (fr : Nat × Nat) : Seen (w.alloc (.cells (l.map bv).toArray e fr)) (some ⟨w.heap.size, 0, none⟩) l :=
  .inr ⟨w.heap.size, 0, rfl, by simp, fun j hj => by
    have h : (w.alloc (.cells (l.map bv).toArray e fr)).heap[w.heap.size]? = some (.cells (l.map bv).toArray e fr) := by
      show (w.heap.push _)[w.heap.size]? = _
      simp
    simp only [World.cell?, h, Nat.zero_add]
    simp [hj, bv]⟩

/-- Hex(sha.Sum(..)), one example -/
theorem refHex_32 (A : Option Addr) (l : List UInt8) (c : Nat) (w : World) (h32 : l.length = 32) (t : ByteArray) (ht : (⟨(hexL l).toArray⟩ : ByteArray) = t) (hs : Seen w A l) :
    Calls Tryd.prog 20 #[.slice A 32 c] w fun e w' => e = .returned (.string t) ∧ Below w.heap.size w w' := by
  rw [← h32, ← ht]
  exact refHex_any A l c w (by omega) hs

set_option maxRecDepth 100000 in
set_option maxHeartbeats 1000000 in
theorem awake_any (w : World) (ht : Tabs w) :
    Calls Tryd.prog 7 #[] w fun e w' => e = .returned (.bool true) ∧ Below w.heap.size w w' := by
  have hcc := fun (w : World) (C : Array Value) (n c : Nat) => Lib.run_convert_bytes_const (P := Tryd.prog) w 28 5 C n c Tryd.underlying28 Tryd.underlying5
  have HT := Lib.hid ht
  clear ht
  go_enter Tryd.func7, Tryd.ntmps7
  go_wp2_with fail
  refine (sum_any _ none [] 0 (Seen.nil _ _) (Nat.le_refl _) (by simp) HT.out).mono ?_
  rintro e w1 ⟨A1, rfl, hs1, hb1⟩
  have B1 := Lib.hid hb1
  have S1 := Lib.hid hs1
  clear hb1 hs1
  go_wp2_with fail
  refine (refHex_32 A1 _ 32 _ (length_shaL _) text0 hex_none S1.out).mono ?_
  rintro e w2 ⟨rfl, hb2⟩
  have B2 := Lib.hid (hop B1.out hb2)
  clear hb2
  have t0 := same0
  go_wp2_with fail
  refine (sum_any _ _ [97, 98, 99] 3 (seen_mark w2 5 [97, 98, 99] (3, 4)) (Nat.le_refl _) (by simp) (HT.out.below (hop B2.out ((Below.refl _ _).alloc (Nat.le_refl _) _)))).mono ?_
  rintro e w3 ⟨A3, rfl, hs3, hb3⟩
  have B3 := Lib.hid (hop (hop B2.out ((Below.refl _ _).alloc (Nat.le_refl _) _)) hb3)
  have S3 := Lib.hid hs3
  clear hb3 hs3
  go_wp2_with fail
  refine (refHex_32 A3 _ 32 _ (length_shaL _) textA hex_abc S3.out).mono ?_
  rintro e w4 ⟨rfl, hb4⟩
  have B4 := Lib.hid (hop B3.out hb4)
  clear hb4 t0
  have t1 := sameA
  go_wp2_with fail
  go_ret
  exact ⟨rfl, B4.out⟩
end Go.Proofs.YtoajhpbcpbaiiaaDoor
