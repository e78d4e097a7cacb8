/-
  The chapter's example is answered. Condition: the program's tables lie as their initialisers lay them.
-/
import Derived.Test.YtmmfnfndepijlaaDoorEqual
import Derived.Test.YtmmfnfndepijlaaDoorRefHex
import Derived.Lib.SlBytesConst
namespace Go.Proofs.YtmmfnfndepijlaaDoor
open Go.RowKit

def textJ : ByteArray := ⟨#[53, 98, 100, 99, 99, 49, 52, 54, 98, 102, 54, 48, 55, 53, 52, 101, 54, 97, 48, 52, 50, 52, 50, 54, 48, 56, 57, 53, 55, 53, 99, 55, 53, 97, 48, 48, 51, 102, 48, 56, 57, 100, 50, 55, 51, 57, 56, 51, 57, 100, 101, 99, 53, 56, 98, 57, 54, 52, 101, 99, 51, 56, 52, 51]⟩
def jefe : List UInt8 := [74, 101, 102, 101]
def whatDo : List UInt8 := [119, 104, 97, 116, 32, 100, 111, 32, 121, 97, 32, 119, 97, 110, 116, 32, 102, 111, 114, 32, 110, 111, 116, 104, 105, 110, 103, 63]
theorem hex_jefe : (⟨(hexL (macL jefe whatDo)).toArray⟩ : ByteArray) = textJ := by
  rw [show macL jefe whatDo = _ from mac_jefe]; rfl
theorem sameJ : (textJ.toList == [53, 98, 100, 99, 99, 49, 52, 54, 98, 102, 54, 48, 55, 53, 52, 101, 54, 97, 48, 52, 50, 52, 50, 54, 48, 56, 57, 53, 55, 53, 99, 55, 53, 97, 48, 48, 51, 102, 48, 56, 57, 100, 50, 55, 51, 57, 56, 51, 57, 100, 101, 99, 53, 56, 98, 57, 54, 52, 101, 99, 51, 56, 52, 51]) = true := by simp [textJ, go_sem]
theorem seen_mark (w : World) (e : TypeId) (l : List UInt8) (fr : Nat × Nat) : Seen (w.alloc (.cells (l.map bv).toArray e fr)) (some ⟨w.heap.size, 0, none⟩) l :=
  .inr ⟨w.heap.size, 0, rfl, by simp, fun j hj => by
    have h : (w.alloc (.cells (l.map bv).toArray e fr)).heap[w.heap.size]? = some (.cells (l.map bv).toArray e fr) := by
      show (w.heap.push _)[w.heap.size]? = _
      simp
    simp only [World.cell?, h, Nat.zero_add]
    simp [hj, bv]⟩
/-- Hex of 32 bytes that are known -/
theorem refHex_32 (A : Option Addr) (l : List UInt8) (c : Nat) (w : World) (h32 : l.length = 32) (t : ByteArray) (ht : (⟨(hexL l).toArray⟩ : ByteArray) = t) (hs : Seen w A l) :
    Calls Tryd.prog 13 #[.slice A 32 c] w fun e w' => e = .returned (.string t) ∧ Below w.heap.size w w' := by
  rw [← h32, ← ht]
  exact refHex_any A l c w (by omega) hs

/-- two rows of one byte each -/
theorem equal_ones (w : World) (x y : UInt8) (v : Bool) (hv : decide ([x] = [y]) = v) (W : World) (hW : W = ((w.alloc (.cells ([x].map bv).toArray 5)).alloc (.cells ([y].map bv).toArray 5))) :
    Calls Tryd.prog 10 #[.slice (some ⟨w.heap.size, 0, none⟩) 1 1, .slice (some ⟨w.heap.size + 1, 0, none⟩) 1 1] W fun e w' => e = .returned (.bool v) ∧ Below w.heap.size w w' := by
  subst hv hW
  have S1 := (seen_mark w 5 [x] (0, 0)).alloc (.cells ([y].map bv).toArray 5)
  have S2 := seen_mark (w.alloc (.cells ([x].map bv).toArray 5)) 5 [y] (0, 0)
  rw [show (w.alloc (.cells ([x].map bv).toArray 5)).heap.size = w.heap.size + 1 by simp] at S2
  refine (equal_any _ [x] 1 _ [y] 1 _ S1 S2 (by simp) (by simp)).mono ?_
  rintro e w' ⟨rfl, hb⟩
  exact ⟨rfl, hop (((Below.refl w.heap.size w).alloc (Nat.le_refl _) _).alloc (by simp) _) hb⟩

set_option maxRecDepth 100000 in
set_option maxHeartbeats 1000000 in
theorem awake_any (w : World) (ht : Tabs w) :
    Calls Tryd.prog 7 #[] w fun e w' => e = .returned (.bool true) ∧ Below w.heap.size w w' := by
  have hcc := fun (w : World) (C : Array Value) (n c : Nat) => Lib.run_convert_bytes_const (P := Tryd.prog) w 22 5 C n c Tryd.underlying22 Tryd.underlying5
  have HT := Lib.hid ht
  clear ht
  go_enter Tryd.func7, Tryd.ntmps7
  have hc2 : ∀ (O : Obj) (C : Array Value) (n c : Nat), (convert 22 22 (.slice (some ⟨w.heap.size + 1, 0, none⟩) n c)).run Tryd.prog ((w.alloc O).alloc (.cells C 5)) = .ok (.slice (some ⟨w.heap.size + 1, 0, none⟩) n c) ((w.alloc O).alloc (.cells C 5 (C.size, C.size + 1))) := by
    intro O C n c
    have := hcc (w.alloc O) C n c
    simpa using this
  go_wp2_with fail
  have S2 : Seen ((w.alloc (.cells (jefe.map bv).toArray 5 (4, 5))).alloc (.cells (whatDo.map bv).toArray 5 (28, 29))) (some ⟨w.heap.size + 1, 0, none⟩) whatDo := by
    have := seen_mark (w.alloc (.cells (jefe.map bv).toArray 5 (4, 5))) 5 whatDo (28, 29)
    simpa using this
  refine (mac_any _ jefe 4 _ whatDo 28 _ ((seen_mark w 5 jefe (4, 5)).alloc _) (Nat.le_refl _) (by simp [jefe]) S2 (Nat.le_refl _) (by simp [whatDo]) (HT.out.below (((Below.refl _ _).alloc (Nat.le_refl _) _).alloc (by simp) _))).mono ?_
  rintro e w3 ⟨A3, rfl, hs3, hb3⟩
  have B3 : Hid (Below w.heap.size w w3) := hop (((Below.refl _ _).alloc (Nat.le_refl _) _).alloc (by simp) _) hb3
  have S3 := Lib.hid hs3
  clear hb3 hs3 S2 hc2
  go_wp2_with fail
  refine (refHex_32 A3 _ 32 _ (length_macL _ _) textJ hex_jefe S3.out).mono ?_
  rintro e w4 ⟨rfl, hb4⟩
  have B4 := Lib.hid (hop B3.out hb4)
  clear hb4 S3 B3
  have t1 := sameJ
  go_wp2_with fail
  refine (equal_ones w4 1 1 true (by decide) _ rfl).mono ?_
  rintro e w5 ⟨rfl, hb5⟩
  have B5 := Lib.hid (hop B4.out hb5)
  clear hb5 B4 t1
  go_wp2_with fail
  refine (equal_ones w5 1 2 false (by decide) _ rfl).mono ?_
  rintro e w6 ⟨rfl, hb6⟩
  have B6 := Lib.hid (hop B5.out hb6)
  clear hb6 B5
  go_wp2_with fail
  go_ret
  exact ⟨rfl, B6.out⟩
end Go.Proofs.YtmmfnfndepijlaaDoor
