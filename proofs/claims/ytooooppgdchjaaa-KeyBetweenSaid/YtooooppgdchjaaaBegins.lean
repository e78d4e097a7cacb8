/-
  What Begins comes to, the program's and the document's. Conditions: the capacity is no less than the length; the prefix is at most 2^47 bytes.
-/
import Derived.Test.YtooooppgdchjaaaDec
import Derived.Test.YtooooppgdchjaaaRow
import Derived.Test.YtooooppgdchjaaaKeyOrd
import Derived.Test.YtooooppgdchjaaaText
import Derived.BigQuiet
import Derived.Deep.QuietTactic
namespace Go.Proofs.Ytooooppgdchjaaa
open Go.RowKit

theorem Seen.first {w : World} {A : Option Addr} {l : List UInt8} (h : Seen w A l) (n : Nat) : Seen w A (l.take n) := by
  rcases h with rfl | ⟨b, off, rfl, hlt, hc⟩
  · exact .inl (by simp)
  · refine .inr ⟨b, off, rfl, hlt, fun j hj => ?_⟩
    rw [List.length_take] at hj
    rw [List.getElem_take]
    exact hc j (by omega)

set_option maxRecDepth 100000 in
set_option maxHeartbeats 400000 in
theorem bytesEqual_any (A : Option Addr) (a : List UInt8) (n c : Nat) (B : Option Addr) (b : List UInt8) (m d : Nat) (w : World) (hn : a.length = n) (hm : b.length = m) (hs : Seen w A a) (hs' : Seen w B b) :
    Calls Try.prog 27 #[.slice A n c, .slice B m d] w fun e w' => e = .returned (.bool (decide (a = b))) ∧ w = w' := by
  have u1 := text_on hs n c hn _ (Below.refl _ _)
  have u2 := text_on hs' m d hm _ (Below.refl _ _)
  have hq := text_beq a b
  clear hs hs' hn hm
  generalize (⟨a.toArray⟩ : ByteArray) = ta at *
  generalize (⟨b.toArray⟩ : ByteArray) = tb at *
  go_enter Try.func27, Try.ntmps27
  go_wp2_with fail
  go_ret
  exact ⟨by rw [← hq]; rfl, rfl⟩

theorem prefix_take (b p : List UInt8) : p <+: b ↔ b.take p.length = p := by
  constructor
  · rintro ⟨t, rfl⟩; simp
  · intro h; rw [← h]; exact List.take_prefix _ _

set_option maxRecDepth 100000 in
set_option maxHeartbeats 400000 in
theorem hasPrefix_any (A : Option Addr) (b : List UInt8) (n c : Nat) (B : Option Addr) (p : List UInt8) (m d : Nat) (w : World) (hn : b.length = n) (hm : p.length = m) (hs : Seen w A b) (hs' : Seen w B p) (hc : n ≤ c) (hm' : m ≤ 140737488355328) :
    Calls Try.prog 26 #[.slice A n c, .slice B m d] w fun e w' => e = .returned (.bool (decide (p <+: b))) ∧ w = w' := by
  by_cases hle : m ≤ n
  · have HE := Lib.hid (bytesEqual_any A (b.take m) m c B p m d w (by rw [List.length_take]; omega) hm (hs.first m) hs')
    have HV : Hid (decide (p <+: b) = decide (b.take m = p)) := by show _ = _; rw [decide_eq_decide, prefix_take, hm]
    rw [HV.out]
    clear HV
    generalize decide (b.take m = p) = v at *
    go_enter Try.func26, Try.ntmps26
    go_wp2_with fail
    refine HE.out.mono ?_
    rintro e w' ⟨rfl, rfl⟩
    go_wp2_with fail
    go_ret
    exact ⟨rfl, rfl⟩
  · have HV : Hid (decide (p <+: b) = false) := by
      show _ = _
      apply decide_eq_false
      intro h
      have := h.length_le
      omega
    rw [HV.out]
    go_enter Try.func26, Try.ntmps26
    go_wp2_with fail
    go_ret
    exact ⟨rfl, rfl⟩
theorem begins_any (A : Option Addr) (b : List UInt8) (n c : Nat) (B : Option Addr) (p : List UInt8) (m d : Nat) (w : World) (hn : b.length = n) (hm : p.length = m) (hs : Seen w A b) (hs' : Seen w B p) (hc : n ≤ c) (hm' : m ≤ 140737488355328) :
    Calls Try.prog 20 #[.slice A n c, .slice B m d] w fun e w' => e = .returned (.bool (decide (p <+: b))) ∧ w = w' := by
  have HE := Lib.hid (hasPrefix_any A b n c B p m d w hn hm hs hs' hc hm')
  generalize decide (p <+: b) = v at *
  go_enter Try.func20, Try.ntmps20
  go_wp2_with fail
  refine HE.out.mono ?_
  rintro e w' ⟨rfl, rfl⟩
  go_wp2_with fail
  go_ret
  exact ⟨rfl, rfl⟩
set_option maxRecDepth 100000 in
set_option maxHeartbeats 400000 in
theorem refBegins_any (A : Option Addr) (b : List UInt8) (n c : Nat) (B : Option Addr) (p : List UInt8) (m d : Nat) (w : World) (hn : b.length = n) (hm : p.length = m) (hs : Seen w A b) (hs' : Seen w B p) (hc : n ≤ c) (hm' : m ≤ 140737488355328) :
    Calls Try.prog 23 #[.slice A n c, .slice B m d] w fun e w' => e = .returned (.bool (decide (p <+: b))) ∧ Below w.heap.size w w' := by
  by_cases hle : m ≤ n
  · have hq := text_beq (b.take m) p
    have U1 := text_on (hs.first m) m c (by rw [List.length_take]; omega)
    have U2 := text_on hs' m d hm
    have HV : Hid (decide (p <+: b) = decide (b.take m = p)) := by show _ = _; rw [decide_eq_decide, prefix_take, hm]
    rw [HV.out]
    clear HV
    generalize (⟨(b.take m).toArray⟩ : ByteArray) = ta at *
    generalize (⟨p.toArray⟩ : ByteArray) = tb at *
    have bd : Below w.heap.size w w.drew := (Below.refl _ _).drew
    have u1 := U1 _ bd
    have u2 := U2 _ bd
    have hd : decide ((m : Int) ≤ (n : Int)) = true := by simp; omega
    clear hs hs'
    go_enter Try.func23, Try.ntmps23
    go_wp2_with fail
    go_region
    go_wp2_with fail
    go_ret
    exact ⟨by rw [← hq]; rfl, bd⟩
  · have HV : Hid (decide (p <+: b) = false) := by
      show _ = _
      apply decide_eq_false
      intro h
      have := h.length_le
      omega
    rw [HV.out]
    have bd : Below w.heap.size w w.drew := (Below.refl _ _).drew
    have hd : decide ((m : Int) ≤ (n : Int)) = false := by simp; omega
    go_enter Try.func23, Try.ntmps23
    go_wp2_with fail
    go_region
    go_wp2_with fail
    go_ret
    exact ⟨rfl, bd⟩
end Go.Proofs.Ytooooppgdchjaaa
