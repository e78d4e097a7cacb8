/-
  What the document's cut comes to. Condition: a string's length fits an int.
-/
import Derived.Test.YtnbghhdbpjgcjaaNmL
import Derived.Laws.DeepStrings4
import Derived.Deep.QuietTactic
import Derived.BigQuiet
import Derived.Test.YtnbghhdbpjgcjaaApp
namespace Go.Proofs.Ytnbghhdbpjgcjaa
open Go.RowKit

def CutTo (s : ByteArray) (c : UInt8) (k : Nat) : Prop := ∀ j (hj : j < k) (h : j < s.size), s[j] ≠ c
theorem CutTo.next {s : ByteArray} {c : UInt8} {k : Nat} (H : CutTo s c k) (h : k < s.size) (hc : s[k] ≠ c) : CutTo s c (k + 1) := by
  intro j hj h2
  by_cases hjk : j < k
  · exact H j hjk h2
  · obtain rfl : j = k := by omega
    exact hc
theorem CutTo.at_ {s : ByteArray} {c : UInt8} {k : Nat} (H : CutTo s c k) (h : k < s.size) (hc : s[k] = c) :
    cutL s.data.toList c = (s.data.toList.take k, s.data.toList.drop (k + 1), true) :=
  cutL_at _ c k (by simpa using h) hc (fun j hj => H j hj (by omega))
theorem CutTo.none {s : ByteArray} {c : UInt8} {k : Nat} (H : CutTo s c k) (h : ¬ k < s.size) : cutL s.data.toList c = (s.data.toList, [], false) :=
  cutL_none _ c (fun j hj => by have h2 : j < s.size := by simpa using hj
                                exact H j (by omega) h2)
theorem ahead_is (s : ByteArray) (k : Nat) : s.extract 0 k = ⟨(s.data.toList.take k).toArray⟩ := by rw [extract_list]; rfl
theorem behind_is (s : ByteArray) (k : Nat) : s.extract k s.size = ⟨(s.data.toList.drop k).toArray⟩ := by
  rw [extract_list, List.take_of_length_le (by simp)]
abbrev strV (l : List UInt8) : Value := .string ⟨l.toArray⟩
set_option maxHeartbeats 400000 in
theorem refCut_any (s : ByteArray) (c : UInt8) (w : World) (hm : s.size ≤ 9223372036854775807) :
    Calls Try.prog 36 #[.string s, .int .u8 (c.toNat : Int)] w fun e w' =>
      e = .returned (.tuple #[strV (cutL s.data.toList c).1, strV (cutL s.data.toList c).2.1, .bool (cutL s.data.toList c).2.2]) ∧ Below w.heap.size w w' := by
  go_enter Try.func36, Try.ntmps36
  go_wp2_with fail
  go_loop [7] (fun i => ∃ k : Nat, k ≤ s.size ∧ i = .int .i64 k ∧ Hid (CutTo s c k)) (fun i => s.size - (intOf i).toNat)
  case atStart => exact ⟨0, by omega, rfl, Lib.hid (fun j hj => absurd hj (by omega))⟩
  case round =>
    obtain ⟨k, hk, rfl, H⟩ := hrel
    by_cases hlt : k < s.size
    · have hx := s[k].toNat_lt
      by_cases hc : s[k] = c
      · have HG := Lib.hid (H.out.at_ hlt hc)
        have e1 : (s[k].toNat : Int) = (c.toNat : Int) := by rw [hc]
        clear hc
        go_wp2_with fail
        go_quiet (fail)
        go_wp2_with fail
        go_ret3
        refine ⟨?_, below_drewN (Below.refl _ _) _⟩
        rw [HG.out]
        show _ = Ending.returned (.tuple #[.string ⟨(s.data.toList.take k).toArray⟩, .string ⟨(s.data.toList.drop (k + 1)).toArray⟩, .bool true])
        rw [← ahead_is, ← behind_is]
        rfl
      · have HG := Lib.hid (H.out.next hlt hc)
        have e1 : ¬ (s[k].toNat : Int) = (c.toNat : Int) := fun h => hc (UInt8.toNat_inj.1 (by omega))
        clear hc
        go_wp2_with fail
        go_round
        case rel => exact ⟨k + 1, by omega, by go_num, HG⟩
        case measure => simp [intOf]; omega
    · have HG := Lib.hid (H.out.none hlt)
      go_wp2_with fail
      go_ret3
      refine ⟨?_, Below.refl _ _⟩
      rw [HG.out]
      show _ = Ending.returned (.tuple #[.string ⟨s.data.toList.toArray⟩, .string ⟨#[]⟩, .bool false])
      rw [← of_list s]
      rfl
end Go.Proofs.Ytnbghhdbpjgcjaa
