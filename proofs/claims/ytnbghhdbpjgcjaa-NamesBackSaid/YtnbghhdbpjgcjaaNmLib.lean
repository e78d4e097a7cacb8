/-
  What strings.Cut at a sign of one byte, and strings.Clone, come to over this program. Conditions: a string's length fits an int; a string that is cloned has at most 2^48 bytes.
-/
import Derived.Test.YtnbghhdbpjgcjaaNmObj
import Derived.Test.YtnbghhdbpjgcjaaShelf
import Derived.Lib.Bytealg
import Derived.Deep.QuietTactic
import Derived.BigQuiet
namespace Go.Proofs.Ytnbghhdbpjgcjaa
open Go.RowKit

theorem index_cut (l : Txt) (c : UInt8) : (Lib.indexByte l c = -1 ∧ cutL l c = (l, [], false)) ∨ ∃ k : Nat, k < l.length ∧ Lib.indexByte l c = (k : Int) ∧ cutL l c = (l.take k, l.drop (k + 1), true) := by
  induction l with
  | nil => exact .inl ⟨rfl, rfl⟩
  | cons x r ih =>
    unfold Lib.indexByte cutL
    by_cases hx : x = c
    · subst hx
      exact .inr ⟨0, by simp, by simp, by simp⟩
    · rw [if_neg (by simpa using hx), if_neg hx]
      rcases ih with ⟨h1, h2⟩ | ⟨k, hk, h1, h2⟩
      · rw [h1, h2]; exact .inl ⟨by simp, rfl⟩
      · rw [h1, h2]
        refine .inr ⟨k + 1, by simpa using hk, ?_, by simp⟩
        have : ((k : Int) == -1) = false := beq_eq_false_iff_ne.2 (by omega)
        rw [this]; simp
set_option maxHeartbeats 400000 in
theorem slcut_of (s : ByteArray) (c : UInt8) (w : World) (hm : s.size ≤ 9223372036854775807) :
    Calls Try.prog 39 #[.string s, .string ⟨#[c]⟩] w fun e w' =>
      e = .returned (.tuple #[strV (cutL s.data.toList c).1, strV (cutL s.data.toList c).2.1, .bool (cutL s.data.toList c).2.2]) ∧ Below w.heap.size w w' := by
  have hI := fun W => Try.stringslite_Index_one s c W
  rcases index_cut s.data.toList c with ⟨h1, h2⟩ | ⟨k, hk, h1, h2⟩
  · rw [h1] at hI
    have HI := Lib.hid hI
    have H2 := Lib.hid h2
    clear hI h1 h2
    go_enter Try.func39, Try.ntmps39
    go_wp2_with (go_at_call 42; with_reducible refine (HI.out _).mono ?_; rintro e w1 ⟨rfl, rfl⟩)
    go_ret3
    refine ⟨?_, Below.refl _ _⟩
    rw [H2.out]
    show _ = Ending.returned (.tuple #[.string ⟨s.data.toList.toArray⟩, .string ⟨#[]⟩, .bool false])
    rw [← of_list s]
    rfl
  · rw [size_list] at hk
    rw [h1] at hI
    have HI := Lib.hid hI
    have H2 := Lib.hid h2
    clear hI h1 h2
    go_enter Try.func39, Try.ntmps39
    go_wp2_with (go_at_call 42; with_reducible refine (HI.out _).mono ?_; rintro e w1 ⟨rfl, rfl⟩)
    go_quiet (fail)
    go_wp2_with fail
    go_ret3
    refine ⟨?_, below_drewN (Below.refl _ _) _⟩
    rw [H2.out]
    show _ = Ending.returned (.tuple #[.string ⟨(s.data.toList.take k).toArray⟩, .string ⟨(s.data.toList.drop (k + 1)).toArray⟩, .bool true])
    rw [← ahead_is, ← behind_is]
    rfl
theorem cut_any (l : Txt) (c : UInt8) (w : World) (hm : l.length ≤ 9223372036854775807) :
    Calls Try.prog 34 #[strV l, .string ⟨#[c]⟩] w fun e w' =>
      e = .returned (.tuple #[strV (cutL l c).1, strV (cutL l c).2.1, .bool (cutL l c).2.2]) ∧ Below w.heap.size w w' := by
  have hC := fun W => slcut_of ⟨l.toArray⟩ c W (by simpa [ByteArray.size] using hm)
  dsimp only at hC
  generalize (cutL l c).1 = a at *
  generalize (cutL l c).2.1 = b at *
  generalize (cutL l c).2.2 = d at *
  have HC := Lib.hid hC
  clear hC
  go_enter Try.func34, Try.ntmps34
  go_wp2_with (go_at_call 39; with_reducible refine (HC.out _).mono ?_; rintro e w1 ⟨rfl, hb1⟩)
  go_ret3
  exact ⟨rfl, hb1⟩
theorem clone_any (l : Txt) (w : World) (hm : l.length ≤ 281474976710656) :
    Calls Try.prog 35 #[strV l] w fun e w' => e = .returned (strV l) ∧ Below w.heap.size w w' := by
  have hC := fun W => Try.stringslite_Clone ⟨l.toArray⟩ W (by simpa [ByteArray.size] using hm)
  have HC := Lib.hid hC
  clear hC
  go_enter Try.func35, Try.ntmps35
  go_wp2_with (go_at_call 40; with_reducible refine (HC.out _).mono ?_; rintro e w1 ⟨rfl, hb1⟩)
  go_ret
  exact ⟨rfl, hb1⟩
end Go.Proofs.Ytnbghhdbpjgcjaa
