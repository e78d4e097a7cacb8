/-
  NamesAre answers true: any text is a name, or a thing's own name, or not, as the document says. Condition: a string's length fits an int.
-/
import Derived.Test.YtnbghhdbpjgcjaaNmAwake
namespace Go.Proofs.Ytnbghhdbpjgcjaa
open Go.RowKit

set_option maxHeartbeats 800000 in
theorem namesAre_txt (l : Txt) (w : World) (hm : l.length ≤ 9223372036854775807) : Calls Try.prog 3 #[strV l] w fun e w' => e = .returned (.bool true) ∧ Below w.heap.size w w' := by
  have hN := fun W => name_any l W hm
  have hI := fun W => nid_any l W hm
  have hRN := fun W => refName_txt l W hm
  have hRI := fun W => refID_txt l W hm
  generalize nameL l = x at *
  generalize idL l = y at *
  have HN := Lib.hid hN
  have HI := Lib.hid hI
  have HRN := Lib.hid hRN
  have HRI := Lib.hid hRI
  have HA := Lib.hid (fun W => awake_any W)
  clear hN hI hRN hRI
  go_enter Try.func3, Try.ntmps3
  go_wp2_with (first
    | (go_at_call 8; with_reducible refine (HA.out _).mono ?_; rintro e w1 ⟨rfl, hb1⟩; have HB1 := Lib.hid hb1; clear hb1)
    | (go_at_call 9; with_reducible refine (HN.out _).mono ?_; rintro e w2 ⟨rfl, hb2⟩; have HB2 := Lib.hid hb2; clear hb2)
    | (go_at_call 11; with_reducible refine (HI.out _).mono ?_; rintro e w3 ⟨rfl, hb3⟩; have HB3 := Lib.hid hb3; clear hb3)
    | (go_at_call 10; with_reducible refine (HRN.out _).mono ?_; rintro e w4 ⟨rfl, rfl⟩)
    | (go_at_call 12; with_reducible refine (HRI.out _).mono ?_; rintro e w5 ⟨rfl, rfl⟩))
  go_ret
  exact ⟨rfl, hop (hop HB1.out HB2.out) HB3.out⟩
theorem namesAre_walk (s : ByteArray) (w : World) (hm : s.size ≤ 140737488351232) : Calls Try.prog 3 #[.string s] w fun e w' => e = .returned (.bool true) ∧ Below w.heap.size w w' := by
  have h := namesAre_txt s.data.toList w (by rw [size_list]; omega)
  have e : strV s.data.toList = .string s := by show Value.string ⟨s.data.toList.toArray⟩ = _; simp
  rw [e] at h; exact h
end Go.Proofs.Ytnbghhdbpjgcjaa
