/-
  What the program's Name and ID come to, on a list. Condition: a string's length fits an int.
-/
import Derived.Test.YtnbghhdbpjgcjaaNmP
import Derived.Test.YtnbghhdbpjgcjaaNmObj
namespace Go.Proofs.Ytnbghhdbpjgcjaa
open Go.RowKit

theorem nameL_of (l : List UInt8) : nameL l = (consL nmB 16 l && (lowB (l.getD 0 0) && !resL l)) := by
  unfold nameL consL resL nameBad
  by_cases h1 : l.length = 0
  · simp [h1]
  · by_cases h2 : 16 < l.length
    · simp [h2]
    · by_cases h3 : l = typeW
      · simp [h3]
      · by_cases h4 : l = relW
        · simp [h4]
        · by_cases h5 : l = defW
          · simp [h5]
          · simp only [h1, h2, h3, h4, h5, or_self, decide_false, Bool.not_false, Bool.true_and, beq_eq_false_iff_ne.2 h3, beq_eq_false_iff_ne.2 h4, beq_eq_false_iff_ne.2 h5, Bool.or_self, Bool.and_true]
            exact Bool.and_comm _ _
theorem idL_of (l : List UInt8) : idL l = consL idB 24 l := rfl
theorem consL_len {p : UInt8 → Bool} {m : Nat} {l : List UInt8} (h : consL p m l = true) : 0 < l.length := by
  unfold consL at h
  by_cases hb : l.length = 0 ∨ m < l.length
  · rw [decide_eq_true hb] at h; cases h
  · omega
theorem enter_nameC (args : Array Value) (w : World) : (callFunc 28 args).run Try.prog w = .ok (.enter 28 args) w := by simp [go_sem]
theorem enter_idC (args : Array Value) (w : World) : (callFunc 32 args).run Try.prog w = .ok (.enter 32 args) w := by simp [go_sem]
set_option maxHeartbeats 400000 in
theorem name_of (s : ByteArray) (w : World) (hm : s.size ≤ 9223372036854775807) :
    Calls Try.prog 9 #[.string s] w fun e w' => e = .returned (.bool (nameL s.data.toList)) ∧ Below w.heap.size w w' := by
  rw [nameL_of]
  have hC := fun W => consists_any 28 nmB 16 s W enter_nameC hm (by omega) (fun W c => nameC_any c W)
  have hR := fun W => reserved_any s W
  have hl := fun h : consL nmB 16 s.data.toList = true => consL_len h
  generalize consL nmB 16 s.data.toList = x at *
  generalize resL s.data.toList = y at *
  have HC : Hid (∀ W, Calls Try.prog 27 #[.string s, .int .i64 16, .func (.func 28) #[] #[]] W fun e w' => e = .returned (.bool x) ∧ Below W.heap.size W w') := Lib.hid hC
  have HR := Lib.hid hR
  clear hC hR
  cases x
  · clear hl
    go_enter Try.func9, Try.ntmps9
    go_wp2_with (go_at_call 27; with_reducible refine (HC.out _).mono ?_; rintro e w1 ⟨rfl, hb1⟩; have HB1 := Lib.hid hb1; clear hb1)
    go_ret
    exact ⟨rfl, HB1.out⟩
  · have h0 : 0 < s.size := by have := hl rfl; rwa [size_list] at this
    rw [getD_list s 0 h0]
    clear hl
    have hx := s[0].toNat_lt
    have HL := Lib.hid (fun W => low_any s[0] W)
    generalize lowB s[0] = z at *
    cases z
    · go_enter Try.func9, Try.ntmps9
      go_wp2_with (first
        | (go_at_call 27; with_reducible refine (HC.out _).mono ?_; rintro e w1 ⟨rfl, hb1⟩; have HB1 := Lib.hid hb1; clear hb1)
        | (go_at_call 29; with_reducible refine (HL.out _).mono ?_; rintro e w2 ⟨rfl, hb2⟩; have HB2 := Lib.hid (hop HB1.out hb2); clear hb2))
      go_ret
      exact ⟨rfl, HB2.out⟩
    · cases y
      all_goals go_enter Try.func9, Try.ntmps9
      all_goals go_wp2_with (first
        | (go_at_call 27; with_reducible refine (HC.out _).mono ?_; rintro e w1 ⟨rfl, hb1⟩; have HB1 := Lib.hid hb1; clear hb1)
        | (go_at_call 29; with_reducible refine (HL.out _).mono ?_; rintro e w2 ⟨rfl, hb2⟩; have HB2 := Lib.hid (hop HB1.out hb2); clear hb2)
        | (go_at_call 31; with_reducible refine (HR.out _).mono ?_; rintro e w3 ⟨rfl, hb3⟩; have HB3 := Lib.hid (hop HB2.out hb3); clear hb3))
      all_goals go_ret
      all_goals exact ⟨rfl, HB3.out⟩
theorem id_of (s : ByteArray) (w : World) (hm : s.size ≤ 9223372036854775807) :
    Calls Try.prog 11 #[.string s] w fun e w' => e = .returned (.bool (idL s.data.toList)) ∧ Below w.heap.size w w' := by
  rw [idL_of]
  have hC := fun W => consists_any 32 idB 24 s W enter_idC hm (by omega) (fun W c => idC_any c W)
  generalize consL idB 24 s.data.toList = x at *
  have HC : Hid (∀ W, Calls Try.prog 27 #[.string s, .int .i64 24, .func (.func 32) #[] #[]] W fun e w' => e = .returned (.bool x) ∧ Below W.heap.size W w') := Lib.hid hC
  clear hC
  go_enter Try.func11, Try.ntmps11
  go_wp2_with (go_at_call 27; with_reducible refine (HC.out _).mono ?_; rintro e w1 ⟨rfl, hb1⟩; have HB1 := Lib.hid hb1; clear hb1)
  go_ret
  exact ⟨rfl, HB1.out⟩
theorem name_any (l : Txt) (w : World) (hm : l.length ≤ 9223372036854775807) :
    Calls Try.prog 9 #[strV l] w fun e w' => e = .returned (.bool (nameL l)) ∧ Below w.heap.size w w' := by
  have h := name_of ⟨l.toArray⟩ w (by simpa [ByteArray.size] using hm)
  simpa using h
theorem nid_any (l : Txt) (w : World) (hm : l.length ≤ 9223372036854775807) :
    Calls Try.prog 11 #[strV l] w fun e w' => e = .returned (.bool (idL l)) ∧ Below w.heap.size w w' := by
  have h := id_of ⟨l.toArray⟩ w (by simpa [ByteArray.size] using hm)
  simpa using h
end Go.Proofs.Ytnbghhdbpjgcjaa
