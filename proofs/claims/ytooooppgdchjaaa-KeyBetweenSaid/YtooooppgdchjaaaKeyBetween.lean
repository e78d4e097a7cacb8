/-
  The statement KeyBetween: what begins with a prefix lies from it up to the key behind all that do; nothing else does. Condition: the row's own.
-/
import Derived.Test.YtooooppgdchjaaaKeyWake
import Derived.Test.YtooooppgdchjaaaRefBehind
namespace Go.Proofs.Ytooooppgdchjaaa
open Go.RowKit

theorem binOp_string_geq' (t : TypeId) (a b : ByteArray) : binOp .geq t (.string a) (.string b) = pure (.bool !(Op.bytesLess a.toList b.toList)) := by simp [binOp, Op.stringOp]
theorem between_bool (p b : List UInt8) : decide (p <+: b) = (!(Op.bytesLess b p) && (decide (behindL p = []) || Op.bytesLess b (behindL p))) := by
  rw [Bool.eq_iff_iff, decide_eq_true_iff, between]
  simp

set_option maxRecDepth 100000 in
set_option maxHeartbeats 1000000 in
theorem keyBetween_on (A : Option Addr) (p : List UInt8) (c : Nat) (B : Option Addr) (b : List UInt8) (d : Nat) (w : World) (hl : p.length ≤ 140737488351232) (hs : Seen w A p) (hc : p.length ≤ c) (hs' : Seen w B b) (hd : b.length ≤ d)
    (r1 e1 r2 : Bool) (h1 : Op.bytesLess b p = r1) (h2 : decide (behindL p = []) = e1) (h3 : Op.bytesLess b (behindL p) = r2) :
    Calls Try.prog 8 #[.slice A p.length c, .slice B b.length d] w fun e w' => e = .returned (.bool true) ∧ Below w.heap.size w w' := by
  have HS := Lib.hid hs
  have HS' := Lib.hid hs'
  have HK := Lib.hid (fun w' hs => behind_any A p c w' hs hc (by omega))
  have HRK := Lib.hid (fun w' hs => refBehind_any A p c w' hs hc (by omega))
  have HB : Hid (∀ w', Seen w' A p → Seen w' B b → Calls Try.prog 20 #[.slice B b.length d, .slice A p.length c] w' fun e w'' => e = .returned (.bool (!r1 && (e1 || r2))) ∧ w' = w'') := by
    intro w' hs hs'
    have h := begins_any B b b.length d A p p.length c w' rfl rfl hs' hs hd (by omega)
    rw [between_bool, h1, h2, h3] at h
    exact h
  have HRB : Hid (∀ w', Seen w' A p → Seen w' B b → Calls Try.prog 23 #[.slice B b.length d, .slice A p.length c] w' fun e w'' => e = .returned (.bool (!r1 && (e1 || r2))) ∧ Below w'.heap.size w' w'') := by
    intro w' hs hs'
    have h := refBegins_any B b b.length d A p p.length c w' rfl rfl hs' hs hd (by omega)
    rw [between_bool, h1, h2, h3] at h
    exact h
  obtain ⟨K, hK⟩ : ∃ K, K = behindL p := ⟨_, rfl⟩
  unfold BehindOut at HK HRK
  rw [← hK] at HK HRK h2 h3
  obtain ⟨tp, htp⟩ : ∃ tp : ByteArray, tp = ⟨p.toArray⟩ := ⟨_, rfl⟩
  obtain ⟨tb, htb⟩ : ∃ tb : ByteArray, tb = ⟨b.toArray⟩ := ⟨_, rfl⟩
  obtain ⟨tk, htk⟩ : ∃ tk : ByteArray, tk = ⟨K.toArray⟩ := ⟨_, rfl⟩
  have q1 : Op.bytesLess tb.toList tp.toList = r1 := by rw [htp, htb]; simp only [ByteArray.toList_eq]; exact h1
  have q2 : (tk.toList == []) = e1 := by
    rw [htk, ← h2]
    simp only [ByteArray.toList_eq]
    rw [Bool.eq_iff_iff, beq_iff_eq, decide_eq_true_iff]
  have q3 : Op.bytesLess tb.toList tk.toList = r2 := by rw [htb, htk]; simp only [ByteArray.toList_eq]; exact h3
  have UP : Hid (∀ w', Seen w' A p → (convert 23 9 (.slice A p.length c)).run Try.prog w' = .ok (.string tp) w') := by
    intro w' hs; rw [htp]; exact text_on hs p.length c rfl _ (Below.refl _ _)
  have UB : Hid (∀ w', Seen w' B b → (convert 23 9 (.slice B b.length d)).run Try.prog w' = .ok (.string tb) w') := by
    intro w' hs; rw [htb]; exact text_on hs b.length d rfl _ (Below.refl _ _)
  have UK : Hid (∀ w' A' n' c', Seen w' A' K → K.length = n' → (convert 23 9 (.slice A' n' c')).run Try.prog w' = .ok (.string tk) w') := by
    intro w' A' n' c' hs hn; rw [htk]; exact text_on hs n' c' hn _ (Below.refl _ _)
  have hgeq := binOp_string_geq' 9 tb tp
  rw [q1] at hgeq
  clear hs hs' h1 h2 h3 hK htp htb htk
  cases r1 <;> cases e1 <;> cases r2
  all_goals
    go_enter Try.func8, Try.ntmps8
    go_wp2_with fail
    refine (awake_any _).mono ?_
    rintro e w1 ⟨rfl, hb1⟩
    have B1 := Lib.hid hb1
    have S1 := Lib.hid (HS.out.below hb1)
    have S1' := Lib.hid (HS'.out.below hb1)
    clear hb1
    go_wp2_with fail
    refine (HK.out _ S1.out).mono ?_
    rintro e w2 ⟨A2, n2, c2, rfl, hn2, hs2, hb2⟩
    have u2 := UK.out _ _ _ c2 hs2 hn2
    have B2 := Lib.hid (hop B1.out hb2)
    have S2 := Lib.hid (S1.out.below hb2)
    have S2' := Lib.hid (S1'.out.below hb2)
    have up := UP.out _ S2.out
    have ub := UB.out _ S2'.out
    clear hn2 hs2 hb2 S1 S1' HK
    go_wp2_with fail
    refine (HB.out _ S2.out S2'.out).mono ?_
    rintro e w3 ⟨rfl, rfl⟩
    go_wp2_with fail
    refine (HRK.out _ S2.out).mono ?_
    rintro e w4 ⟨A4, n4, c4, rfl, hn4, hs4, hb4⟩
    have u4 := UK.out _ _ _ c4 hs4 hn4
    have B4 := Lib.hid (hop B2.out hb4)
    have S4 := Lib.hid (S2.out.below hb4)
    have S4' := Lib.hid (S2'.out.below hb4)
    clear hn4 hs4 hb4 S2 S2' up ub u2
    go_wp2_with fail
    refine (HB.out _ S4.out S4'.out).mono ?_
    rintro e w5 ⟨rfl, rfl⟩
    go_wp2_with fail
    refine (HRB.out _ S4.out S4'.out).mono ?_
    rintro e w6 ⟨rfl, hb6⟩
    have B6 := Lib.hid (hop B4.out hb6)
    clear hb6
    go_wp2_with fail
    go_ret
    exact ⟨rfl, B6.out⟩

theorem keyBetween_walk (A : Option Addr) (p : List UInt8) (c : Nat) (B : Option Addr) (b : List UInt8) (d : Nat) (w : World) (hl : p.length ≤ 140737488351232) (hs : Seen w A p) (hc : p.length ≤ c) (_hl' : b.length ≤ 140737488351232) (hs' : Seen w B b) (hd : b.length ≤ d) :
    Calls Try.prog 8 #[.slice A p.length c, .slice B b.length d] w fun e w' => e = .returned (.bool true) ∧ Below w.heap.size w w' :=
  keyBetween_on A p c B b d w hl hs hc hs' hd _ _ _ rfl rfl rfl
end Go.Proofs.Ytooooppgdchjaaa
