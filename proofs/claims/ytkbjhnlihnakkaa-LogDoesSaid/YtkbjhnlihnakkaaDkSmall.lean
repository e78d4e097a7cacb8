/-
  The small calls of a disk: Blocks, On, Calls, has, performed, Arm. Conditions: as each says.
-/
import Derived.Test.YtkbjhnlihnakkaaDk
import Derived.Test.YtkbjhnlihnakkaaText
namespace Go.Proofs.Ytkbjhnlihnakkaa
open Go.RowKit

section
variable {w : World} {g : Nat} {F : Nat → Prop} {s : Dsk}

theorem blocks_any (h : DiskAt w g F s) : Calls Try.prog 45 #[.pointer (some ⟨g, 0, none⟩)] w fun e w' => e = .returned (.int .i64 (s.K.length : Int)) ∧ w' = w := by
  obtain ⟨gd, v, h⟩ := h
  obtain ⟨c0, _⟩ := h.cells
  go_enter Try.func45, Try.ntmps45
  go_wp2
  go_ret
  exact ⟨rfl, rfl⟩
theorem on_any (h : DiskAt w g F s) : Calls Try.prog 43 #[.pointer (some ⟨g, 0, none⟩)] w fun e w' => e = .returned (.bool (!s.off)) ∧ w' = w := by
  obtain ⟨gd, v, h⟩ := h
  obtain ⟨_, _, c2, _⟩ := h.cells
  go_enter Try.func43, Try.ntmps43
  go_wp2
  go_ret
  exact ⟨rfl, rfl⟩
theorem calls_any (h : DiskAt w g F s) : Calls Try.prog 24 #[.pointer (some ⟨g, 0, none⟩)] w fun e w' => e = .returned (.int .i64 (s.calls : Int)) ∧ w' = w := by
  obtain ⟨gd, v, h⟩ := h
  obtain ⟨_, _, _, _, c4⟩ := h.cells
  go_enter Try.func24, Try.ntmps24
  go_wp2
  go_ret
  exact ⟨rfl, rfl⟩
theorem has_any (h : DiskAt w g F s) (i : Int) : Calls Try.prog 73 #[.pointer (some ⟨g, 0, none⟩), .int .i64 i] w fun e w' => e = .returned (.bool (decide (0 ≤ i ∧ i < s.K.length))) ∧ w' = w := by
  have H := Lib.hid h
  clear h
  by_cases h0 : 0 ≤ i
  · go_enter Try.func73, Try.ntmps73
    go_wp2_with (go_at_call 45; refine (blocks_any H.out).mono ?_; rintro e w' ⟨rfl, rfl⟩)
    go_ret
    refine ⟨?_, rfl⟩
    simp [h0]
  · go_enter Try.func73, Try.ntmps73
    go_wp2
    go_ret
    refine ⟨?_, rfl⟩
    have e : (decide (0 ≤ i) && decide (i < (s.K.length : Int))) = false := by rw [decide_eq_false (by omega)]; rfl
    rw [e]
    rfl
end

theorem performed_any (w : World) (g gd : Nat) (v : Value) (F : Nat → Prop) (s : Dsk) (h : DiskIn w g gd v F s) (hc : s.calls + 1 < 9223372036854775808) (hl : s.left < 9223372036854775808) :
    Calls Try.prog 80 #[.pointer (some ⟨g, 0, none⟩)] w fun e w' => e = .returned (.tuple #[]) ∧ DiskIn w' g gd v F s.did ∧ Spared w w' F := by
  obtain ⟨_, _, c2, c3, c4⟩ := h.cells
  have f2 := h.free 2
  have f3 := h.free 3
  have f4 := h.free 4
  have H := Lib.hid h
  clear h
  have e1 : (s.calls : Int) + 1 = ((s.calls + 1 : Nat) : Int) := by omega
  by_cases h0 : 0 < s.left
  · have e2 : (s.left : Int) - 1 = ((s.left - 1 : Nat) : Int) := by omega
    have e3 : (((s.left - 1 : Nat) : Int) == 0) = decide (s.left = 1) := by rw [Bool.eq_iff_iff, beq_iff_eq, decide_eq_true_iff]; omega
    have hd : (s.did).off = decide (s.left = 1) := by simp [Dsk.did, h0]
    have H3 := ((H.out.put 4 (.int .i64 ((s.calls + 1 : Nat) : Int)) (s' := { s with calls := s.calls + 1 }) (v' := v) rfl rfl (.inl ⟨rfl, rfl⟩)).put 3 (.int .i64 ((s.left - 1 : Nat) : Int)) (s' := { s with calls := s.calls + 1, left := s.left - 1 }) (v' := v) rfl rfl (.inl ⟨rfl, rfl⟩)).put 2 (.bool (decide (s.left = 1))) (s' := s.did) (v' := v) (by rw [hd]; rfl) rfl (.inl ⟨rfl, rfl⟩)
    have H3 := Lib.hid H3
    have E1 := Lib.hid e1
    have E2 := Lib.hid e2
    have E3 := Lib.hid e3
    clear e1 e2 e3 hd
    go_enter Try.func80, Try.ntmps80
    go_wp2
    go_end0
    rw [E1.out, E2.out, E3.out]
    have hF := H.out.2.2.2.1
    exact ⟨rfl, H3.out, (((Spared.refl w F).setCell hF _ _).setCell hF _ _).setCell hF _ _⟩
  · have hd : (s.did).off = s.off ∧ s.did.left = s.left := ⟨by simp [Dsk.did, h0], by show s.left - 1 = s.left; omega⟩
    have H3 := (H.out.put 4 (.int .i64 ((s.calls + 1 : Nat) : Int)) (s' := s.did) (v' := v) (by rw [hd.1, hd.2]; rfl) rfl (.inl ⟨rfl, rfl⟩))
    have H3 := Lib.hid H3
    have E1 := Lib.hid e1
    clear e1 hd
    have c3' : w.cell? ⟨g, 3, none⟩ = some (.int .i64 (0 : Int)) := by rw [c3]; congr 2; omega
    clear c3
    go_enter Try.func80, Try.ntmps80
    go_wp2
    go_end0
    rw [E1.out]
    exact ⟨rfl, H3.out, (Spared.refl w F).setCell H.out.2.2.2.1 _ _⟩
theorem arm_any (w : World) (g : Nat) (F : Nat → Prop) (s : Dsk) (n : Int) (h : DiskAt w g F s) :
    Calls Try.prog 19 #[.pointer (some ⟨g, 0, none⟩), .int .i64 n] w fun e w' => e = .returned (.tuple #[]) ∧ Moved w g F (s.arm n) w' := by
  have hat := Lib.hid h
  obtain ⟨gd, v, h⟩ := h
  have f2 := h.free 2
  have f3 := h.free 3
  obtain ⟨_, _, c2, c3, _⟩ := h.cells
  have H := Lib.hid h
  clear h
  by_cases h0 : s.off = true
  · have ho : (!s.off) = false := by rw [h0]; rfl
    have ha : s.arm n = s := by unfold Dsk.arm; rw [if_pos h0]
    rw [ha]
    clear h0 ha
    go_enter Try.func19, Try.ntmps19
    go_wp2_with (go_at_call 43; refine (on_any hat.out).mono ?_; rintro e w' ⟨rfl, rfl⟩; rw [ho])
    (try simp only [Exit.inBlock, Exit.then]); refine bodyPost_ret (results_none rfl _ _ _) rfl ?_
    exact ⟨rfl, .still hat.out (Below.refl _ _)⟩
  · have ho : (!s.off) = true := by cases hs : s.off <;> simp_all
    have ha : s.arm n = { s with left := n.toNat, off := decide (n < 1) } := by unfold Dsk.arm; rw [if_neg h0]
    rw [ha]
    have H4 := Lib.hid ((H.out.put 3 (.int .i64 ((n.toNat : Nat) : Int)) (s' := { s with left := n.toNat }) (v' := v) rfl rfl (.inl ⟨rfl, rfl⟩)).put 2 (.bool (decide (n < 1))) (s' := { s with left := n.toNat, off := decide (n < 1) }) (v' := v) rfl rfl (.inl ⟨rfl, rfl⟩))
    have hF := H.out.2.2.2.1
    clear h0 ha
    go_enter Try.func19, Try.ntmps19
    go_wp2_with (go_at_call 43; refine (on_any hat.out).mono ?_; rintro e w' ⟨rfl, rfl⟩; rw [ho])
    · rename_i h
      have e : ((n.toNat : Nat) : Int) = 0 := by omega
      rw [e] at H4
      go_end0
      exact ⟨rfl, _, ⟨_, _, H4.out⟩, (((Spared.refl _ F).setCell hF _ _).setCell hF _ _), fun _ h => .inl h⟩
    · rename_i h
      have e : ((n.toNat : Nat) : Int) = n := by omega
      rw [e] at H4
      go_end0
      exact ⟨rfl, _, ⟨_, _, H4.out⟩, (((Spared.refl _ F).setCell hF _ _).setCell hF _ _), fun _ h => .inl h⟩
end Go.Proofs.Ytkbjhnlihnakkaa
