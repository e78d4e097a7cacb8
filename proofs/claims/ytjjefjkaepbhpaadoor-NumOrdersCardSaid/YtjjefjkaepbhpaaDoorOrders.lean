/-
  The statement NumOrders: of two numbers of 0 or more the less has the less eight bytes. No conditions beyond the row's own.
-/
import Derived.Test.YtjjefjkaepbhpaaDoorAwake
import Derived.Test.YtjjefjkaepbhpaaDoorOrd
namespace Go.Proofs.YtjjefjkaepbhpaaDoor
open Go.RowKit

set_option maxRecDepth 100000 in
set_option maxHeartbeats 1000000 in
theorem numOrders_neg (a b : Int) (w : World) (h : a < 0 ∨ (0 ≤ a ∧ b < 0)) (ht : Tab w) :
    Calls Tryd.prog 9 #[.int .i64 a, .int .i64 b] w fun e w' => e = .returned (.bool true) ∧ Below w.heap.size w w' := by
  rcases h with h | ⟨h1, h2⟩
  all_goals
    go_enter Tryd.func9, Tryd.ntmps9
    go_wp2_with fail
    refine (awake_any _ ht).mono ?_
    rintro e w1 ⟨rfl, hb1⟩
    have B1 := Lib.hid hb1
    clear hb1
    go_wp2_with fail
    all_goals go_ret
    all_goals exact ⟨rfl, B1.out⟩

set_option maxRecDepth 100000 in
set_option maxHeartbeats 1000000 in
theorem numOrders_pos (a b : Nat) (w : World) (ha : a ≤ 9223372036854775807) (hb : b ≤ 9223372036854775807) (ht : Tab w) :
    Calls Tryd.prog 9 #[.int .i64 (a : Int), .int .i64 (b : Int)] w fun e w' => e = .returned (.bool true) ∧ Below w.heap.size w w' := by
  obtain ⟨x, hx⟩ : ∃ x, x = wideOf a := ⟨_, rfl⟩
  obtain ⟨y, hy⟩ : ∃ y, y = wideOf b := ⟨_, rfl⟩
  have ea : wideOf ((a : Int) % 18446744073709551616).toNat = x := by rw [hx, show ((a : Int) % 18446744073709551616).toNat = a from by omega]
  have eb : wideOf ((b : Int) % 18446744073709551616).toNat = y := by rw [hy, show ((b : Int) % 18446744073709551616).toNat = b from by omega]
  have HA := Lib.hid (fun w => by have := wide_any (a : Int) w; rw [ea] at this; exact this : ∀ w, Calls Tryd.prog 26 #[.int .i64 (a : Int)] w fun e w' => ∃ A, e = .returned (.slice A 8 8) ∧ Seen w' A x ∧ Below w.heap.size w w')
  have HB := Lib.hid (fun w => by have := wide_any (b : Int) w; rw [eb] at this; exact this : ∀ w, Calls Tryd.prog 26 #[.int .i64 (b : Int)] w fun e w' => ∃ A, e = .returned (.slice A 8 8) ∧ Seen w' A y ∧ Below w.heap.size w w')
  have hlt : Op.bytesLess x y = decide (a < b) := by rw [hx, hy]; exact wide_less a b (by omega) (by omega)
  have heq : (x == y) = decide (a = b) := by
    rw [Bool.eq_iff_iff, beq_iff_eq, decide_eq_true_eq, hx, hy]; exact wide_inj a b (by omega) (by omega)
  have X8 : Hid (8 = x.length) := by show _ = _; rw [hx, wideOf_length]
  have Y8 : Hid (8 = y.length) := by show _ = _; rw [hy, wideOf_length]
  have HLT := Lib.hid hlt
  have HEQ := Lib.hid heq
  clear ea eb hx hy hlt heq
  go_enter Tryd.func9, Tryd.ntmps9
  go_wp2_with fail
  refine (awake_any _ ht).mono ?_
  rintro e w1 ⟨rfl, hb1⟩
  have B1 := Lib.hid hb1
  clear hb1
  go_wp2_with fail
  refine (HA.out _).mono ?_
  rintro e w2 ⟨A2, rfl, hs2, hb2⟩
  have B2 := Lib.hid hb2
  have hu2 : (convert 22 9 (.slice A2 8 8)).run Tryd.prog w2 = .ok (.string ⟨x.toArray⟩) w2 := by
    rw [X8.out]; exact hs2.text 22 9 5 Tryd.underlying22 Tryd.underlying5 Tryd.underlying9 _
  clear hb2 hs2
  go_wp2_with fail
  refine (HB.out _).mono ?_
  rintro e w3 ⟨A3, rfl, hs3, hb3⟩
  have B3 := Lib.hid hb3
  have hu3 : (convert 22 9 (.slice A3 8 8)).run Tryd.prog w3 = .ok (.string ⟨y.toArray⟩) w3 := by
    rw [Y8.out]; exact hs3.text 22 9 5 Tryd.underlying22 Tryd.underlying5 Tryd.underlying9 _
  clear hb3 hs3 hu2
  go_wp2_with fail
  · go_ret
    refine ⟨?_, hop B1.out (hop B2.out B3.out)⟩
    have e : (((a : Int) == (b : Int)) == (x == y)) = true := by
      rw [HEQ.out, beq_iff_eq, Bool.eq_iff_iff, beq_iff_eq, decide_eq_true_eq]
      omega
    exact congrArg (fun v : Bool => Ending.returned (.bool v)) e
  · have h : ¬ decide (a < b) = Op.bytesLess x y := by assumption
    exact absurd HLT.out.symm h

theorem numOrders_walk (a b : Int) (w : World) (_ : -9223372036854775808 ≤ a) (ha : a ≤ 9223372036854775807) (_ : -9223372036854775808 ≤ b) (hb : b ≤ 9223372036854775807) (ht : Tab w) :
    Calls Tryd.prog 9 #[.int .i64 a, .int .i64 b] w fun e w' => e = .returned (.bool true) ∧ Below w.heap.size w w' := by
  by_cases h : 0 ≤ a ∧ 0 ≤ b
  · obtain ⟨x, rfl⟩ := Int.eq_ofNat_of_zero_le h.1
    obtain ⟨y, rfl⟩ := Int.eq_ofNat_of_zero_le h.2
    exact numOrders_pos x y w (by omega) (by omega) ht
  · exact numOrders_neg a b w (by omega) ht
end Go.Proofs.YtjjefjkaepbhpaaDoor
