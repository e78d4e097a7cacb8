/-
  The statement MacEquals: any two are the same, or not; all pairs are held against one another if there are as many. Condition: the row's own.
-/
import Derived.Test.YtmmfnfndepijlaaDoorMacHelp
import Derived.Deep.RegionHeldLaw
import Derived.Deep.DrawnRows
namespace Go.Proofs.YtmmfnfndepijlaaDoor
open Go.RowKit
attribute [local go_sem ↓] Go.wp_at_zero Go.wp_at_succ

set_option maxRecDepth 100000 in
set_option maxHeartbeats 1000000 in
theorem macEquals_walk (A : Option Addr) (a : List UInt8) (c : Nat) (B : Option Addr) (b : List UInt8) (d : Nat) (w : World) (hl : a.length ≤ 140737488351232) (hs : Seen w A a) (hl' : b.length ≤ 140737488351232) (hs' : Seen w B b) (ht : Tabs w) :
    Calls Tryd.prog 4 #[.slice A a.length c, .slice B b.length d] w fun e w' => e = .returned (.bool true) ∧ Below w.heap.size w w' := by
  have HT := Lib.hid ht
  obtain ⟨v, hv⟩ : ∃ v, v = decide (a = b) := ⟨_, rfl⟩
  have hq0 := text_beq a b
  have E1 : Hid (∀ w', Below w.heap.size w w' → Calls Tryd.prog 10 #[.slice A a.length c, .slice B b.length d] w' fun e w'' => e = .returned (.bool (decide (a = b))) ∧ Below w'.heap.size w' w'') :=
    fun w' hb => equal_any A a c B b d w' (hs.below hb) (hs'.below hb) (by omega) (by omega)
  have E2 : Hid (∀ w', Below w.heap.size w w' → Calls Tryd.prog 10 #[.slice A a.length c, .slice A a.length c] w' fun e w'' => e = .returned (.bool true) ∧ Below w'.heap.size w' w'') := by
    intro w' hb
    have := equal_any A a c A a c w' (hs.below hb) (hs.below hb) (by omega) (by omega)
    rw [decide_eq_true rfl] at this
    exact this
  have E3 : Hid (∀ w', Calls Tryd.prog 11 #[.slice A a.length c, .slice B b.length d] w' fun e w'' => e = .returned (.int .i64 (if a.length = b.length then a.length else 0 : Nat)) ∧ w' = w'') :=
    fun w' => looks_any A a.length c B b.length d w'
  have U1 := text_on hs a.length c rfl
  have U2 := text_on hs' b.length d rfl
  rw [← hv] at hq0 E1
  have hq := hq0
  generalize (⟨a.toArray⟩ : ByteArray) = ta at hq U1
  generalize (⟨b.toArray⟩ : ByteArray) = tb at hq U2
  clear hs hs' ht hv hq0
  by_cases h1 : a.length = b.length
  · rw [if_pos h1] at E3
    rw [h1] at E1 E2 E3 U1 hl ⊢
    clear h1
    go_enter Tryd.func4, Tryd.ntmps4
    go_wp2_with fail
    refine (awake_any _ HT.out).mono ?_
    rintro e w1 ⟨rfl, hb1⟩
    have B1 := Lib.hid hb1
    clear hb1
    go_wp2_with fail
    have en : ((b.length : Int) == (b.length : Int)) = true := by simp
    go_region_held_law (fun w' => Below w.heap.size w w') (first | exact B1.out.drew | assumption | (exact hop ‹Below w.heap.size w _› (by assumption)))
      (first
        | (go_at_call 11; with_reducible refine (E3.out _).mono ?_; rintro e w5 ⟨rfl, rfl⟩)
        | (go_at_call 10; (first | (with_reducible refine (E1.out _ ?_).mono ?_) | (with_reducible refine (E2.out _ ?_).mono ?_)); (assumption); rintro e w5 ⟨rfl, hb5⟩))
    all_goals go_wp2_with fail
    all_goals go_ret
    all_goals exact ⟨rfl, by assumption⟩
  · rw [if_neg h1] at E3
    have hh : ¬ (a.length : Int) = (b.length : Int) := by omega
    go_enter Tryd.func4, Tryd.ntmps4
    go_wp2_with fail
    refine (awake_any _ HT.out).mono ?_
    rintro e w1 ⟨rfl, hb1⟩
    have B1 := Lib.hid hb1
    clear hb1
    go_wp2_with fail
    have en : ((b.length : Int) == (b.length : Int)) = true := by simp
    go_region_held_law (fun w' => Below w.heap.size w w') (first | exact B1.out.drew | assumption | (exact hop ‹Below w.heap.size w _› (by assumption)))
      (first
        | (go_at_call 11; with_reducible refine (E3.out _).mono ?_; rintro e w5 ⟨rfl, rfl⟩)
        | (go_at_call 10; (first | (with_reducible refine (E1.out _ ?_).mono ?_) | (with_reducible refine (E2.out _ ?_).mono ?_)); (assumption); rintro e w5 ⟨rfl, hb5⟩))
    all_goals go_wp2_with fail
    all_goals go_ret
    all_goals exact ⟨rfl, by assumption⟩
end Go.Proofs.YtmmfnfndepijlaaDoor
