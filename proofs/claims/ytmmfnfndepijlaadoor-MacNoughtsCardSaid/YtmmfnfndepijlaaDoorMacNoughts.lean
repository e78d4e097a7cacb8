/-
  The statement MacNoughts: a key with noughts behind it, of at most 64 bytes together, has the same codes. Condition: the row's own.
-/
import Derived.Test.YtmmfnfndepijlaaDoorMacHelp
import Derived.Test.YtmmfnfndepijlaaDoorExtend
import Derived.Deep.RegionHeldLaw
import Derived.Deep.DrawnRows
namespace Go.Proofs.YtmmfnfndepijlaaDoor
open Go.RowKit
attribute [local go_sem ↓] Go.wp_at_zero Go.wp_at_succ

set_option maxRecDepth 100000 in
set_option maxHeartbeats 1000000 in
theorem macNoughts_walk (A : Option Addr) (key : List UInt8) (c : Nat) (n : Int) (B : Option Addr) (b : List UInt8) (d : Nat) (w : World) (hl : key.length ≤ 140737488351232) (hs : Seen w A key) (hc : key.length ≤ c) (hn1 : -9223372036854775808 ≤ n) (hn2 : n ≤ 9223372036854775807)
    (hl' : b.length ≤ 140737488351232) (hs' : Seen w B b) (hd : b.length ≤ d) (ht : Tabs w) :
    Calls Tryd.prog 6 #[.slice A key.length c, .int .i64 n, .slice B b.length d] w fun e w' => e = .returned (.bool true) ∧ Below w.heap.size w w' := by
  have HS := Lib.hid hs
  have HS' := Lib.hid hs'
  have HT := Lib.hid ht
  obtain ⟨i0, hi, hz0, hz1, hz2⟩ := info_parts info5
  clear hs hs' ht
  by_cases h1 : (64 : Int) < key.length
  · go_enter Tryd.func6, Tryd.ntmps6
    go_wp2_with fail
    refine (awake_any _ HT.out).mono ?_
    rintro e w1 ⟨rfl, hb1⟩
    have B1 := Lib.hid hb1
    clear hb1
    go_wp2_with fail
    go_ret
    exact ⟨rfl, B1.out⟩
  by_cases h2 : n < 0
  · go_enter Tryd.func6, Tryd.ntmps6
    go_wp2_with fail
    refine (awake_any _ HT.out).mono ?_
    rintro e w1 ⟨rfl, hb1⟩
    have B1 := Lib.hid hb1
    clear hb1
    go_wp2_with fail
    go_ret
    exact ⟨rfl, B1.out⟩
  by_cases h3 : 64 - (key.length : Int) < n
  · go_enter Tryd.func6, Tryd.ntmps6
    go_wp2_with fail
    refine (awake_any _ HT.out).mono ?_
    rintro e w1 ⟨rfl, hb1⟩
    have B1 := Lib.hid hb1
    clear hb1
    go_wp2_with fail
    go_ret
    exact ⟨rfl, B1.out⟩
  by_cases h4 : (1000 : Int) < b.length
  · go_enter Tryd.func6, Tryd.ntmps6
    go_wp2_with fail
    refine (awake_any _ HT.out).mono ?_
    rintro e w1 ⟨rfl, hb1⟩
    have B1 := Lib.hid hb1
    clear hb1
    go_wp2_with fail
    go_ret
    exact ⟨rfl, B1.out⟩
  obtain ⟨m, rfl⟩ : ∃ m : Nat, n = (m : Int) := ⟨n.toNat, by omega⟩
  have hkm : key.length + m ≤ 64 := by omega
  go_enter Tryd.func6, Tryd.ntmps6
  go_wp2_with fail
  refine (awake_any _ HT.out).mono ?_
  rintro e w1 ⟨rfl, hb1⟩
  have B1 := Lib.hid hb1
  clear hb1
  have HO := Made.nil 5 w1
  go_wp2_with (at_builtin; refine wpList_append_bytes _ rfl _ _ 22 rfl 5 i0 (.int .u8 0) Tryd.underlying22 hi hz0 hz1 hz2 rfl w1 _ [] A key c rfl rfl HO ?a1 ?a2 ?_)
  case a1 => exact HS.out.below B1.out
  case a2 => simp; omega
  intro v2 w2 HM2 _
  go_wp2_with (at_builtin; refine wpList_append_zeros _ rfl (.tmp 32) (.tmp 33) 22 3 rfl 5 i0 Tryd.underlying22 Tryd.underlying3 hi hz0 hz1 hz2 w1 _ key m rfl rfl HM2 (by omega) ?_; intro v3 w3 HM3)
  obtain ⟨A3, c3, rfl, hs3, hc3⟩ := HM3.form_cap
  have B3 := Lib.hid (hop B1.out HM3.2)
  have hk3 : (key ++ List.replicate m 0).length ≤ 64 := by simp; omega
  have HE : Hid (macL (key ++ List.replicate m 0) b = macL key b) := macL_noughts key b m hkm
  obtain ⟨k3, hk⟩ : ∃ k3, k3 = key ++ List.replicate m (0 : UInt8) := ⟨_, rfl⟩
  rw [← hk] at hs3 hc3 hk3 HE ⊢
  have N32 := Lib.hid (length_macL key b)
  have M1 : Hid (∀ w', Below w3.heap.size w3 w' → Calls Tryd.prog 8 #[.slice A3 k3.length c3, .slice B b.length d] w' fun e w'' => ∃ A', e = .returned (.slice A' 32 32) ∧ Seen w'' A' (macL key b) ∧ Below w'.heap.size w' w'') := by
    intro w' hb
    have := mac_any A3 k3 c3 B b d w' (hs3.below hb) hc3 (by omega) (HS'.out.below (hop B3.out hb)) hd (by omega) (HT.out.below (hop B3.out hb))
    rw [HE.out] at this
    exact this
  have M2 : Hid (∀ w', Below w3.heap.size w3 w' → Calls Tryd.prog 8 #[.slice A key.length c, .slice B b.length d] w' fun e w'' => ∃ A', e = .returned (.slice A' 32 32) ∧ Seen w'' A' (macL key b) ∧ Below w'.heap.size w' w'') :=
    fun w' hb => mac_any A key c B b d w' (HS.out.below (hop B3.out hb)) hc (by omega) (HS'.out.below (hop B3.out hb)) hd (by omega) (HT.out.below (hop B3.out hb))
  clear hk HE hs3 HM2 HM3 HO
  generalize macL key b = M at *
  have bd : Below w3.heap.size w3 w3.drew := (Below.refl _ _).drew
  go_wp2_with fail
  go_region_held_law (fun w' => Below w3.heap.size w3 w') (first | exact (Below.refl _ _).drew | assumption | (exact hop ‹Below w3.heap.size w3 _› (by assumption)))
    (first
      | (go_at_call 8; (first
          | (with_reducible refine (M1.out _ ?_).mono ?_; (assumption); rintro e w5 ⟨A5, rfl, hs5, hb5⟩; have hu5 := text_on hs5 32 32 N32.out _ (Below.refl _ _); have HS5 := Lib.hid hs5; clear hs5)
          | (with_reducible refine (M2.out _ ?_).mono ?_; (assumption); rintro e w6 ⟨A6, rfl, hs6, hb6⟩; have hu6 := text_on hs6 32 32 N32.out _ (Below.refl _ _); have hu56 := text_on HS5.out 32 32 N32.out _ hb6; clear hs6))))
  all_goals go_wp2_with fail
  all_goals go_ret
  all_goals exact ⟨rfl, hop B3.out (by assumption)⟩
end Go.Proofs.YtmmfnfndepijlaaDoor
