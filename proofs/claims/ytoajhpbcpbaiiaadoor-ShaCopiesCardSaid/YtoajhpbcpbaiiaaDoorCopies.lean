/-
  The statement ShaCopies: a copy goes on from where it was made; what is added to the one changes nothing of the other. Condition: the row's own.
-/
import Derived.Test.YtoajhpbcpbaiiaaDoorShaHelp
import Derived.Deep.RegionHeldLaw
import Derived.Deep.DrawnRows
namespace Go.Proofs.YtoajhpbcpbaiiaaDoor
open Go.RowKit
attribute [local go_sem ↓] Go.wp_at_zero Go.wp_at_succ

set_option maxRecDepth 100000 in
set_option maxHeartbeats 1000000 in
theorem shaCopies_long (A0 : Option Addr) (l0 : List UInt8) (c0 : Nat) (A1 : Option Addr) (l1 : List UInt8) (c1 : Nat) (A2 : Option Addr) (l2 : List UInt8) (c2 : Nat) (w : World)
    (b0 : l0.length ≤ 140737488351232) (b1 : l1.length ≤ 140737488351232) (b2 : l2.length ≤ 140737488351232) (ht : Tabs w) (hlong : 1000 < l0.length ∨ 1000 < l1.length ∨ 1000 < l2.length) :
    Calls Tryd.prog 6 #[.slice A0 l0.length c0, .slice A1 l1.length c1, .slice A2 l2.length c2] w fun e w' => e = .returned (.bool true) ∧ Below w.heap.size w w' := by
  by_cases h0 : 1000 < l0.length
  · go_enter Tryd.func6, Tryd.ntmps6
    go_wp2_with fail
    refine (awake_any _ ht).mono ?_
    rintro e w1 ⟨rfl, hb1⟩
    have B1 := Lib.hid hb1
    clear hb1
    go_wp2_with fail
    go_ret
    exact ⟨rfl, B1.out⟩
  · by_cases h1 : 1000 < l1.length
    · go_enter Tryd.func6, Tryd.ntmps6
      go_wp2_with fail
      refine (awake_any _ ht).mono ?_
      rintro e w1 ⟨rfl, hb1⟩
      have B1 := Lib.hid hb1
      clear hb1
      go_wp2_with fail
      go_ret
      exact ⟨rfl, B1.out⟩
    · have h2 : 1000 < l2.length := by omega
      go_enter Tryd.func6, Tryd.ntmps6
      go_wp2_with fail
      refine (awake_any _ ht).mono ?_
      rintro e w1 ⟨rfl, hb1⟩
      have B1 := Lib.hid hb1
      clear hb1
      go_wp2_with fail
      go_ret
      exact ⟨rfl, B1.out⟩

set_option maxRecDepth 100000 in
set_option maxHeartbeats 1000000 in
theorem shaCopies_short (A0 : Option Addr) (l0 : List UInt8) (c0 : Nat) (A1 : Option Addr) (l1 : List UInt8) (c1 : Nat) (A2 : Option Addr) (l2 : List UInt8) (c2 : Nat) (w : World)
    (b0 : l0.length ≤ 1000) (s0 : Seen w A0 l0) (k0 : l0.length ≤ c0) (b1 : l1.length ≤ 1000) (s1 : Seen w A1 l1) (k1 : l1.length ≤ c1) (b2 : l2.length ≤ 1000) (s2 : Seen w A2 l2) (k2 : l2.length ≤ c2) (ht : Tabs w) :
    Calls Tryd.prog 6 #[.slice A0 l0.length c0, .slice A1 l1.length c1, .slice A2 l2.length c2] w fun e w' => e = .returned (.bool true) ∧ Below w.heap.size w w' := by
  have S0 := Lib.hid s0
  have S1 := Lib.hid s1
  have S2 := Lib.hid s2
  have HT := Lib.hid ht
  have hg2 : 2 ≤ w.heap.size := ht.2.2
  obtain ⟨i0, hi, hz0, hz1, hz2⟩ := info_parts info5
  clear s0 s1 s2 ht
  go_enter Tryd.func6, Tryd.ntmps6
  go_wp2_with fail
  refine (awake_any _ HT.out).mono ?_
  rintro e w1 ⟨rfl, hb1⟩
  have B1 := Lib.hid hb1
  have hz1' : w.heap.size ≤ w1.heap.size := hb1.size
  clear hb1
  go_wp2_with fail
  refine (new_any _).mono ?_
  rintro e w2 ⟨rfl, hw2⟩
  have B2 : Hid (Below w.heap.size w w2) := by rw [hw2]; exact hop B1.out ((Below.refl _ _).alloc (Nat.le_refl _) _)
  have T2 : Hid (StAt w2 w1.heap.size []) := by rw [hw2]; exact new_state
  clear hw2
  obtain ⟨gs, hgs⟩ : ∃ gs, gs = w1.heap.size := ⟨_, rfl⟩
  rw [← hgs] at T2 hz1' ⊢
  clear hgs
  go_wp2_with fail
  refine (write_any _ gs [] A0 l0 c0 T2.out (apart_old S0.out B2.out hz1') k0 (by simp; omega) (HT.out.below B2.out) (by omega)).mono ?_
  rintro e w3 ⟨rfl, t3, g3⟩
  rw [List.nil_append] at t3
  have T3 := Lib.hid t3
  have B3 := Lib.hid (below_only B2.out g3 hz1')
  have hz3 : gs < w3.heap.size := t3.lt
  clear t3 g3 B2 T2 B1
  go_wp2_with fail
  refine (copy_any _ gs l0 T3.out).mono ?_
  rintro e w4 ⟨rfl, t4, b4⟩
  obtain ⟨gt, hgt⟩ : ∃ gt, gt = w3.heap.size := ⟨_, rfl⟩
  rw [← hgt] at t4 hz3 ⊢
  have hne : gs ≠ gt := by omega
  have T4 := Lib.hid t4
  have U4 := Lib.hid (T3.out.below b4)
  have B4 := Lib.hid (hop B3.out b4)
  clear t4 b4 hgt T3 B3
  go_wp2_with fail
  refine (write_any _ gs l0 A1 l1 c1 U4.out (apart_old S1.out B4.out hz1') k1 (by omega) (HT.out.below B4.out) (by omega)).mono ?_
  rintro e w5 ⟨rfl, t5, g5⟩
  have U5 := Lib.hid t5
  have T5 := Lib.hid (T4.out.grown g5 (Ne.symm hne))
  have B5 := Lib.hid (below_only B4.out g5 hz1')
  clear t5 g5 T4 U4 B4
  go_wp2_with fail
  refine (write_any _ gt l0 A2 l2 c2 T5.out (apart_old S2.out B5.out (by omega)) k2 (by omega) (HT.out.below B5.out) (by omega)).mono ?_
  rintro e w6 ⟨rfl, t6, g6⟩
  have T6 := Lib.hid t6
  have U6 := Lib.hid (U5.out.grown g6 hne)
  have B6 := Lib.hid (below_only B5.out g6 (by omega))
  clear t6 g6 T5 U5 B5
  have HO := Made.nil 5 w6
  go_wp2_with (at_builtin; refine wpList_append_bytes _ rfl _ _ 28 rfl 5 i0 (.int .u8 0) Tryd.underlying28 hi hz0 hz1 hz2 rfl w6 _ [] A0 l0 c0 rfl rfl HO ?a1 ?a2 ?_)
  case a1 => exact S0.out.below B6.out
  case a2 => simp; omega
  intro v7 w7 HM7 _
  go_wp2_with (at_builtin; refine wpList_append_bytes _ rfl _ _ 28 rfl 5 i0 (.int .u8 0) Tryd.underlying28 hi hz0 hz1 hz2 rfl w6 v7 l0 A1 l1 c1 rfl rfl HM7 ?a3 ?a4 ?_)
  case a3 => exact S1.out.below (hop B6.out HM7.2)
  case a4 => omega
  intro v8 w8 HM8 _
  obtain ⟨X, cx, hv8, sx, kx⟩ := HM8.form_cap
  obtain ⟨n1, hn1⟩ : ∃ n1, (l0 ++ l1).length = n1 := ⟨_, rfl⟩
  rw [hn1] at hv8 kx
  subst hv8
  have hb1 : n1 ≤ 2000 := by rw [← hn1, List.length_append]; omega
  have HN1 := Lib.hid hn1
  clear hn1
  have SX := Lib.hid sx
  have B8 := Lib.hid HM8.2
  have hz8 := HM8.2.size
  clear sx HM7 HM8 HO
  have HO := Made.nil 5 w8
  go_wp2_with (at_builtin; refine wpList_append_bytes _ rfl _ _ 28 rfl 5 i0 (.int .u8 0) Tryd.underlying28 hi hz0 hz1 hz2 rfl w8 _ [] A0 l0 c0 rfl rfl HO ?a5 ?a6 ?_)
  case a5 => exact S0.out.below (hop B6.out B8.out)
  case a6 => simp; omega
  intro v9 w9 HM9 _
  go_wp2_with (at_builtin; refine wpList_append_bytes _ rfl _ _ 28 rfl 5 i0 (.int .u8 0) Tryd.underlying28 hi hz0 hz1 hz2 rfl w8 v9 l0 A2 l2 c2 rfl rfl HM9 ?a7 ?a8 ?_)
  case a7 => exact S2.out.below (hop (hop B6.out B8.out) HM9.2)
  case a8 => omega
  intro v10 w10 HM10 _
  obtain ⟨Y, cy, hv10, sy, ky⟩ := HM10.form_cap
  obtain ⟨n2, hn2⟩ : ∃ n2, (l0 ++ l2).length = n2 := ⟨_, rfl⟩
  rw [hn2] at hv10 ky
  subst hv10
  have hb2 : n2 ≤ 2000 := by rw [← hn2, List.length_append]; omega
  have BX := Lib.hid (hop B8.out HM10.2)
  have BW := Lib.hid (hop B6.out BX.out)
  obtain ⟨L1, h32, hs1, hx1, hl1⟩ := sums_named (c := cx) HN1.out (U6.out.below BX.out) (SX.out.below HM10.2) kx (by omega) (HT.out.below BW.out)
  obtain ⟨L2, h32', hs2, hx2, hl2⟩ := sums_named (c := cy) hn2 (T6.out.below BX.out) sy ky (by omega) (HT.out.below BW.out)
  have N1 := Lib.hid h32
  have N2 := Lib.hid h32'
  have K1 := Lib.hid hs1
  have K2 := Lib.hid hs2
  have M1 := Lib.hid hx1
  have M2 := Lib.hid hx2
  have E1 := Lib.hid hl1
  have E2 := Lib.hid hl2
  clear h32 h32' hs1 hs2 hx1 hx2 hl1 hl2 SX B8 B6 HM9 HM10 HO sy T6 U6 BX kx ky hn2 HN1
  have en1 : ((n1 : Int) == (n1 : Int)) = true := by simp
  have en2 : ((n2 : Int) == (n2 : Int)) = true := by simp
  go_wp2_with fail
  go_region_held_law (fun w' => Below w10.heap.size w10 w') (first | exact (Below.refl _ _).drew | assumption | (exact hop ‹Below w10.heap.size w10 _› (by assumption)))
    (first
      | (go_at_call 17; (first | (with_reducible refine (K1.out _ ?_).mono ?_) | (with_reducible refine (K2.out _ ?_).mono ?_)); (assumption); rintro e w4 ⟨A4, rfl, hs4, hb4⟩; have hu4 := text_on hs4 32 32 (by first | exact N1.out | exact N2.out) _ (Below.refl _ _); have HS4 := Lib.hid hs4; have HB4 := Lib.hid hb4; clear hs4)
      | (go_at_call 13; (first | (with_reducible refine (M1.out _ ?_).mono ?_) | (with_reducible refine (M2.out _ ?_).mono ?_)); (assumption); rintro e w5 ⟨A5, rfl, hs5, hb5⟩; have hu5 := text_on hs5 32 32 (by first | exact N1.out | exact N2.out) _ (Below.refl _ _); have hu45 := text_on HS4.out 32 32 (by first | exact N1.out | exact N2.out) _ hb5; clear hs5)
      | (go_at_call 18; (first | (with_reducible refine (E1.out _ ?_).mono ?_) | (with_reducible refine (E2.out _ ?_).mono ?_)); (assumption); rintro e w4 ⟨rfl, rfl⟩))
  all_goals go_wp2_with fail
  all_goals go_ret
  all_goals exact ⟨rfl, hop BW.out (by assumption)⟩
theorem shaCopies_walk (A0 : Option Addr) (l0 : List UInt8) (c0 : Nat) (A1 : Option Addr) (l1 : List UInt8) (c1 : Nat) (A2 : Option Addr) (l2 : List UInt8) (c2 : Nat) (w : World)
    (b0 : l0.length ≤ 140737488351232) (s0 : Seen w A0 l0) (k0 : l0.length ≤ c0) (b1 : l1.length ≤ 140737488351232) (s1 : Seen w A1 l1) (k1 : l1.length ≤ c1) (b2 : l2.length ≤ 140737488351232) (s2 : Seen w A2 l2) (k2 : l2.length ≤ c2) (ht : Tabs w) :
    Calls Tryd.prog 6 #[.slice A0 l0.length c0, .slice A1 l1.length c1, .slice A2 l2.length c2] w fun e w' => e = .returned (.bool true) ∧ Below w.heap.size w w' := by
  by_cases h : 1000 < l0.length ∨ 1000 < l1.length ∨ 1000 < l2.length
  · exact shaCopies_long A0 l0 c0 A1 l1 c1 A2 l2 c2 w b0 b1 b2 ht h
  · exact shaCopies_short A0 l0 c0 A1 l1 c1 A2 l2 c2 w (by omega) s0 k0 (by omega) s1 k1 (by omega) s2 k2 ht
end Go.Proofs.YtoajhpbcpbaiiaaDoor
