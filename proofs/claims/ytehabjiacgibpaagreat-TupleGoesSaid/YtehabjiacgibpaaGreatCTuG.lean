/-
  TupleGoes, walked. Conditions: the rows are there.
-/
import Derived.Test.YtehabjiacgibpaaGreatCTuZ
import Derived.Test.YtehabjiacgibpaaGreatCTpAw
namespace Go.Proofs.YtehabjiacgibpaaGreat
open Go.RowKit
set_option maxRecDepth 100000 in
set_option maxHeartbeats 4000000 in
theorem tupleGoes_walk (A : Option Addr) (l : List Tup) (c : Nat) (B : Option Addr) (more : List Tup) (d : Nat) (W : World) (_ : l.length ≤ 9223372036854775807) (hA : TuR W A l) (_ : more.length ≤ 9223372036854775807) (hB : TuR W B more) :
    Calls Tryz.prog 4 #[.slice A l.length c, .slice B more.length d] W fun e w' => e = .returned (.bool true) ∧ Below W.heap.size W w' := by
  have HA := Lib.hid (awake_any W)
  have HRl := Lib.hid hA
  have HRm := Lib.hid hB
  obtain ⟨x, hx⟩ : ∃ x, x = l.length := ⟨_, rfl⟩
  obtain ⟨y, hy⟩ : ∃ y, y = more.length := ⟨_, rfl⟩
  rw [← hx, ← hy]
  have HNl := Lib.hid hx
  have HNm := Lib.hid hy
  clear hA hB hx hy
  go_enter Tryz.func4, Tryz.ntmps4
  go_wp2_with fail
  refine HA.out.mono ?_
  rintro e w1 ⟨rfl, hb1⟩
  by_cases hx1 : 60 < x
  · have hd : (60 : Int) < (x : Int) := by omega
    have hdd : decide (60 < x) = true := decide_eq_true hx1
    clear hx1
    go_wp2_with fail
    go_ret
    exact ⟨rfl, hb1⟩
  have hx2 : (x : Int) ≤ 60 := by omega
  have hx3 : decide (60 < x) = false := decide_eq_false hx1
  by_cases hy1 : 60 < y
  · have hd : (60 : Int) < (y : Int) := by omega
    have hdd : decide (60 < y) = true := decide_eq_true hy1
    clear hy1 hx1
    go_wp2_with fail
    go_ret
    exact ⟨rfl, hb1⟩
  have hy2 : (y : Int) ≤ 60 := by omega
  have hy3 : decide (60 < y) = false := decide_eq_false hy1
  have HXl : Hid (l.length ≤ 60) := Lib.hid (by rw [← HNl.out]; omega)
  have HXm : Hid (more.length ≤ 60) := Lib.hid (by rw [← HNm.out]; omega)
  have HB1 := Lib.hid hb1
  have HRl := Lib.hid (HRl.out.below hb1)
  have HRm := Lib.hid (HRm.out.below hb1)
  have HO : Hid (Ord.Srt lessT (Ord.insAll lessT [] l)) := Lib.hid (Ord.Srt.insAll ordT srt_nil)
  have HXS : Hid ((Ord.insAll lessT [] l).length ≤ 60) := Lib.hid (by have := insAll_len l []; have := HXl.out; simp at *; omega)
  obtain ⟨S, hS⟩ : ∃ S, S = Ord.insAll lessT [] l := ⟨_, rfl⟩
  rw [← hS] at HO HXS
  have HSS := Lib.hid hS
  obtain ⟨T, hT⟩ : ∃ T, T = Ord.insAll lessT S more := ⟨_, rfl⟩
  obtain ⟨R, hR⟩ : ∃ R, R = Ord.rem S more := ⟨_, rfl⟩
  have HT := Lib.hid hT
  have HRR := Lib.hid hR
  have HGI : Hid (Ord.rem T more = R) := Lib.hid (by rw [hT, hR]; exact Ord.goes_in lessT ordT HO.out)
  have HGO : Hid (Ord.insAll lessT R more = T) := Lib.hid (by rw [hT, hR]; exact Ord.goes_out lessT ordT HO.out)
  have HOT : Hid (Ord.Srt lessT T) := Lib.hid (by rw [hT]; exact Ord.Srt.insAll ordT HO.out)
  have HOR : Hid (Ord.Srt lessT R) := Lib.hid (by rw [hR]; exact HO.out.rem more)
  have HXT : Hid (T.length ≤ 120) := Lib.hid (by have := insAll_len more S; have := HXS.out; have := HXm.out; rw [hT]; omega)
  have HXR : Hid (R.length ≤ 60) := Lib.hid (by have := rem_len S more; have := HXS.out; rw [hR]; omega)
  clear hS hT hR hb1 hx1 hy1
  go_wp2_with fail
  refine (insert_n (A := none) (r := []) srt_nil rfl HNl.out (TuR.nil _ _) HRl.out (by simp) (by have := HXl.out; omega)).mono ?_
  rintro e w2 ⟨A2, n2, c2, rfl, hn2, hr2, hb2⟩
  rw [← HSS.out] at hn2 hr2
  have HN2 := Lib.hid hn2
  have HR2 := Lib.hid hr2
  have HB2 := Lib.hid (hop HB1.out hb2)
  have HRl := Lib.hid (HRl.out.below hb2)
  have HRm := Lib.hid (HRm.out.below hb2)
  clear hn2 hr2 hb2
  go_wp2_with fail
  refine (insert_n HO.out HN2.out HNm.out HR2.out HRm.out (by have := HXS.out; omega) (by have := HXm.out; omega)).mono ?_
  rintro e w3 ⟨A3, n3, c3, rfl, hn3, hr3, hb3⟩
  rw [← HT.out] at hn3 hr3
  have HN3 := Lib.hid hn3
  have HR3 := Lib.hid hr3
  have HB3 := Lib.hid (hop HB2.out hb3)
  have HRl := Lib.hid (HRl.out.below hb3)
  have HRm := Lib.hid (HRm.out.below hb3)
  have HR2 := Lib.hid (HR2.out.below hb3)
  clear hn3 hr3 hb3
  go_wp2_with fail
  refine (remove_n HN3.out HNm.out HR3.out HRm.out (by have := HXT.out; omega) (by have := HXm.out; omega)).mono ?_
  rintro e w4 ⟨A4, n4, c4, rfl, hn4, hr4, hb4⟩
  rw [HGI.out] at hn4 hr4
  have HN4 := Lib.hid hn4
  have HR4 := Lib.hid hr4
  have HB4 := Lib.hid (hop HB3.out hb4)
  have HRl := Lib.hid (HRl.out.below hb4)
  have HRm := Lib.hid (HRm.out.below hb4)
  have HR2 := Lib.hid (HR2.out.below hb4)
  have HR3 := Lib.hid (HR3.out.below hb4)
  clear hn4 hr4 hb4
  go_wp2_with fail
  refine (remove_n HN2.out HNm.out HR2.out HRm.out (by have := HXS.out; omega) (by have := HXm.out; omega)).mono ?_
  rintro e w5 ⟨A5, n5, c5, rfl, hn5, hr5, hb5⟩
  rw [← HRR.out] at hn5 hr5
  have HN5 := Lib.hid hn5
  have HR5 := Lib.hid hr5
  have HB5 := Lib.hid (hop HB4.out hb5)
  have HRl := Lib.hid (HRl.out.below hb5)
  have HRm := Lib.hid (HRm.out.below hb5)
  have HR2 := Lib.hid (HR2.out.below hb5)
  have HR3 := Lib.hid (HR3.out.below hb5)
  have HR4 := Lib.hid (HR4.out.below hb5)
  clear hn5 hr5 hb5
  go_wp2_with fail
  refine (insert_n HOR.out HN5.out HNm.out HR5.out HRm.out (by have := HXR.out; omega) (by have := HXm.out; omega)).mono ?_
  rintro e w6 ⟨A6, n6, c6, rfl, hn6, hr6, hb6⟩
  rw [HGO.out] at hn6 hr6
  have HN6 := Lib.hid hn6
  have HR6 := Lib.hid hr6
  have HB6 := Lib.hid (hop HB5.out hb6)
  have HRl := Lib.hid (HRl.out.below hb6)
  have HRm := Lib.hid (HRm.out.below hb6)
  have HR2 := Lib.hid (HR2.out.below hb6)
  have HR3 := Lib.hid (HR3.out.below hb6)
  have HR4 := Lib.hid (HR4.out.below hb6)
  have HR5 := Lib.hid (HR5.out.below hb6)
  clear hn6 hr6 hb6
  go_wp2_with fail
  refine (remove_n HN2.out HNm.out HR2.out HRm.out (by have := HXS.out; omega) (by have := HXm.out; omega)).mono ?_
  rintro e w7 ⟨A7, n7, c7, rfl, hn7, hr7, hb7⟩
  rw [← HRR.out] at hn7 hr7
  have HN7 := Lib.hid hn7
  have HR7 := Lib.hid hr7
  have HB7 := Lib.hid (hop HB6.out hb7)
  have HRl := Lib.hid (HRl.out.below hb7)
  have HRm := Lib.hid (HRm.out.below hb7)
  have HR2 := Lib.hid (HR2.out.below hb7)
  have HR3 := Lib.hid (HR3.out.below hb7)
  have HR4 := Lib.hid (HR4.out.below hb7)
  have HR5 := Lib.hid (HR5.out.below hb7)
  have HR6 := Lib.hid (HR6.out.below hb7)
  clear hn7 hr7 hb7
  go_wp2_with fail
  refine (lists_n HN4.out HN7.out HR4.out HR7.out (by have := HXR.out; omega)).mono ?_
  rintro e w8 ⟨rfl, hb8⟩
  have HB8 := Lib.hid (hop HB7.out hb8)
  have HRl := Lib.hid (HRl.out.below hb8)
  have HRm := Lib.hid (HRm.out.below hb8)
  have HR2 := Lib.hid (HR2.out.below hb8)
  have HR3 := Lib.hid (HR3.out.below hb8)
  have HR4 := Lib.hid (HR4.out.below hb8)
  have HR5 := Lib.hid (HR5.out.below hb8)
  have HR6 := Lib.hid (HR6.out.below hb8)
  have HR7 := Lib.hid (HR7.out.below hb8)
  clear hb8
  go_wp2_with fail
  refine (insert_n HO.out HN2.out HNm.out HR2.out HRm.out (by have := HXS.out; omega) (by have := HXm.out; omega)).mono ?_
  rintro e w9 ⟨A9, n9, c9, rfl, hn9, hr9, hb9⟩
  rw [← HT.out] at hn9 hr9
  have HN9 := Lib.hid hn9
  have HR9 := Lib.hid hr9
  have HB9 := Lib.hid (hop HB8.out hb9)
  have HRl := Lib.hid (HRl.out.below hb9)
  have HRm := Lib.hid (HRm.out.below hb9)
  have HR2 := Lib.hid (HR2.out.below hb9)
  have HR3 := Lib.hid (HR3.out.below hb9)
  have HR4 := Lib.hid (HR4.out.below hb9)
  have HR5 := Lib.hid (HR5.out.below hb9)
  have HR6 := Lib.hid (HR6.out.below hb9)
  have HR7 := Lib.hid (HR7.out.below hb9)
  clear hn9 hr9 hb9
  go_wp2_with fail
  refine (lists_n HN6.out HN9.out HR6.out HR9.out (by have := HXT.out; omega)).mono ?_
  rintro e w10 ⟨rfl, hb10⟩
  have HB10 := Lib.hid (hop HB9.out hb10)
  have HRl := Lib.hid (HRl.out.below hb10)
  have HRm := Lib.hid (HRm.out.below hb10)
  have HR2 := Lib.hid (HR2.out.below hb10)
  have HR3 := Lib.hid (HR3.out.below hb10)
  have HR4 := Lib.hid (HR4.out.below hb10)
  have HR5 := Lib.hid (HR5.out.below hb10)
  have HR6 := Lib.hid (HR6.out.below hb10)
  have HR7 := Lib.hid (HR7.out.below hb10)
  have HR9 := Lib.hid (HR9.out.below hb10)
  clear hb10
  go_wp2_with fail
  go_ret
  exact ⟨rfl, HB10.out⟩
end Go.Proofs.YtehabjiacgibpaaGreat
