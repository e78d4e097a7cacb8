/-
  TupleSorted, walked. Conditions: the rows are there.
-/
import Derived.Test.YtehabjiacgibpaaGreatCTuZ
import Derived.Test.YtehabjiacgibpaaGreatCTpAw
namespace Go.Proofs.YtehabjiacgibpaaGreat
open Go.RowKit
set_option maxRecDepth 100000 in
set_option maxHeartbeats 4000000 in
theorem tupleSorted_walk (A : Option Addr) (l : List Tup) (c : Nat) (B : Option Addr) (more : List Tup) (d : Nat) (q0 q1 q2 q3 q4 q5 : Txt) (W : World) (_ : l.length ≤ 9223372036854775807) (hA : TuR W A l) (_ : more.length ≤ 9223372036854775807) (hB : TuR W B more) (_ : q0.length ≤ 9223372036854775807) (_ : q1.length ≤ 9223372036854775807) (_ : q2.length ≤ 9223372036854775807) (_ : q3.length ≤ 9223372036854775807) (_ : q4.length ≤ 9223372036854775807) (_ : q5.length ≤ 9223372036854775807) :
    Calls Tryz.prog 5 #[.slice A l.length c, .slice B more.length d, .agg #[strV q0, strV q1, strV q2, strV q3, strV q4, strV q5]] W fun e w' => e = .returned (.bool true) ∧ Below W.heap.size W w' := by
  obtain ⟨W1, hW⟩ : ∃ W1, W1 = W.alloc (.cells #[strV q0, strV q1, strV q2, strV q3, strV q4, strV q5] 34) := ⟨_, rfl⟩
  have hKT : Blk W1 W.heap.size [strV q0, strV q1, strV q2, strV q3, strV q4, strV q5] 34 := by rw [hW]; exact Blk.new _ _ _
  have HB0 : Hid (Below W.heap.size W W1) := by rw [hW]; exact Lib.hid ((Below.refl _ _).alloc (Nat.le_refl _) _)
  have HY : Hid (∀ w, Below W1.heap.size W1 w → SixAt W.heap.size 0 q0 q1 q2 q3 q4 q5 w) := Lib.hid (fun w hw => by
    have h2 := hKT.below hw hKT.lt
    exact ⟨h2.cell (i := 0) (by simp), h2.cell (i := 1) (by simp), h2.cell (i := 2) (by simp), h2.cell (i := 3) (by simp), h2.cell (i := 4) (by simp), h2.cell (i := 5) (by simp)⟩)
  have HW := Lib.hid hW
  have HA := Lib.hid (awake_any W1)
  have HRl := Lib.hid (hA.below HB0.out)
  have HRm := Lib.hid (hB.below HB0.out)
  obtain ⟨x, hx⟩ : ∃ x, x = l.length := ⟨_, rfl⟩
  obtain ⟨y, hy⟩ : ∃ y, y = more.length := ⟨_, rfl⟩
  rw [← hx, ← hy]
  have HNl := Lib.hid hx
  have HNm := Lib.hid hy
  clear hA hB hx hy hW hKT
  go_enter Tryz.func5, Tryz.ntmps5
  go_wp2_with fail
  show Calls _ _ _ (W.alloc (.cells #[strV q0, strV q1, strV q2, strV q3, strV q4, strV q5] 34)) _
  rw [← HW.out]
  refine HA.out.mono ?_
  rintro e w1 ⟨rfl, hb1⟩
  by_cases hx1 : 60 < x
  · have hd : (60 : Int) < (x : Int) := by omega
    have hdd : decide (60 < x) = true := decide_eq_true hx1
    clear hx1
    go_wp2_with fail
    go_ret
    exact ⟨rfl, HB0.out.trans (hb1.mono HB0.out.size)⟩
  have hx2 : (x : Int) ≤ 60 := by omega
  have hx3 : decide (60 < x) = false := decide_eq_false hx1
  by_cases hy1 : 60 < y
  · have hd : (60 : Int) < (y : Int) := by omega
    have hdd : decide (60 < y) = true := decide_eq_true hy1
    clear hy1 hx1
    go_wp2_with fail
    go_ret
    exact ⟨rfl, HB0.out.trans (hb1.mono HB0.out.size)⟩
  have hy2 : (y : Int) ≤ 60 := by omega
  have hy3 : decide (60 < y) = false := decide_eq_false hy1
  have HXl : Hid (l.length ≤ 60) := Lib.hid (by rw [← HNl.out]; omega)
  have HXm : Hid (more.length ≤ 60) := Lib.hid (by rw [← HNm.out]; omega)
  have HB1 := Lib.hid hb1
  have HRl := Lib.hid (HRl.out.below hb1)
  have HRm := Lib.hid (HRm.out.below hb1)
  have HO : Hid (Ord.Srt lessT (Ord.insAll lessT [] l)) := Lib.hid (Ord.Srt.insAll ordT srt_nil)
  have HXS : Hid ((Ord.insAll lessT [] l).length ≤ 60) := Lib.hid (by have := insAll_len l []; have := HXl.out; simp at *; omega)
  obtain ⟨S, hS⟩ : ∃ S, S = Ord.insAll lessT [] l := ⟨_, rfl⟩
  rw [← hS] at HO HXS
  have HSS := Lib.hid hS
  obtain ⟨T, hT⟩ : ∃ T, T = Ord.insAll lessT S more := ⟨_, rfl⟩
  obtain ⟨R, hR⟩ : ∃ R, R = Ord.rem S more := ⟨_, rfl⟩
  have HT := Lib.hid hT
  have HRR := Lib.hid hR
  have HGI : Hid (Ord.rem T more = R) := Lib.hid (by rw [hT, hR]; exact Ord.goes_in lessT ordT HO.out)
  have HGO : Hid (Ord.insAll lessT R more = T) := Lib.hid (by rw [hT, hR]; exact Ord.goes_out lessT ordT HO.out)
  have HOT : Hid (Ord.Srt lessT T) := Lib.hid (by rw [hT]; exact Ord.Srt.insAll ordT HO.out)
  have HOR : Hid (Ord.Srt lessT R) := Lib.hid (by rw [hR]; exact HO.out.rem more)
  have HXT : Hid (T.length ≤ 120) := Lib.hid (by have := insAll_len more S; have := HXS.out; have := HXm.out; rw [hT]; omega)
  have HXR : Hid (R.length ≤ 60) := Lib.hid (by have := rem_len S more; have := HXS.out; rw [hR]; omega)
  have HMT : Hid (∀ t, t ∈ T ↔ t ∈ l ∨ t ∈ more) := Lib.hid (fun t => by
    rw [hT, Ord.mem_insAll, hS, Ord.mem_insAll]
    simp)
  obtain ⟨av, hav⟩ : ∃ v, decide ((q0, q1, q2, q3, q4, q5) ∈ l) = v := ⟨_, rfl⟩
  obtain ⟨bv, hbv⟩ : ∃ v, decide ((q0, q1, q2, q3, q4, q5) ∈ more) = v := ⟨_, rfl⟩
  obtain ⟨cv, hcv⟩ : ∃ v, decide ((q0, q1, q2, q3, q4, q5) ∈ T) = v := ⟨_, rfl⟩
  have HCV : Hid (cv = (av || bv)) := Lib.hid (by
    rw [← hav, ← hbv, ← hcv, Bool.eq_iff_iff, Bool.or_eq_true, decide_eq_true_iff, decide_eq_true_iff, decide_eq_true_iff]
    exact HMT.out _)
  have HAV := Lib.hid hav
  have HBV := Lib.hid hbv
  have HCC := Lib.hid hcv
  clear hS hT hR hb1 hx1 hy1 hav hbv hcv
  go_wp2_with fail
  refine (insert_n (A := none) (r := []) srt_nil rfl HNl.out (TuR.nil _ _) HRl.out (by simp) (by have := HXl.out; omega)).mono ?_
  rintro e w2 ⟨A2, n2, c2, rfl, hn2, hr2, hb2⟩
  rw [← HSS.out] at hn2 hr2
  have HN2 := Lib.hid hn2
  have HR2 := Lib.hid hr2
  have HB2 := Lib.hid (hop HB1.out hb2)
  have HRl := Lib.hid (HRl.out.below hb2)
  have HRm := Lib.hid (HRm.out.below hb2)
  clear hn2 hr2 hb2
  go_wp2_with fail
  refine (insert_n HO.out HN2.out HNm.out HR2.out HRm.out (by have := HXS.out; omega) (by have := HXm.out; omega)).mono ?_
  rintro e w3 ⟨A3, n3, c3, rfl, hn3, hr3, hb3⟩
  rw [← HT.out] at hn3 hr3
  have HN3 := Lib.hid hn3
  have HR3 := Lib.hid hr3
  have HB3 := Lib.hid (hop HB2.out hb3)
  have HRl := Lib.hid (HRl.out.below hb3)
  have HRm := Lib.hid (HRm.out.below hb3)
  have HR2 := Lib.hid (HR2.out.below hb3)
  clear hn3 hr3 hb3
  have yy := HY.out w3 HB3.out
  unfold SixAt at yy
  obtain ⟨y0, y1, y2, y3, y4, y5⟩ := yy
  simp only [Nat.zero_add] at y0 y1 y2 y3 y4 y5
  go_wp2_with fail
  refine (has_n HNl.out HAV.out HRl.out (by have := HXl.out; omega)).mono ?_
  rintro e w4 ⟨rfl, hb4⟩
  have HB4 := Lib.hid (hop HB3.out hb4)
  clear y0 y1 y2 y3 y4 y5
  have HRl := Lib.hid (HRl.out.below hb4)
  have HRm := Lib.hid (HRm.out.below hb4)
  have HR2 := Lib.hid (HR2.out.below hb4)
  have HR3 := Lib.hid (HR3.out.below hb4)
  clear hb4
  have yy := HY.out w4 HB4.out
  unfold SixAt at yy
  obtain ⟨y0, y1, y2, y3, y4, y5⟩ := yy
  simp only [Nat.zero_add] at y0 y1 y2 y3 y4 y5
  go_wp2_with fail
  refine (has_n HNm.out HBV.out HRm.out (by have := HXm.out; omega)).mono ?_
  rintro e w5 ⟨rfl, hb5⟩
  have HB5 := Lib.hid (hop HB4.out hb5)
  clear y0 y1 y2 y3 y4 y5
  have HRl := Lib.hid (HRl.out.below hb5)
  have HRm := Lib.hid (HRm.out.below hb5)
  have HR2 := Lib.hid (HR2.out.below hb5)
  have HR3 := Lib.hid (HR3.out.below hb5)
  clear hb5
  have yy := HY.out w5 HB5.out
  unfold SixAt at yy
  obtain ⟨y0, y1, y2, y3, y4, y5⟩ := yy
  simp only [Nat.zero_add] at y0 y1 y2 y3 y4 y5
  go_wp2_with fail
  refine (has_n HN3.out HCC.out HR3.out (by have := HXT.out; omega)).mono ?_
  rintro e w6 ⟨rfl, hb6⟩
  have HB6 := Lib.hid (hop HB5.out hb6)
  clear y0 y1 y2 y3 y4 y5
  have HRl := Lib.hid (HRl.out.below hb6)
  have HRm := Lib.hid (HRm.out.below hb6)
  have HR2 := Lib.hid (HR2.out.below hb6)
  have HR3 := Lib.hid (HR3.out.below hb6)
  clear hb6
  go_wp2_with fail
  go_loopw [12, 13] (fun av' i wr => av' = .bool true ∧ ∃ j : Nat, j ≤ y ∧ i = .int .i64 j ∧ Hid (Below w6.heap.size w6 wr)) (fun _ i _ => y - (intOf i).toNat)
  case atStart => exact ⟨rfl, 0, by omega, rfl, Lib.hid (Below.refl _ _)⟩
  case round =>
    obtain ⟨rfl, j, hj, rfl, BW⟩ := hrel
    by_cases hlt : j < y
    · have hjm : j < more.length := by rw [← HNm.out]; exact hlt
      obtain ⟨b, off, p0, p1, p2, p3, p4, p5, hBB, hp, hc⟩ := HRm.out.at hjm
      obtain ⟨z0, z1, z2, z3, z4, z5⟩ := hc wr BW.out
      have HH := Lib.hid (has_n (q0 := p0) (q1 := p1) (q2 := p2) (q3 := p3) (q4 := p4) (q5 := p5) (c := c3) (v := true) HN3.out (decide_eq_true ((HMT.out _).2 (.inr (by rw [← hp]; exact List.getElem_mem hjm)))) (HR3.out.below BW.out) (by have := HXT.out; omega))
      subst hBB
      clear hc hp
      go_wp2_with fail
      refine HH.out.mono ?_
      rintro e wz ⟨rfl, hbz⟩
      have HBZ := Lib.hid (hop BW.out hbz)
      clear z0 z1 z2 z3 z4 z5 hbz HH
      go_wp2_with fail
      go_roundw
      case rel => exact ⟨rfl, j + 1, by omega, by go_num, HBZ⟩
      case measure => simp [intOf]; omega
    · have hj2 : ¬ ((j : Int) < (y : Int)) := by omega
      have HIN := Lib.hid (in_n (c := c3) HOT.out HN3.out (HR3.out.below BW.out) (by have := HXT.out; omega))
      have HBL := Lib.hid (hop HB6.out BW.out)
      have hcv := HCV.out
      cases av with
      | true =>
        obtain rfl : cv = true := hcv
        clear HCV
        go_wp2_with fail
        refine HIN.out.mono ?_
        rintro e wz ⟨rfl, hbz⟩
        go_wp2_with fail
        go_ret
        exact ⟨rfl, HB0.out.trans ((hop HBL.out hbz).mono HB0.out.size)⟩
      | false =>
        obtain rfl : cv = bv := hcv
        have hvv : (cv == cv) = true := by simp
        clear HCV
        go_wp2_with fail
        refine HIN.out.mono ?_
        rintro e wz ⟨rfl, hbz⟩
        go_wp2_with fail
        go_ret
        exact ⟨rfl, HB0.out.trans ((hop HBL.out hbz).mono HB0.out.size)⟩
end Go.Proofs.YtehabjiacgibpaaGreat
