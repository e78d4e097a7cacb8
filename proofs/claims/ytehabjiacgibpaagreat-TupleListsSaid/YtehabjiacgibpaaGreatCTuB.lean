/-
  TupleLists, walked. Conditions: the rows are there.
-/
import Derived.Test.YtehabjiacgibpaaGreatCTuZ
import Derived.Test.YtehabjiacgibpaaGreatCTpAw
namespace Go.Proofs.YtehabjiacgibpaaGreat
open Go.RowKit
set_option maxRecDepth 100000 in
set_option maxHeartbeats 4000000 in
theorem tupleLists_walk (A : Option Addr) (l : List Tup) (c : Nat) (B : Option Addr) (more : List Tup) (d : Nat) (o1 o2 : Txt) (rs : ByteArray) (W : World) (_ : l.length ≤ 9223372036854775807) (hA : TuR W A l) (_ : more.length ≤ 9223372036854775807) (hB : TuR W B more) (_ : o1.length ≤ 9223372036854775807) (_ : o2.length ≤ 9223372036854775807) (_ : rs.size ≤ 140737488351232) :
    Calls Tryz.prog 3 #[.slice A l.length c, .slice B more.length d, .agg #[strV o1, strV o2], .string rs] W fun e w' => e = .returned (.bool true) ∧ Below W.heap.size W w' := by
  obtain ⟨rel, rfl⟩ : ∃ T : Txt, rs = ⟨T.toArray⟩ := ⟨rs.data.toList, by rw [Array.toArray_toList]⟩
  obtain ⟨W1, hW⟩ : ∃ W1, W1 = W.alloc (.cells #[strV o1, strV o2] 24) := ⟨_, rfl⟩
  have hKT : Blk W1 W.heap.size [strV o1, strV o2] 24 := by rw [hW]; exact Blk.new _ _ _
  have HB0 : Hid (Below W.heap.size W W1) := by rw [hW]; exact Lib.hid ((Below.refl _ _).alloc (Nat.le_refl _) _)
  have HY : Hid (∀ w, Below W1.heap.size W1 w → w.cell? ⟨W.heap.size, 0, none⟩ = some (strV o1) ∧ w.cell? ⟨W.heap.size, 1, none⟩ = some (strV o2)) := Lib.hid (fun w hw => by
    have h2 := hKT.below hw hKT.lt
    exact ⟨h2.cell (i := 0) (by simp), h2.cell (i := 1) (by simp)⟩)
  have HW := Lib.hid hW
  have HA := Lib.hid (awake_any W1)
  have HRl := Lib.hid (hA.below HB0.out)
  have HRm := Lib.hid (hB.below HB0.out)
  obtain ⟨x, hx⟩ : ∃ x, x = l.length := ⟨_, rfl⟩
  obtain ⟨y, hy⟩ : ∃ y, y = more.length := ⟨_, rfl⟩
  rw [← hx, ← hy]
  have HNl := Lib.hid hx
  have HNm := Lib.hid hy
  clear hA hB hx hy hW hKT
  show Calls _ _ #[.slice A x c, .slice B y d, .agg #[strV o1, strV o2], strV rel] _ _
  go_enter Tryz.func3, Tryz.ntmps3
  go_wp2_with fail
  show Calls _ _ _ (W.alloc (.cells #[strV o1, strV o2] 24)) _
  rw [← HW.out]
  refine HA.out.mono ?_
  rintro e w1 ⟨rfl, hb1⟩
  by_cases hx1 : 60 < x
  · have hd : (60 : Int) < (x : Int) := by omega
    have hdd : decide (60 < x) = true := decide_eq_true hx1
    clear hx1
    go_wp2_with fail
    go_ret
    exact ⟨rfl, HB0.out.trans (hb1.mono HB0.out.size)⟩
  have hx2 : (x : Int) ≤ 60 := by omega
  have hx3 : decide (60 < x) = false := decide_eq_false hx1
  by_cases hy1 : 60 < y
  · have hd : (60 : Int) < (y : Int) := by omega
    have hdd : decide (60 < y) = true := decide_eq_true hy1
    clear hy1 hx1
    go_wp2_with fail
    go_ret
    exact ⟨rfl, HB0.out.trans (hb1.mono HB0.out.size)⟩
  have hy2 : (y : Int) ≤ 60 := by omega
  have hy3 : decide (60 < y) = false := decide_eq_false hy1
  have HXl : Hid (l.length ≤ 60) := Lib.hid (by rw [← HNl.out]; omega)
  have HXm : Hid (more.length ≤ 60) := Lib.hid (by rw [← HNm.out]; omega)
  have HB1 := Lib.hid hb1
  have HRl := Lib.hid (HRl.out.below hb1)
  have HRm := Lib.hid (HRm.out.below hb1)
  have HO : Hid (Ord.Srt lessT (Ord.insAll lessT [] l)) := Lib.hid (Ord.Srt.insAll ordT srt_nil)
  have HXS : Hid ((Ord.insAll lessT [] l).length ≤ 60) := Lib.hid (by have := insAll_len l []; have := HXl.out; simp at *; omega)
  obtain ⟨S, hS⟩ : ∃ S, S = Ord.insAll lessT [] l := ⟨_, rfl⟩
  rw [← hS] at HO HXS
  have HSS := Lib.hid hS
  obtain ⟨T, hT⟩ : ∃ T, T = Ord.insAll lessT S more := ⟨_, rfl⟩
  obtain ⟨R, hR⟩ : ∃ R, R = Ord.rem S more := ⟨_, rfl⟩
  have HT := Lib.hid hT
  have HRR := Lib.hid hR
  have HGI : Hid (Ord.rem T more = R) := Lib.hid (by rw [hT, hR]; exact Ord.goes_in lessT ordT HO.out)
  have HGO : Hid (Ord.insAll lessT R more = T) := Lib.hid (by rw [hT, hR]; exact Ord.goes_out lessT ordT HO.out)
  have HOT : Hid (Ord.Srt lessT T) := Lib.hid (by rw [hT]; exact Ord.Srt.insAll ordT HO.out)
  have HOR : Hid (Ord.Srt lessT R) := Lib.hid (by rw [hR]; exact HO.out.rem more)
  have HXT : Hid (T.length ≤ 120) := Lib.hid (by have := insAll_len more S; have := HXS.out; have := HXm.out; rw [hT]; omega)
  have HXR : Hid (R.length ≤ 60) := Lib.hid (by have := rem_len S more; have := HXS.out; rw [hR]; omega)
  clear hS hT hR hb1 hx1 hy1
  go_wp2_with fail
  refine (refInsert_n (A := none) (r := []) rfl HNl.out (TuR.nil _ _) HRl.out (by simp) (by have := HXl.out; omega)).mono ?_
  rintro e w2 ⟨A2, n2, c2, rfl, hn2, hr2, hb2⟩
  rw [← HSS.out] at hn2 hr2
  have HN2 := Lib.hid hn2
  have HR2 := Lib.hid hr2
  have HB2 := Lib.hid (hop HB1.out hb2)
  have HRl := Lib.hid (HRl.out.below hb2)
  have HRm := Lib.hid (HRm.out.below hb2)
  clear hn2 hr2 hb2
  have hLS : S.length ≤ 1000000 := by have := HXS.out; omega
  go_wp2_with (at_builtin; refine wpList_tups0 rfl (.const (.slice none 0 0)) (.tmp 29) rfl rfl (by first | rfl | (simp [Act.eval]; done) | (simp [Act.eval, Act.put]; done)) HN2.out HR2.out hLS ?_; intro A3 c3 w3 ho3 hb3; have HR3 : Hid (TuR w3 A3 S) := Lib.hid (.of_own HN2.out ho3 (fun t ht => HR2.out.ok ht)); have HB3 := Lib.hid (hop HB2.out hb3); have HH3 := Lib.hid hb3; clear ho3 hb3)
  have HN3 := HN2
  have HRl := Lib.hid (HRl.out.below HH3.out)
  have HRm := Lib.hid (HRm.out.below HH3.out)
  have HR2 := Lib.hid (HR2.out.below HH3.out)
  go_wp2_with fail
  refine (insert_n HO.out HN3.out HNm.out HR3.out HRm.out (by have := HXS.out; omega) (by have := HXm.out; omega)).mono ?_
  rintro e w4 ⟨A4, n4, c4, rfl, hn4, hr4, hb4⟩
  rw [← HT.out] at hn4 hr4
  have HN4 := Lib.hid hn4
  have HR4 := Lib.hid hr4
  have HB4 := Lib.hid (hop HB3.out hb4)
  have HRl := Lib.hid (HRl.out.below hb4)
  have HRm := Lib.hid (HRm.out.below hb4)
  have HR2 := Lib.hid (HR2.out.below hb4)
  have HR3 := Lib.hid (HR3.out.below hb4)
  clear hn4 hr4 hb4
  go_wp2_with fail
  refine (refInsert_n HN2.out HNm.out HR2.out HRm.out (by have := HXS.out; omega) (by have := HXm.out; omega)).mono ?_
  rintro e w5 ⟨A5, n5, c5, rfl, hn5, hr5, hb5⟩
  rw [← HT.out] at hn5 hr5
  have HN5 := Lib.hid hn5
  have HR5 := Lib.hid hr5
  have HB5 := Lib.hid (hop HB4.out hb5)
  have HRl := Lib.hid (HRl.out.below hb5)
  have HRm := Lib.hid (HRm.out.below hb5)
  have HR2 := Lib.hid (HR2.out.below hb5)
  have HR3 := Lib.hid (HR3.out.below hb5)
  have HR4 := Lib.hid (HR4.out.below hb5)
  clear hn5 hr5 hb5
  go_wp2_with fail
  refine (lists_n HN4.out HN5.out HR4.out HR5.out (by have := HXT.out; omega)).mono ?_
  rintro e w6 ⟨rfl, hb6⟩
  have HB6 := Lib.hid (hop HB5.out hb6)
  have HRl := Lib.hid (HRl.out.below hb6)
  have HRm := Lib.hid (HRm.out.below hb6)
  have HR2 := Lib.hid (HR2.out.below hb6)
  have HR3 := Lib.hid (HR3.out.below hb6)
  have HR4 := Lib.hid (HR4.out.below hb6)
  have HR5 := Lib.hid (HR5.out.below hb6)
  clear hb6
  go_wp2_with fail
  refine (remove_n HN3.out HNm.out HR3.out HRm.out (by have := HXS.out; omega) (by have := HXm.out; omega)).mono ?_
  rintro e w7 ⟨A7, n7, c7, rfl, hn7, hr7, hb7⟩
  rw [← HRR.out] at hn7 hr7
  have HN7 := Lib.hid hn7
  have HR7 := Lib.hid hr7
  have HB7 := Lib.hid (hop HB6.out hb7)
  have HRl := Lib.hid (HRl.out.below hb7)
  have HRm := Lib.hid (HRm.out.below hb7)
  have HR2 := Lib.hid (HR2.out.below hb7)
  have HR3 := Lib.hid (HR3.out.below hb7)
  have HR4 := Lib.hid (HR4.out.below hb7)
  have HR5 := Lib.hid (HR5.out.below hb7)
  clear hn7 hr7 hb7
  go_wp2_with fail
  refine (refRemove_n HN2.out HNm.out HR2.out HRm.out (by have := HXS.out; omega) (by have := HXm.out; omega)).mono ?_
  rintro e w8 ⟨A8, n8, c8, rfl, hn8, hr8, hb8⟩
  rw [← HRR.out] at hn8 hr8
  have HN8 := Lib.hid hn8
  have HR8 := Lib.hid hr8
  have HB8 := Lib.hid (hop HB7.out hb8)
  have HRl := Lib.hid (HRl.out.below hb8)
  have HRm := Lib.hid (HRm.out.below hb8)
  have HR2 := Lib.hid (HR2.out.below hb8)
  have HR3 := Lib.hid (HR3.out.below hb8)
  have HR4 := Lib.hid (HR4.out.below hb8)
  have HR5 := Lib.hid (HR5.out.below hb8)
  have HR7 := Lib.hid (HR7.out.below hb8)
  clear hn8 hr8 hb8
  go_wp2_with fail
  refine (lists_n HN7.out HN8.out HR7.out HR8.out (by have := HXR.out; omega)).mono ?_
  rintro e w9 ⟨rfl, hb9⟩
  have HB9 := Lib.hid (hop HB8.out hb9)
  have HRl := Lib.hid (HRl.out.below hb9)
  have HRm := Lib.hid (HRm.out.below hb9)
  have HR2 := Lib.hid (HR2.out.below hb9)
  have HR3 := Lib.hid (HR3.out.below hb9)
  have HR4 := Lib.hid (HR4.out.below hb9)
  have HR5 := Lib.hid (HR5.out.below hb9)
  have HR7 := Lib.hid (HR7.out.below hb9)
  have HR8 := Lib.hid (HR8.out.below hb9)
  clear hb9
  obtain ⟨Q, hQ⟩ : ∃ Q, Q = S.filter (ofB o1 o2 rel) := ⟨_, rfl⟩
  have HXQ : Hid (Q.length ≤ 60) := Lib.hid (by rw [hQ]; exact Nat.le_trans (List.length_filter_le _ _) HXS.out)
  have EO : Hid (∀ w, Below w9.heap.size w9 w → Calls Tryz.prog 12 #[.slice A3 n2 c3, .agg #[strV o1, strV o2], strV rel] w (TupsP w Q)) := Lib.hid (fun w hw => by
    rw [hQ]; exact of_n o1 o2 rel HN3.out (HR3.out.below hw) (by have := HXS.out; omega))
  have ER : Hid (∀ w, Below w9.heap.size w9 w → Calls Tryz.prog 13 #[.slice A2 n2 c2, .agg #[strV o1, strV o2], strV rel] w (TupsP w Q)) := Lib.hid (fun w hw => by
    rw [hQ]; exact refOf_n o1 o2 rel HN2.out (HR2.out.below hw) (by have := HXS.out; omega))
  unfold TupsP at EO ER
  have hY0 : ∀ w, Below w9.heap.size w9 w → w.cell? ⟨W.heap.size, 0, none⟩ = some (strV o1) := fun w hw => (HY.out w (hop HB9.out hw)).1
  have hY1 : ∀ w, Below w9.heap.size w9 w → w.cell? ⟨W.heap.size, 1, none⟩ = some (strV o2) := fun w hw => (HY.out w (hop HB9.out hw)).2
  have bd := Below.refl w9.heap.size w9
  clear hQ
  go_wp2_with fail
  go_region_held_law (fun w' => Below w9.heap.size w9 w') (first | exact bd.drew | exact bd | assumption)
    (first
      | (go_at_call 12; refine (EO.out _ bd.drew).mono ?_; rintro e wa ⟨Aa, na, ca, rfl, hna, hra, hba⟩; have HNa := Lib.hid hna; have HRa := Lib.hid hra; have Ba : Below w9.heap.size w9 wa := hop bd.drew hba; clear hna hra hba)
      | (go_at_call 13; refine (ER.out _ Ba).mono ?_; rintro e wb ⟨Ab, nb, cb, rfl, hnb, hrb, hbb⟩; have HNb := Lib.hid hnb; have HRb := Lib.hid hrb; have HRa := Lib.hid (HRa.out.below hbb); have Bb : Below w9.heap.size w9 wb := hop Ba hbb; clear hnb hrb hbb)
      | (go_at_call 8; refine (lists_n HNa.out HNb.out HRa.out HRb.out (by have := HXQ.out; omega)).mono ?_; rintro e wc ⟨rfl, hbc⟩; have Bc : Below w9.heap.size w9 wc := hop Bb hbc; clear hbc))
  obtain ⟨w10, hwn⟩ : ∃ w, w = wc := ⟨_, rfl⟩
  rw [← hwn] at Bc
  rw [← hwn]
  have HBc := Lib.hid Bc
  clear hY0 hY1 hwn Ba Bb Bc bd
  have HB10 := Lib.hid (hop HB9.out HBc.out)
  have HRl := Lib.hid (HRl.out.below HBc.out)
  have HRm := Lib.hid (HRm.out.below HBc.out)
  have HR2 := Lib.hid (HR2.out.below HBc.out)
  have HR3 := Lib.hid (HR3.out.below HBc.out)
  have HR4 := Lib.hid (HR4.out.below HBc.out)
  have HR5 := Lib.hid (HR5.out.below HBc.out)
  have HR7 := Lib.hid (HR7.out.below HBc.out)
  have HR8 := Lib.hid (HR8.out.below HBc.out)
  go_wp2_with fail
  refine (lists_n HN3.out HN2.out HR3.out HR2.out (by have := HXS.out; omega)).mono ?_
  rintro e w11 ⟨rfl, hb11⟩
  have HB11 := Lib.hid (hop HB10.out hb11)
  have HRl := Lib.hid (HRl.out.below hb11)
  have HRm := Lib.hid (HRm.out.below hb11)
  have HR2 := Lib.hid (HR2.out.below hb11)
  have HR3 := Lib.hid (HR3.out.below hb11)
  have HR4 := Lib.hid (HR4.out.below hb11)
  have HR5 := Lib.hid (HR5.out.below hb11)
  have HR7 := Lib.hid (HR7.out.below hb11)
  have HR8 := Lib.hid (HR8.out.below hb11)
  clear hb11
  go_wp2_with fail
  refine (insert_n (A := none) (r := []) srt_nil rfl HNl.out (TuR.nil _ _) HRl.out (by simp) (by have := HXl.out; omega)).mono ?_
  rintro e w12 ⟨A12, n12, c12, rfl, hn12, hr12, hb12⟩
  rw [← HSS.out] at hn12 hr12
  have HN12 := Lib.hid hn12
  have HR12 := Lib.hid hr12
  have HB12 := Lib.hid (hop HB11.out hb12)
  have HRl := Lib.hid (HRl.out.below hb12)
  have HRm := Lib.hid (HRm.out.below hb12)
  have HR2 := Lib.hid (HR2.out.below hb12)
  have HR3 := Lib.hid (HR3.out.below hb12)
  have HR4 := Lib.hid (HR4.out.below hb12)
  have HR5 := Lib.hid (HR5.out.below hb12)
  have HR7 := Lib.hid (HR7.out.below hb12)
  have HR8 := Lib.hid (HR8.out.below hb12)
  clear hn12 hr12 hb12
  go_wp2_with fail
  refine (lists_n HN12.out HN2.out HR12.out HR2.out (by have := HXS.out; omega)).mono ?_
  rintro e w13 ⟨rfl, hb13⟩
  have HB13 := Lib.hid (hop HB12.out hb13)
  have HRl := Lib.hid (HRl.out.below hb13)
  have HRm := Lib.hid (HRm.out.below hb13)
  have HR2 := Lib.hid (HR2.out.below hb13)
  have HR3 := Lib.hid (HR3.out.below hb13)
  have HR4 := Lib.hid (HR4.out.below hb13)
  have HR5 := Lib.hid (HR5.out.below hb13)
  have HR7 := Lib.hid (HR7.out.below hb13)
  have HR8 := Lib.hid (HR8.out.below hb13)
  have HR12 := Lib.hid (HR12.out.below hb13)
  clear hb13
  go_wp2_with fail
  refine (in_n HO.out HN2.out HR2.out (by have := HXS.out; omega)).mono ?_
  rintro e w14 ⟨rfl, hb14⟩
  have HB14 := Lib.hid (hop HB13.out hb14)
  go_wp2_with fail
  go_ret
  exact ⟨rfl, HB0.out.trans (HB14.out.mono HB0.out.size)⟩
end Go.Proofs.YtehabjiacgibpaaGreat
