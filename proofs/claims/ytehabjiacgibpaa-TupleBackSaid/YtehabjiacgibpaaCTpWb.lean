/-
  TupleBack, walked. Conditions: the arguments are there.
-/
import Derived.Test.YtehabjiacgibpaaCTpAw
import Derived.Test.YtehabjiacgibpaaCTpX
import Derived.Test.YtehabjiacgibpaaCNmShow
namespace Go.Proofs.Ytehabjiacgibpaa
open Go.RowKit
set_option maxRecDepth 100000 in
set_option maxHeartbeats 8000000 in
theorem back0 (tn : Txt) (t : Tup) (W : World) (ht' : ∀ x ∈ six t, x.length ≤ 9223372036854775807) :
    Calls Try.prog 6 #[strV tn, .agg ((six t).map strV).toArray] W fun e w' => e = .returned (.bool true) ∧ Below W.heap.size W w' := by
  obtain ⟨q0, q1, q2, q3, q4, q5, hq, he⟩ := six_of t
  obtain ⟨W1, hW⟩ : ∃ W1, W1 = W.alloc (.cells #[strV q0, strV q1, strV q2, strV q3, strV q4, strV q5] 30) := ⟨_, rfl⟩
  have hKT : Blk W1 W.heap.size [strV q0, strV q1, strV q2, strV q3, strV q4, strV q5] 30 := by rw [hW]; exact Blk.new _ _ _
  have HB0 : Hid (Below W.heap.size W W1) := by rw [hW]; exact Lib.hid ((Below.refl _ _).alloc (Nat.le_refl _) _)
  have HW := Lib.hid hW
  have HY : Hid (∀ w, Below W1.heap.size W1 w → BoxT W.heap.size q0 q1 q2 q3 q4 q5 w) := Lib.hid (fun w hw => box_of (hKT.below hw hKT.lt))
  have HA := Lib.hid (awake_any W1)
  have HT' := Lib.hid ht'
  have HSH : Hid (∀ w, Calls Try.prog 20 #[.agg #[strV q0, strV q1, strV q2, strV q3, strV q4, strV q5]] w fun e w' => e = .returned (strV (showT t)) ∧ Below w.heap.size w w') := Lib.hid (fun w => by
    rw [he] at ht' ⊢
    exact refShowTuple_any q0 q1 q2 q3 q4 q5 w (ht' q0 (by simp [six])) (ht' q1 (by simp [six])) (ht' q2 (by simp [six])) (ht' q3 (by simp [six])) (ht' q4 (by simp [six])) (ht' q5 (by simp [six])))
  rw [hq]
  have HQ6 := Lib.hid hq
  clear hW ht' hKT hq
  go_enter Try.func6, Try.ntmps6
  go_wp2_with fail
  show Calls _ _ _ (W.alloc (.cells #[strV q0, strV q1, strV q2, strV q3, strV q4, strV q5] 30)) _
  rw [← HW.out]
  refine HA.out.mono ?_
  rintro e w1 ⟨rfl, hb1⟩
  by_cases hn1 : 100 < tn.length
  · have hd : (100 : Int) < (tn.length : Int) := by omega
    have hdd : decide (100 < tn.length) = true := decide_eq_true hn1
    clear hn1
    go_wp2_with fail
    go_ret
    exact ⟨rfl, HB0.out.trans (hb1.mono HB0.out.size)⟩
  have hn2 : (tn.length : Int) ≤ 100 := by omega
  have hn3 : decide (100 < tn.length) = false := decide_eq_false hn1
  have HM := Lib.hid (key_most (t := t) (Nat.le_of_not_lt hn1))
  have E1 : Hid (∀ w, Calls Try.prog 12 #[strV tn, .agg #[strV q0, strV q1, strV q2, strV q3, strV q4, strV q5]] w (BytesN w (keyT tn t) (keyT tn t).length)) := Lib.hid (fun w => by
    rw [← HQ6.out]; exact (key_any tn t w (by omega) HT'.out).mono (fun _ _ h => h.n))
  have E3 : Hid (∀ w, Calls Try.prog 14 #[strV tn, .agg #[strV q0, strV q1, strV q2, strV q3, strV q4, strV q5]] w (BytesN w (backT tn t) (backT tn t).length)) := Lib.hid (fun w => by
    rw [← HQ6.out]; exact (back_any tn t w (by omega) HT'.out).mono (fun _ _ h => h.n))
  unfold BytesN at E1 E3
  have HB1 := Lib.hid hb1
  obtain ⟨y0, y1, y2, y3, y4, y5⟩ := HY.out w1 hb1
  clear hb1 HA hn1
  by_cases h0 : showT t = []
  · have hm : (keyT tn t).length = 0 := by unfold keyT; rw [if_pos h0]; rfl
    rw [hm] at E1
    rw [h0] at HSH
    go_wp2_with fail
    refine (E1.out _).mono ?_
    rintro e w2 ⟨A2, c2, rfl, _, hb2⟩
    have HB2 := Lib.hid (hop HB1.out hb2)
    clear y0 y1 y2 y3 y4 y5
    obtain ⟨y0, y1, y2, y3, y4, y5⟩ := HY.out w2 HB2.out
    clear hb2 h0 hm
    go_wp2_with fail
    refine (HSH.out _).mono ?_
    rintro e w3 ⟨rfl, hb3⟩
    go_wp2_with fail
    go_ret
    exact ⟨rfl, HB0.out.trans ((hop HB2.out hb3).mono HB0.out.size)⟩
  have hR1 := key_read (tn := tn) h0
  have hR2 := back_read (tn := tn) h0
  have RD1 : Hid (∀ w A c, Seen w A (keyT tn t) → Calls Try.prog 16 #[.slice A (keyT tn t).length c] w fun e w' => e = .returned (.tuple #[strV tn, .agg #[strV q0, strV q1, strV q2, strV q3, strV q4, strV q5], .bool true]) ∧ Below w.heap.size w w') := Lib.hid (fun w A c hs => by
    have h := pread_any (keyT tn t) A c w hs (by have := HM.out.1; omega)
    rw [hR1] at h
    unfold ReadP at h
    rw [← HQ6.out]
    exact h)
  have RD2 : Hid (∀ w A c, Seen w A (backT tn t) → Calls Try.prog 18 #[.slice A (backT tn t).length c] w fun e w' => e = .returned (.tuple #[strV tn, .agg #[strV q0, strV q1, strV q2, strV q3, strV q4, strV q5], .bool true]) ∧ Below w.heap.size w w') := Lib.hid (fun w A c hs => by
    have h := preadBack_any (backT tn t) A c w hs (by have := HM.out.2; omega)
    rw [hR2] at h
    unfold ReadP at h
    rw [← HQ6.out]
    exact h)
  have hd0 : (showT t == []) = false := beq_eq_false_iff_ne.2 h0
  generalize (keyT tn t).length = m1 at *
  generalize (backT tn t).length = m2 at *
  generalize keyT tn t = L1 at *
  generalize backT tn t = L2 at *
  generalize showT t = sh at *
  clear hR1 hR2 HM HQ6 HT' he h0
  go_wp2_with fail
  refine (E1.out _).mono ?_
  rintro e w2 ⟨A2, c2, rfl, hs2, hb2⟩
  have HB2 := Lib.hid (hop HB1.out hb2)
  have HS2 := Lib.hid hs2
  clear y0 y1 y2 y3 y4 y5
  obtain ⟨y0, y1, y2, y3, y4, y5⟩ := HY.out w2 HB2.out
  clear hb2 hs2 E1
  go_wp2_with fail
  refine (HSH.out _).mono ?_
  rintro e w3 ⟨rfl, hb3⟩
  have HB3 := Lib.hid (hop HB2.out hb3)
  have HS3 := Lib.hid (HS2.out.below hb3)
  clear hb3 y0 y1 y2 y3 y4 y5
  go_wp2_with fail
  refine (RD1.out _ _ _ HS3.out).mono ?_
  rintro e w4 ⟨rfl, hb4⟩
  obtain ⟨u4, hu4⟩ : ∃ u, u = w4.alloc (.cells #[strV q0, strV q1, strV q2, strV q3, strV q4, strV q5] 30) := ⟨_, rfl⟩
  have hbu4 : Below w4.heap.size w4 u4 := by rw [hu4]; exact (Below.refl _ _).alloc (Nat.le_refl _) _
  have HK4 : Hid (Blk u4 w4.heap.size [strV q0, strV q1, strV q2, strV q3, strV q4, strV q5] 30) := by rw [hu4]; exact Lib.hid (Blk.new _ _ _)
  have HB4 := Lib.hid (hop (hop HB3.out hb4) hbu4)
  have y := HY.out u4 HB4.out
  rw [hu4] at y
  obtain ⟨y0, y1, y2, y3, y4, y5⟩ := y
  have HU4 := Lib.hid hu4
  clear hb4 hbu4 hu4
  go_wp2_with fail
  show Calls _ _ _ (w4.alloc (.cells #[strV q0, strV q1, strV q2, strV q3, strV q4, strV q5] 30)) _
  rw [← HU4.out]
  refine (E3.out _).mono ?_
  rintro e w5 ⟨A5, c5, rfl, hs5, hb5⟩
  have HB5 := Lib.hid (hop HB4.out hb5)
  have HS5 := Lib.hid hs5
  have HK5 := Lib.hid (HK4.out.below hb5 HK4.out.lt)
  clear hb5 hs5 y0 y1 y2 y3 y4 y5
  go_wp2_with fail
  refine (RD2.out _ _ _ HS5.out).mono ?_
  rintro e w6 ⟨rfl, hb6⟩
  obtain ⟨u6, hu6⟩ : ∃ u, u = w6.alloc (.cells #[strV q0, strV q1, strV q2, strV q3, strV q4, strV q5] 30) := ⟨_, rfl⟩
  have hbu6 : Below w6.heap.size w6 u6 := by rw [hu6]; exact (Below.refl _ _).alloc (Nat.le_refl _) _
  have k6 : Blk u6 w6.heap.size [strV q0, strV q1, strV q2, strV q3, strV q4, strV q5] 30 := by rw [hu6]; exact Blk.new _ _ _
  have hB6 := hop (hop HB5.out hb6) hbu6
  have y := HY.out u6 hB6
  have k4 := box_of (HK5.out.below (hop hb6 hbu6) HK5.out.lt)
  have k6 := box_of k6
  rw [hu6] at y k4 k6
  obtain ⟨y0, y1, y2, y3, y4, y5⟩ := y
  obtain ⟨a0, a1, a2, a3, a4, a5⟩ := k4
  obtain ⟨b0, b1, b2, b3, b4, b5⟩ := k6
  have HB6 := Lib.hid hB6
  have HU6 := Lib.hid hu6
  have e1 : ∀ w, _ := tup_eql q0 q1 q2 q3 q4 q5 q0 q1 q2 q3 q4 q5
  rw [decide_eq_true rfl] at e1
  have f1 : (tn == tn) = true := by simp
  clear hb6 hbu6 hu6 hB6 HS2 HS3 HS5 E3 RD1 RD2 HSH
  go_wp2_with fail
  go_ret
  exact ⟨rfl, HB0.out.trans (by have h := HB6.out; rw [HU6.out] at h; exact h.mono HB0.out.size)⟩
theorem tupleBack_walk (s : ByteArray) (a b r d f g : Txt) (W : World) (_ : s.size ≤ 140737488351232)
    (m1 : a.length ≤ 9223372036854775807) (m2 : b.length ≤ 9223372036854775807) (m3 : r.length ≤ 9223372036854775807) (m4 : d.length ≤ 9223372036854775807) (m5 : f.length ≤ 9223372036854775807) (m6 : g.length ≤ 9223372036854775807) :
    Calls Try.prog 6 #[.string s, .agg #[strV a, strV b, strV r, strV d, strV f, strV g]] W fun e w' => e = .returned (.bool true) ∧ Below W.heap.size W w' := by
  obtain ⟨T, rfl, _⟩ := as_txt s
  exact back0 T (a, b, r, d, f, g) W (six_le m1 m2 m3 m4 m5 m6)
end Go.Proofs.Ytehabjiacgibpaa
