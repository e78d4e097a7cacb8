/-
  TupleOrders, walked. Conditions: the arguments are there.
-/
import Derived.Test.YtehabjiacgibpaaCTpAw
import Derived.Test.YtehabjiacgibpaaCTpX
import Derived.Test.YtehabjiacgibpaaCNmShow
namespace Go.Proofs.Ytehabjiacgibpaa
open Go.RowKit
theorem texts_beq (X Y : List UInt8) : ((⟨X.toArray⟩ : ByteArray).toList == (⟨Y.toArray⟩ : ByteArray).toList) = decide (X = Y) := by
  simp only [ByteArray.toList_eq]
  by_cases h : X = Y
  · rw [h, decide_eq_true rfl]; exact beq_iff_eq.2 rfl
  · rw [decide_eq_false h]; exact beq_eq_false_iff_ne.2 h
set_option maxRecDepth 100000 in
set_option maxHeartbeats 8000000 in
theorem orders0 (tn on : Txt) (t u : Tup) (W : World) (ht : ∀ x ∈ six t, x.length ≤ 9223372036854775807) (hu : ∀ x ∈ six u, x.length ≤ 9223372036854775807) :
    Calls Try.prog 7 #[strV tn, strV on, .agg ((six t).map strV).toArray, .agg ((six u).map strV).toArray] W fun e w' => e = .returned (.bool true) ∧ Below W.heap.size W w' := by
  obtain ⟨q0, q1, q2, q3, q4, q5, hq, he⟩ := six_of t
  obtain ⟨p0, p1, p2, p3, p4, p5, hp, hf⟩ := six_of u
  obtain ⟨W1, hW⟩ : ∃ W1, W1 = ((W.alloc (.cells #[strV q0, strV q1, strV q2, strV q3, strV q4, strV q5] 30)).alloc (.cells #[strV p0, strV p1, strV p2, strV p3, strV p4, strV p5] 30)) := ⟨_, rfl⟩
  have hKT : Blk W1 W.heap.size [strV q0, strV q1, strV q2, strV q3, strV q4, strV q5] 30 := by rw [hW]; exact (Blk.new _ _ _).alloc _
  have hKU : Blk W1 (W.heap.size + 1) [strV p0, strV p1, strV p2, strV p3, strV p4, strV p5] 30 := by
    rw [hW]
    have := Blk.new (W.alloc (.cells #[strV q0, strV q1, strV q2, strV q3, strV q4, strV q5] 30)) [strV p0, strV p1, strV p2, strV p3, strV p4, strV p5] 30
    rw [World.size_alloc] at this
    exact this
  have HB0 : Hid (Below W.heap.size W W1) := by rw [hW]; exact Lib.hid (((Below.refl _ _).alloc (Nat.le_refl _) _).alloc (by simp) _)
  have HW := Lib.hid hW
  have HY : Hid (∀ w, Below W1.heap.size W1 w → BoxT W.heap.size q0 q1 q2 q3 q4 q5 w ∧ BoxT (W.heap.size + 1) p0 p1 p2 p3 p4 p5 w) := Lib.hid (fun w hw => ⟨box_of (hKT.below hw hKT.lt), box_of (hKU.below hw hKU.lt)⟩)
  have HA := Lib.hid (awake_any W1)
  have HT' := Lib.hid ht
  have HU' := Lib.hid hu
  have HST : Hid (∀ w, Calls Try.prog 20 #[.agg #[strV q0, strV q1, strV q2, strV q3, strV q4, strV q5]] w fun e w' => e = .returned (strV (showT t)) ∧ Below w.heap.size w w') := Lib.hid (fun w => by
    rw [he] at ht ⊢
    exact refShowTuple_any q0 q1 q2 q3 q4 q5 w (ht q0 (by simp [six])) (ht q1 (by simp [six])) (ht q2 (by simp [six])) (ht q3 (by simp [six])) (ht q4 (by simp [six])) (ht q5 (by simp [six])))
  have HSU : Hid (∀ w, Calls Try.prog 20 #[.agg #[strV p0, strV p1, strV p2, strV p3, strV p4, strV p5]] w fun e w' => e = .returned (strV (showT u)) ∧ Below w.heap.size w w') := Lib.hid (fun w => by
    rw [hf] at hu ⊢
    exact refShowTuple_any p0 p1 p2 p3 p4 p5 w (hu p0 (by simp [six])) (hu p1 (by simp [six])) (hu p2 (by simp [six])) (hu p3 (by simp [six])) (hu p4 (by simp [six])) (hu p5 (by simp [six])))
  have HLS : Hid (∀ w, Calls Try.prog 21 #[.agg #[strV q0, strV q1, strV q2, strV q3, strV q4, strV q5], .agg #[strV p0, strV p1, strV p2, strV p3, strV p4, strV p5]] w fun e w' => e = .returned (.bool (lessF (six t) (six u))) ∧ Below w.heap.size w w') := Lib.hid (fun w => by
    rw [he, hf]; exact refLess_any q0 q1 q2 q3 q4 q5 p0 p1 p2 p3 p4 p5 w)
  have e1 : ∀ w, (binOp .eql 30 (.agg #[strV q0, strV q1, strV q2, strV q3, strV q4, strV q5]) (.agg #[strV p0, strV p1, strV p2, strV p3, strV p4, strV p5])).run Try.prog w = .ok (.bool (decide (t = u))) w := fun w => by
    rw [he, hf]; exact tup_eql _ _ _ _ _ _ _ _ _ _ _ _ w
  rw [hq, hp]
  have HQ6 := Lib.hid hq
  have HP6 := Lib.hid hp
  clear hW ht hu hKT hKU hq hp he hf
  go_enter Try.func7, Try.ntmps7
  go_wp2_with fail
  show Calls _ _ _ ((W.alloc (.cells #[strV q0, strV q1, strV q2, strV q3, strV q4, strV q5] 30)).alloc (.cells #[strV p0, strV p1, strV p2, strV p3, strV p4, strV p5] 30)) _
  rw [← HW.out]
  refine HA.out.mono ?_
  rintro e w1 ⟨rfl, hb1⟩
  have HB1 := Lib.hid hb1
  obtain ⟨⟨y0, y1, y2, y3, y4, y5⟩, z0, z1, z2, z3, z4, z5⟩ := HY.out w1 hb1
  clear hb1 HA
  obtain ⟨sh, hsh⟩ : ∃ sh, showT t = sh := ⟨_, rfl⟩
  obtain ⟨sg, hsg⟩ : ∃ sg, showT u = sg := ⟨_, rfl⟩
  rw [hsh] at HST
  rw [hsg] at HSU
  go_wp2_with fail
  refine (HST.out _).mono ?_
  rintro e w2 ⟨rfl, hb2⟩
  have HB2 := Lib.hid (hop HB1.out hb2)
  clear y0 y1 y2 y3 y4 y5 z0 z1 z2 z3 z4 z5
  obtain ⟨⟨y0, y1, y2, y3, y4, y5⟩, z0, z1, z2, z3, z4, z5⟩ := HY.out w2 HB2.out
  clear hb2
  go_wp2_with fail
  refine (HSU.out _).mono ?_
  rintro e w3 ⟨rfl, hb3⟩
  have HB3 := Lib.hid (hop HB2.out hb3)
  clear y0 y1 y2 y3 y4 y5 z0 z1 z2 z3 z4 z5 hb3 HST HSU
  have HE : Hid (Below W.heap.size W w3) := Lib.hid (HB0.out.trans (HB3.out.mono HB0.out.size))
  by_cases hn1 : 100 < tn.length
  · have hd : (100 : Int) < (tn.length : Int) := by omega
    have hdd : decide (100 < tn.length) = true := decide_eq_true hn1
    clear hn1
    go_wp2_with fail
    go_ret
    exact ⟨rfl, HE.out⟩
  have hn2 : (tn.length : Int) ≤ 100 := by omega
  have hn3 : decide (100 < tn.length) = false := decide_eq_false hn1
  by_cases ho1 : 100 < on.length
  · have hd : (100 : Int) < (on.length : Int) := by omega
    have hdd : decide (100 < on.length) = true := decide_eq_true ho1
    clear ho1 hn1
    go_wp2_with fail
    go_ret
    exact ⟨rfl, HE.out⟩
  have ho2 : (on.length : Int) ≤ 100 := by omega
  have ho3 : decide (100 < on.length) = false := decide_eq_false ho1
  by_cases h0 : sh = []
  · subst h0
    clear hn1 ho1
    go_wp2_with fail
    go_ret
    exact ⟨rfl, HE.out⟩
  have hd0 : (sh == []) = false := beq_eq_false_iff_ne.2 h0
  by_cases g0 : sg = []
  · subst g0
    clear hn1 ho1 h0
    go_wp2_with fail
    go_ret
    exact ⟨rfl, HE.out⟩
  have hg0 : (sg == []) = false := beq_eq_false_iff_ne.2 g0
  rw [← hsh] at h0
  rw [← hsg] at g0
  have hLS := key_less (tn := tn) h0 g0
  have hEQ := key_eq (tn := tn) (tn' := tn) h0 g0
  have hNE := key_eq (tn := tn) (tn' := on) h0 g0
  have E1 : Hid (∀ w, Calls Try.prog 12 #[strV tn, .agg #[strV q0, strV q1, strV q2, strV q3, strV q4, strV q5]] w (BytesN w (keyT tn t) (keyT tn t).length)) := Lib.hid (fun w => by
    rw [← HQ6.out]; exact (key_any tn t w (by omega) HT'.out).mono (fun _ _ h => h.n))
  have E2 : Hid (∀ w, Calls Try.prog 12 #[strV tn, .agg #[strV p0, strV p1, strV p2, strV p3, strV p4, strV p5]] w (BytesN w (keyT tn u) (keyT tn u).length)) := Lib.hid (fun w => by
    rw [← HP6.out]; exact (key_any tn u w (by omega) HU'.out).mono (fun _ _ h => h.n))
  have E3 : Hid (∀ w, Calls Try.prog 12 #[strV on, .agg #[strV p0, strV p1, strV p2, strV p3, strV p4, strV p5]] w (BytesN w (keyT on u) (keyT on u).length)) := Lib.hid (fun w => by
    rw [← HP6.out]; exact (key_any on u w (by omega) HU'.out).mono (fun _ _ h => h.n))
  unfold BytesN at E1 E2 E3
  have hN3 : tn ≠ on → keyT tn t ≠ keyT on u := fun h e => h (hNE.1 e).1
  have hE3 : decide (keyT tn t = keyT tn u) = decide (t = u) := by
    rw [decide_eq_decide]
    exact ⟨fun e => (hEQ.1 e).2, fun e => hEQ.2 ⟨rfl, e⟩⟩
  have hb4 : ((⟨(keyT tn t).toArray⟩ : ByteArray).toList == (⟨(keyT tn u).toArray⟩ : ByteArray).toList) = decide (t = u) := by rw [texts_beq, hE3]
  have hb5 : tn ≠ on → ((⟨(keyT tn t).toArray⟩ : ByteArray).toList == (⟨(keyT on u).toArray⟩ : ByteArray).toList) = false := fun h => by rw [texts_beq, decide_eq_false (hN3 h)]
  have hlss : Op.bytesLess (⟨(keyT tn t).toArray⟩ : ByteArray).toList (⟨(keyT tn u).toArray⟩ : ByteArray).toList = lessF (six t) (six u) := by simp only [ByteArray.toList_eq]; exact hLS
  have conv : ∀ (L : List UInt8) (T : ByteArray), T = ⟨L.toArray⟩ → ∀ m, m = L.length → Hid (∀ w A c, Seen w A L → ∀ w', Below w.heap.size w w' → (convert 36 9 (.slice A m c)).run Try.prog w' = .ok (.string T) w') := fun L T hT m hm => Lib.hid (fun w A c hs w' hb => by
    rw [hT]
    exact text_on hs m c hm.symm w' hb)
  have C1 := conv (keyT tn t) _ rfl _ rfl
  have C2 := conv (keyT tn u) _ rfl _ rfl
  have C3 := conv (keyT on u) _ rfl _ rfl
  clear conv hLS hEQ hNE hN3 hE3 h0 g0 hsh hsg HQ6 HP6 HT' HU' hn1 ho1
  generalize (⟨(keyT tn t).toArray⟩ : ByteArray) = tx at *
  generalize (⟨(keyT tn u).toArray⟩ : ByteArray) = ty at *
  generalize (⟨(keyT on u).toArray⟩ : ByteArray) = tz at *
  generalize (keyT tn t).length = m1 at *
  generalize (keyT tn u).length = m2 at *
  generalize (keyT on u).length = m3 at *
  generalize keyT tn t = L1 at *
  generalize keyT tn u = L2 at *
  generalize keyT on u = L3 at *
  generalize lessF (six t) (six u) = ls at *
  generalize decide (t = u) = eq at *
  obtain ⟨⟨y0, y1, y2, y3, y4, y5⟩, z0, z1, z2, z3, z4, z5⟩ := HY.out w3 HB3.out
  go_wp2_with fail
  refine (E1.out _).mono ?_
  rintro e w4 ⟨A4, c4, rfl, hs4, hb4'⟩
  have HB4 := Lib.hid (hop HB3.out hb4')
  have u4 := C1.out _ _ c4 hs4 _ (Below.refl _ _)
  clear hs4 hb4' y0 y1 y2 y3 y4 y5 z0 z1 z2 z3 z4 z5 E1 C1
  obtain ⟨⟨y0, y1, y2, y3, y4, y5⟩, z0, z1, z2, z3, z4, z5⟩ := HY.out w4 HB4.out
  go_wp2_with fail
  refine (E2.out _).mono ?_
  rintro e w5 ⟨A5, c5, rfl, hs5, hb5'⟩
  have HB5 := Lib.hid (hop HB4.out hb5')
  have u5 := C2.out _ _ c5 hs5 _ (Below.refl _ _)
  clear hs5 hb5' y0 y1 y2 y3 y4 y5 z0 z1 z2 z3 z4 z5 E2 C2 u4
  obtain ⟨⟨y0, y1, y2, y3, y4, y5⟩, z0, z1, z2, z3, z4, z5⟩ := HY.out w5 HB5.out
  go_wp2_with fail
  refine (E3.out _).mono ?_
  rintro e w6 ⟨A6, c6, rfl, hs6, hb6'⟩
  have HB6 := Lib.hid (hop HB5.out hb6')
  have u6 := C3.out _ _ c6 hs6 _ (Below.refl _ _)
  clear hs6 hb6' y0 y1 y2 y3 y4 y5 z0 z1 z2 z3 z4 z5 E3 C3 u5
  obtain ⟨⟨y0, y1, y2, y3, y4, y5⟩, z0, z1, z2, z3, z4, z5⟩ := HY.out w6 HB6.out
  go_wp2_with fail
  refine (HLS.out _).mono ?_
  rintro e w7 ⟨rfl, hb7⟩
  have HB7 := Lib.hid (hop HB6.out hb7)
  clear hb7 y0 y1 y2 y3 y4 y5 z0 z1 z2 z3 z4 z5 u6 HLS
  obtain ⟨⟨y0, y1, y2, y3, y4, y5⟩, z0, z1, z2, z3, z4, z5⟩ := HY.out w7 HB7.out
  have f1 : (ls == ls) = true := by simp
  have f2 : (eq == eq) = true := by simp
  by_cases hto : tn = on
  · have f3 : (tn == on) = true := beq_iff_eq.2 hto
    clear hb5 hto
    go_wp2_with fail
    go_ret
    exact ⟨rfl, HB0.out.trans (HB7.out.mono HB0.out.size)⟩
  · have f3 : (tn == on) = false := beq_eq_false_iff_ne.2 hto
    have f4 := hb5 hto
    have f5 : (tx.toList != tz.toList) = true := by rw [bne, f4]; rfl
    clear hb5 hto
    go_wp2_with fail
    go_ret
    exact ⟨rfl, HB0.out.trans (HB7.out.mono HB0.out.size)⟩
theorem tupleOrders_walk (s s' : ByteArray) (a b r d f g a' b' r' d' f' g' : Txt) (W : World) (_ : s.size ≤ 140737488351232) (_ : s'.size ≤ 140737488351232)
    (m1 : a.length ≤ 9223372036854775807) (m2 : b.length ≤ 9223372036854775807) (m3 : r.length ≤ 9223372036854775807) (m4 : d.length ≤ 9223372036854775807) (m5 : f.length ≤ 9223372036854775807) (m6 : g.length ≤ 9223372036854775807)
    (n1 : a'.length ≤ 9223372036854775807) (n2 : b'.length ≤ 9223372036854775807) (n3 : r'.length ≤ 9223372036854775807) (n4 : d'.length ≤ 9223372036854775807) (n5 : f'.length ≤ 9223372036854775807) (n6 : g'.length ≤ 9223372036854775807) :
    Calls Try.prog 7 #[.string s, .string s', .agg #[strV a, strV b, strV r, strV d, strV f, strV g], .agg #[strV a', strV b', strV r', strV d', strV f', strV g']] W fun e w' => e = .returned (.bool true) ∧ Below W.heap.size W w' := by
  obtain ⟨T, rfl, _⟩ := as_txt s
  obtain ⟨U, rfl, _⟩ := as_txt s'
  exact orders0 T U (a, b, r, d, f, g) (a', b', r', d', f', g') W (six_le m1 m2 m3 m4 m5 m6) (six_le n1 n2 n3 n4 n5 n6)
end Go.Proofs.Ytehabjiacgibpaa
