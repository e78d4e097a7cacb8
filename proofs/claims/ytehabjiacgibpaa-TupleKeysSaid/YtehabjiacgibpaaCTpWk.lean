/-
  TupleKeys, walked. Conditions: the arguments are there.
-/
import Derived.Test.YtehabjiacgibpaaCTpAw
import Derived.Test.YtehabjiacgibpaaCTpX
import Derived.Test.YtehabjiacgibpaaCTpKr
import Derived.Test.YtehabjiacgibpaaCText
import Derived.Deep.RegionHeldLaw
namespace Go.Proofs.Ytehabjiacgibpaa
open Go.RowKit
set_option maxRecDepth 100000 in
set_option maxHeartbeats 8000000 in
theorem keys0 (tn : Txt) (t : Tup) (W : World) (ht' : ∀ x ∈ six t, x.length ≤ 9223372036854775807) :
    Calls Try.prog 4 #[strV tn, .agg ((six t).map strV).toArray] W fun e w' => e = .returned (.bool true) ∧ Below W.heap.size W w' := by
  obtain ⟨q0, q1, q2, q3, q4, q5, hq, he⟩ := six_of t
  obtain ⟨W1, hW⟩ : ∃ W1, W1 = W.alloc (.cells #[strV q0, strV q1, strV q2, strV q3, strV q4, strV q5] 30) := ⟨_, rfl⟩
  have hKT : Blk W1 W.heap.size [strV q0, strV q1, strV q2, strV q3, strV q4, strV q5] 30 := by rw [hW]; exact Blk.new _ _ _
  have HB0 : Hid (Below W.heap.size W W1) := by rw [hW]; exact Lib.hid ((Below.refl _ _).alloc (Nat.le_refl _) _)
  have HW := Lib.hid hW
  have HY : Hid (∀ w, Below W1.heap.size W1 w → BoxT W.heap.size q0 q1 q2 q3 q4 q5 w) := Lib.hid (fun w hw => box_of (hKT.below hw hKT.lt))
  have HA := Lib.hid (awake_any W1)
  have HT' := Lib.hid ht'
  rw [hq]
  have HQ6 := Lib.hid hq
  clear hW ht' hKT hq
  go_enter Try.func4, Try.ntmps4
  go_wp2_with fail
  show Calls _ _ _ (W.alloc (.cells #[strV q0, strV q1, strV q2, strV q3, strV q4, strV q5] 30)) _
  rw [← HW.out]
  refine HA.out.mono ?_
  rintro e w1 ⟨rfl, hb1⟩
  by_cases hn1 : 100 < tn.length
  · have hd : (100 : Int) < (tn.length : Int) := by omega
    have hdd : decide (100 < tn.length) = true := decide_eq_true hn1
    clear hn1
    go_wp2_with fail
    go_ret
    exact ⟨rfl, HB0.out.trans (hb1.mono HB0.out.size)⟩
  have hn2 : (tn.length : Int) ≤ 100 := by omega
  have hn3 : decide (100 < tn.length) = false := decide_eq_false hn1
  have B1 := hb1
  have E1 : Hid (∀ w, Calls Try.prog 12 #[strV tn, .agg #[strV q0, strV q1, strV q2, strV q3, strV q4, strV q5]] w (BytesN w (keyT tn t) (keyT tn t).length)) := Lib.hid (fun w => by
    rw [← HQ6.out]; exact (key_any tn t w (by omega) HT'.out).mono (fun _ _ h => h.n))
  have E2 : Hid (∀ w, Calls Try.prog 13 #[strV tn, .agg #[strV q0, strV q1, strV q2, strV q3, strV q4, strV q5]] w (BytesN w (keyT tn t) (keyT tn t).length)) := Lib.hid (fun w => by
    rw [← HQ6.out]; exact (refKey_any tn t w (by omega) HT'.out).mono (fun _ _ h => h.n))
  have E3 : Hid (∀ w, Calls Try.prog 14 #[strV tn, .agg #[strV q0, strV q1, strV q2, strV q3, strV q4, strV q5]] w (BytesN w (backT tn t) (backT tn t).length)) := Lib.hid (fun w => by
    rw [← HQ6.out]; exact (back_any tn t w (by omega) HT'.out).mono (fun _ _ h => h.n))
  have E4 : Hid (∀ w, Calls Try.prog 15 #[strV tn, .agg #[strV q0, strV q1, strV q2, strV q3, strV q4, strV q5]] w (BytesN w (backT tn t) (backT tn t).length)) := Lib.hid (fun w => by
    rw [← HQ6.out]; exact (refBack_any tn t w (by omega) HT'.out).mono (fun _ _ h => h.n))
  unfold BytesN at E1 E2 E3 E4
  have conv : ∀ (L : List UInt8) (T : ByteArray), T = ⟨L.toArray⟩ → ∀ m, m = L.length → Hid (∀ w A c, Seen w A L → ∀ w', Below w.heap.size w w' → (convert 36 9 (.slice A m c)).run Try.prog w' = .ok (.string T) w') := fun L T hT m hm => Lib.hid (fun w A c hs w' hb => by
    rw [hT]
    exact text_on hs m c hm.symm w' hb)
  obtain ⟨T1, hT1⟩ : ∃ T : ByteArray, T = ⟨(keyT tn t).toArray⟩ := ⟨_, rfl⟩
  obtain ⟨T2, hT2⟩ : ∃ T : ByteArray, T = ⟨(backT tn t).toArray⟩ := ⟨_, rfl⟩
  have C1 := conv _ T1 hT1 _ rfl
  have C2 := conv _ T2 hT2 _ rfl
  clear conv hT1 hT2
  generalize (keyT tn t).length = m1 at *
  generalize (backT tn t).length = m2 at *
  generalize keyT tn t = L1 at *
  generalize backT tn t = L2 at *
  have hY0 : ∀ w, Below W1.heap.size W1 w → w.cell? ⟨W.heap.size, 0, none⟩ = some (strV q0) := fun w hw => (HY.out w hw).1
  have hY1 : ∀ w, Below W1.heap.size W1 w → w.cell? ⟨W.heap.size, 1, none⟩ = some (strV q1) := fun w hw => (HY.out w hw).2.1
  have hY2 : ∀ w, Below W1.heap.size W1 w → w.cell? ⟨W.heap.size, 2, none⟩ = some (strV q2) := fun w hw => (HY.out w hw).2.2.1
  have hY3 : ∀ w, Below W1.heap.size W1 w → w.cell? ⟨W.heap.size, 3, none⟩ = some (strV q3) := fun w hw => (HY.out w hw).2.2.2.1
  have hY4 : ∀ w, Below W1.heap.size W1 w → w.cell? ⟨W.heap.size, 4, none⟩ = some (strV q4) := fun w hw => (HY.out w hw).2.2.2.2.1
  have hY5 : ∀ w, Below W1.heap.size W1 w → w.cell? ⟨W.heap.size, 5, none⟩ = some (strV q5) := fun w hw => (HY.out w hw).2.2.2.2.2
  clear hb1 HA hn1 HQ6 HT' he
  go_wp2_with fail
  go_region_held_law (fun w' => Below W1.heap.size W1 w') (first | exact B1.drew | exact B1 | assumption | (exact hop ‹Below W1.heap.size W1 _› (by assumption)))
    (first
      | (go_at_call 12; refine (E1.out _).mono ?_; rintro e w6 ⟨A6, c6, rfl, hs6, hb6⟩; have HU6 := Lib.hid (C1.out _ _ c6 hs6); have hv6 := HU6.out _ (Below.refl _ _); clear hs6)
      | (go_at_call 13; refine (E2.out _).mono ?_; rintro e w7 ⟨A7, c7, rfl, hs7, hb7⟩; have HU7 := Lib.hid (C1.out _ _ c7 hs7); have hv7 := HU7.out _ (Below.refl _ _); (try have hv76 := HU6.out _ hb7); clear hs7)
      | (go_at_call 14; refine (E3.out _).mono ?_; rintro e w8 ⟨A8, c8, rfl, hs8, hb8⟩; have HU8 := Lib.hid (C2.out _ _ c8 hs8); have hv8 := HU8.out _ (Below.refl _ _); clear hs8)
      | (go_at_call 15; refine (E4.out _).mono ?_; rintro e w9 ⟨A9, c9, rfl, hs9, hb9⟩; have HU9 := Lib.hid (C2.out _ _ c9 hs9); have hv9 := HU9.out _ (Below.refl _ _); (try have hv98 := HU8.out _ hb9); clear hs9))
  all_goals go_wp2_with fail
  all_goals go_ret
  all_goals exact ⟨rfl, HB0.out.trans ((by assumption : Below W1.heap.size W1 _).mono HB0.out.size)⟩
theorem tupleKeys_walk (s : ByteArray) (a b r d f g : Txt) (W : World) (_ : s.size ≤ 140737488351232)
    (m1 : a.length ≤ 9223372036854775807) (m2 : b.length ≤ 9223372036854775807) (m3 : r.length ≤ 9223372036854775807) (m4 : d.length ≤ 9223372036854775807) (m5 : f.length ≤ 9223372036854775807) (m6 : g.length ≤ 9223372036854775807) :
    Calls Try.prog 4 #[.string s, .agg #[strV a, strV b, strV r, strV d, strV f, strV g]] W fun e w' => e = .returned (.bool true) ∧ Below W.heap.size W w' := by
  obtain ⟨T, rfl, _⟩ := as_txt s
  exact keys0 T (a, b, r, d, f, g) W (six_le m1 m2 m3 m4 m5 m6)
end Go.Proofs.Ytehabjiacgibpaa
