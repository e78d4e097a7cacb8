/-
  The chapter's examples of layer 13 hold. No condition.
-/
import Derived.Test.YtehabjiacgibpaaGreatCRefTexts
import Derived.Test.YtehabjiacgibpaaGreatCLpAt
import Derived.Test.YtehabjiacgibpaaGreatCTuE
import Derived.Test.YtehabjiacgibpaaGreatCLpPb
import Derived.Deep.RegionHeldLaw
namespace Go.Proofs.YtehabjiacgibpaaGreat
open Go.RowKit
set_option maxRecDepth 100000 in
set_option maxHeartbeats 2000000 in
theorem readT_any (l : Txt) (t : Tup) (h : tupL l = some t) (hm : l.length ≤ 9223372036854775807) (w : World) : Calls Tryz.prog 18 #[strV l] w fun e w' => e = .returned (.agg ((six t).map strV).toArray) ∧ Below w.heap.size w w' := by
  have hb := (Below.refl w.heap.size w).alloc (Nat.le_refl _) (.cells #[.string ⟨#[]⟩, .string ⟨#[]⟩, .string ⟨#[]⟩, .string ⟨#[]⟩, .string ⟨#[]⟩, .string ⟨#[]⟩] 34)
  have HB := Lib.hid hb
  have HZ := Lib.hid (Blk.new w [.string ⟨#[]⟩, .string ⟨#[]⟩, .string ⟨#[]⟩, .string ⟨#[]⟩, .string ⟨#[]⟩, .string ⟨#[]⟩] 34)
  have H := Lib.hid (refTuple_any l (w.alloc (.cells #[.string ⟨#[]⟩, .string ⟨#[]⟩, .string ⟨#[]⟩, .string ⟨#[]⟩, .string ⟨#[]⟩, .string ⟨#[]⟩] 34)) hm)
  rw [h] at H
  obtain ⟨q0, q1, q2, q3, q4, q5, hq, he⟩ := six_of t
  subst he
  rw [hq]
  have HR : Hid (Calls Tryz.prog 39 #[strV l] (w.alloc (.cells #[.string ⟨#[]⟩, .string ⟨#[]⟩, .string ⟨#[]⟩, .string ⟨#[]⟩, .string ⟨#[]⟩, .string ⟨#[]⟩] 34)) fun e w' => e = .returned (.tuple #[.agg #[strV q0, strV q1, strV q2, strV q3, strV q4, strV q5], .bool true]) ∧ Below (w.alloc (.cells #[.string ⟨#[]⟩, .string ⟨#[]⟩, .string ⟨#[]⟩, .string ⟨#[]⟩, .string ⟨#[]⟩, .string ⟨#[]⟩] 34)).heap.size (w.alloc (.cells #[.string ⟨#[]⟩, .string ⟨#[]⟩, .string ⟨#[]⟩, .string ⟨#[]⟩, .string ⟨#[]⟩, .string ⟨#[]⟩] 34)) w') := Lib.hid H.out
  clear H hb h hm hq
  go_enter Tryz.func18, Tryz.ntmps18
  go_wp2_with (go_at_call 39; refine HR.out.mono ?_; rintro e w2 ⟨rfl, hb2⟩; have HB2 := Lib.hid (HB.out.trans (hb2.mono HB.out.size)); have HZ2 := Lib.hid (HZ.out.below hb2 HZ.out.lt); obtain ⟨⟨z0, z1, z2, z3, z4, z5⟩, f0, f1, f2, f3, f4, f5⟩ := zeros_at w2 w.heap.size 34 HZ2.out; have hlt2 := HZ2.out.lt; clear hb2)
  refine bodyPost_ret (v := .agg #[strV q0, strV q1, strV q2, strV q3, strV q4, strV q5]) (by simp [results, Tryz.results18, go_sem, z0, z1, z2, z3, z4, z5, hlt2]) rfl ?_
  refine ⟨rfl, ?_⟩
  refine Below.alloc ((((((HB2.out.setCell (p := ⟨w.heap.size, 0, none⟩) (Nat.le_refl _) _).setCell (p := ⟨w.heap.size, 1, none⟩) (Nat.le_refl _) _).setCell (p := ⟨w.heap.size, 2, none⟩) (Nat.le_refl _) _).setCell (p := ⟨w.heap.size, 3, none⟩) (Nat.le_refl _) _).setCell (p := ⟨w.heap.size, 4, none⟩) (Nat.le_refl _) _).setCell (p := ⟨w.heap.size, 5, none⟩) (Nat.le_refl _) _) ?_ _
  exact Nat.le_trans HB2.out.size (by simp [World.size_setCell])
theorem read_u {l : Txt} {t : Tup} (h : tupL l = some t) (hm : l.length ≤ 1000) (w : World) : Calls Tryz.prog 18 #[strV l] w fun e w' => e = .returned (.agg ((six t).map strV).toArray) ∧ Below w.heap.size w w' := readT_any l t h (by omega) w
set_option maxRecDepth 100000 in
set_option maxHeartbeats 4000000 in
theorem awake_any (W : World) : Calls Tryz.prog 6 #[] W fun e w' => e = .returned (.bool true) ∧ Below W.heap.size W w' := by
  have HP : Hid (Calls Tryz.prog 16 #[strV tpT] W (ParsedAs W (tpS, (0, 0, 0)))) := by
    have h1 := dparse_any ⟨tpT.toArray⟩ W (by decide)
    rw [show (⟨tpT.toArray⟩ : ByteArray).data.toList = tpT from rfl, tp_parse] at h1
    exact Lib.hid h1
  have HR0 := Lib.hid (fun w => read_u tp_read0 (by decide) w)
  have HR1 := Lib.hid (fun w => read_u tp_read1 (by decide) w)
  have HR2 := Lib.hid (fun w => read_u tp_read2 (by decide) w)
  have HK := Lib.hid (fun w => key_any [116] tpU0 w (by decide) tp_small0)
  go_enter Tryz.func6, Tryz.ntmps6
  go_wp2_with fail
  refine HP.out.mono ?_
  rintro e w1 ⟨A, c, rfl, hs1, ⟨_, hc1⟩, hb1⟩
  obtain ⟨u2, hu2⟩ : ∃ u2, u2 = (w1.alloc (.cells #[.slice A tpS.length c] 39)).alloc (.cells #[.int .i64 0, .int .i64 0, .int .i64 0] 42) := ⟨_, rfl⟩
  have hb12 : Below w1.heap.size w1 u2 := by rw [hu2]; exact ((Below.refl _ _).alloc (Nat.le_refl _) _).alloc (by simp) _
  have HS2 := Lib.hid (ScAt.below hb12 hs1)
  have HA0 := Lib.hid (fun w (h : Below u2.heap.size u2 w) => allowed_any tpS tpU0 w _ A c (HS2.out.below h) (by decide) tp_cp tp_small0)
  have HA1 := Lib.hid (fun w (h : Below u2.heap.size u2 w) => allowed_any tpS tpU1 w _ A c (HS2.out.below h) (by decide) tp_cp tp_small1)
  have HA2 := Lib.hid (fun w (h : Below u2.heap.size u2 w) => allowed_any tpS tpU2 w _ A c (HS2.out.below h) (by decide) tp_cp tp_small2)
  rw [tp_allow0] at HA0
  rw [tp_allow1] at HA1
  rw [tp_allow2] at HA2
  have HK2 : Blk u2 w1.heap.size [.slice A tpS.length c] 39 := by rw [hu2]; exact (Blk.new w1 _ _).alloc _
  have hX : ∀ w, Below u2.heap.size u2 w → w.cell? ⟨w1.heap.size, 0, none⟩ = some (.slice A tpS.length c) := fun w h => (HK2.below h HK2.lt).cell (i := 0) (by simp)
  have HX := Lib.hid hX
  have HB2 := Lib.hid (hop hb1 hb12)
  have HU2 := Lib.hid hu2
  have Bd := Below.refl u2.heap.size u2
  clear hs1 hb1 hc1 hb12 hu2 HK2
  go_wp2_with fail
  rw [← HU2.out]
  go_region_held_law (fun w' => Below u2.heap.size u2 w') (first | exact Bd.drew | exact Bd | assumption)
    (first
      | (go_at_call 18; refine (HR0.out _).mono ?_; rintro e w3 ⟨rfl, hb3⟩; have B3 : Below u2.heap.size u2 w3 := hop Bd.drew hb3; clear hb3)
      | (go_at_call 17; refine (HA0.out _ B3).mono ?_; rintro e w4 ⟨rfl, hb4⟩; have B4 : Below u2.heap.size u2 w4 := hop B3 hb4; clear hb4))
  go_wp2_with fail
  go_region_held_law (fun w' => Below u2.heap.size u2 w') (first | exact B4.drew | exact B4 | assumption)
    (first
      | (go_at_call 18; refine (HR1.out _).mono ?_; rintro e w5 ⟨rfl, hb5⟩; have B5 : Below u2.heap.size u2 w5 := hop B4.drew hb5; clear hb5)
      | (go_at_call 17; refine (HA1.out _ B5).mono ?_; rintro e w6 ⟨rfl, hb6⟩; have B6 : Below u2.heap.size u2 w6 := hop B5 hb6; clear hb6))
  go_wp2_with fail
  go_region_held_law (fun w' => Below u2.heap.size u2 w') (first | exact B6.drew | exact B6 | assumption)
    (first
      | (go_at_call 18; refine (HR2.out _).mono ?_; rintro e w7 ⟨rfl, hb7⟩; have B7 : Below u2.heap.size u2 w7 := hop B6.drew hb7; clear hb7)
      | (go_at_call 17; refine (HA2.out _ B7).mono ?_; rintro e w8 ⟨rfl, hb8⟩; have B8 : Below u2.heap.size u2 w8 := hop B7 hb8; clear hb8))
  go_wp2_with fail
  refine (HR0.out _).mono ?_
  rintro e w9 ⟨rfl, hb9⟩
  have B9 : Below u2.heap.size u2 w9 := hop B8 hb9
  clear hb9
  go_wp2_with fail
  refine (HK.out _).mono ?_
  rintro e wa ⟨A2, n2, c2, rfl, hn2, _, hb2⟩
  rw [tp_key] at hn2
  subst hn2
  have Ba : Below u2.heap.size u2 wa := hop B9 hb2
  clear hb2
  go_wp2_with fail
  go_ret
  exact ⟨rfl, HB2.out.trans (Ba.mono HB2.out.size)⟩
end Go.Proofs.YtehabjiacgibpaaGreat
