/-
  The tuple that six parts make: object, subject, and what Read and ReadBack hand to read. No conditions.
  What the program's Decode comes to. Condition: the bytes are at most 2^42.
  Texts of slices, and slices that were appended to: what every seat's walks share. Conditions: as each says.
-/
import Derived.Test.YtehabjiacgibpaaCTpI
import Derived.Deep.RegionHeldLaw
import Derived.Test.YtehabjiacgibpaaCEnc
import Derived.Test.YtehabjiacgibpaaCRefTexts
import Derived.Lib.SliceRun
import Derived.Test.YtehabjiacgibpaaChecked
import Derived.Test.YtehabjiacgibpaaCFlat
namespace Go.Proofs.Ytehabjiacgibpaa
open Go.RowKit
set_option maxRecDepth 100000 in
set_option maxHeartbeats 1000000 in
theorem object_any (a b : Txt) (w : World) : Calls Try.prog 34 #[strV a, strV b] w fun e w' => e = .returned (.agg #[strV a, strV b]) ∧ Below w.heap.size w w' := by
  go_enter Try.func34, Try.ntmps34
  go_wp2_with fail
  refine bodyPost_ret (v := .agg #[strV a, strV b]) (by simp [results, Try.results34, go_sem]) rfl ?_
  exact ⟨rfl, (Below.refl _ _).alloc (Nat.le_refl _) _⟩
set_option maxRecDepth 100000 in
set_option maxHeartbeats 1000000 in
theorem subject_any (a b c : Txt) (w : World) : Calls Try.prog 35 #[strV a, strV b, strV c] w fun e w' => e = .returned (.agg #[strV a, strV b, strV c]) ∧ Below w.heap.size w w' := by
  have H := Lib.hid (fun w => object_any a b w)
  have hb := (Below.refl w.heap.size w).alloc (Nat.le_refl _) (.cells #[.string ⟨#[]⟩, .string ⟨#[]⟩, .string ⟨#[]⟩] 28)
  have HB := Lib.hid hb
  have HK := Lib.hid (Blk.new w [.string ⟨#[]⟩, .string ⟨#[]⟩, .string ⟨#[]⟩] 28)
  clear hb
  go_enter Try.func35, Try.ntmps35
  go_wp2_with (go_at_call 34; refine (H.out _).mono ?_; rintro e w2 ⟨rfl, hb2⟩; have hk := HK.out.below hb2 HK.out.lt; have z0 := hk.cell (i := 0) (by simp); have z1 := hk.cell (i := 1) (by simp); have z2 := hk.cell (i := 2) (by simp); simp only [List.getElem_cons_succ, List.getElem_cons_zero] at z0 z1 z2; have f0 := hk.free 0; have f1 := hk.free 1; have f2 := hk.free 2; have HB2 := Lib.hid (HB.out.trans (hb2.mono HB.out.size)); clear hk hb2)
  refine bodyPost_ret (v := .agg #[strV a, strV b, strV c]) (by simp [results, Try.results35, go_sem, z0, z1, z2]) rfl ?_
  exact ⟨rfl, ((HB2.out.setCell (p := ⟨w.heap.size, 0, none⟩) (Nat.le_refl _) _).setCell (p := ⟨w.heap.size, 1, none⟩) (Nat.le_refl _) _).setCell (p := ⟨w.heap.size, 2, none⟩) (Nat.le_refl _) _⟩
set_option maxRecDepth 100000 in
set_option maxHeartbeats 4000000 in
theorem readF_any (p0 p1 p2 p3 p4 p5 : Txt) (w : World) : Calls Try.prog 33 #[.agg #[strV p0, strV p1, strV p2, strV p3, strV p4, strV p5]] w fun e w' => e = .returned (.agg #[strV p0, strV p1, strV p2, strV p3, strV p4, strV p5]) ∧ Below w.heap.size w w' := by
  obtain ⟨W0, hW⟩ : ∃ W0, W0 = (w.alloc (.cells #[strV p0, strV p1, strV p2, strV p3, strV p4, strV p5] 74)).alloc (.cells #[.string ⟨#[]⟩, .string ⟨#[]⟩, .string ⟨#[]⟩, .string ⟨#[]⟩, .string ⟨#[]⟩, .string ⟨#[]⟩] 30) := ⟨_, rfl⟩
  have hX : Blk W0 w.heap.size [strV p0, strV p1, strV p2, strV p3, strV p4, strV p5] 74 := by rw [hW]; exact (Blk.new w [strV p0, strV p1, strV p2, strV p3, strV p4, strV p5] 74).alloc _
  have hZ : Blk W0 (w.heap.size + 1) [.string ⟨#[]⟩, .string ⟨#[]⟩, .string ⟨#[]⟩, .string ⟨#[]⟩, .string ⟨#[]⟩, .string ⟨#[]⟩] 30 := by
    have h := Blk.new (w.alloc (.cells #[strV p0, strV p1, strV p2, strV p3, strV p4, strV p5] 74)) [.string ⟨#[]⟩, .string ⟨#[]⟩, .string ⟨#[]⟩, .string ⟨#[]⟩, .string ⟨#[]⟩, .string ⟨#[]⟩] 30
    rw [hW]
    simpa using h
  have hb0 : Below w.heap.size w W0 := by rw [hW]; exact ((Below.refl _ _).alloc (Nat.le_refl _) _).alloc (by simp) _
  have HX := Lib.hid hX
  have HZ := Lib.hid hZ
  have HB0 := Lib.hid hb0
  have HW := Lib.hid hW
  have HO := Lib.hid (fun w => object_any p0 p1 w)
  have HS := Lib.hid (fun w => subject_any p3 p4 p5 w)
  clear hX hZ hb0 hW
  go_enter Try.func33, Try.ntmps33
  go_wp2_with fail
  rw [← HW.out]
  have hS0 : W0.drew.cell? ⟨w.heap.size, 0, none⟩ = some (strV p0) ∧ W0.drew.cell? ⟨w.heap.size, 1, none⟩ = some (strV p1) ∧ W0.drew.cell? ⟨w.heap.size, 2, none⟩ = some (strV p2) ∧ W0.drew.cell? ⟨w.heap.size, 3, none⟩ = some (strV p3) ∧ W0.drew.cell? ⟨w.heap.size, 4, none⟩ = some (strV p4) ∧ W0.drew.cell? ⟨w.heap.size, 5, none⟩ = some (strV p5) := ⟨HX.out.cell (i := 0) (by simp), HX.out.cell (i := 1) (by simp), HX.out.cell (i := 2) (by simp), HX.out.cell (i := 3) (by simp), HX.out.cell (i := 4) (by simp), HX.out.cell (i := 5) (by simp)⟩
  go_region_held_law (fun w' => w'.cell? ⟨w.heap.size, 0, none⟩ = some (strV p0) ∧ w'.cell? ⟨w.heap.size, 1, none⟩ = some (strV p1) ∧ w'.cell? ⟨w.heap.size, 2, none⟩ = some (strV p2) ∧ w'.cell? ⟨w.heap.size, 3, none⟩ = some (strV p3) ∧ w'.cell? ⟨w.heap.size, 4, none⟩ = some (strV p4) ∧ w'.cell? ⟨w.heap.size, 5, none⟩ = some (strV p5))
    (first | with_reducible assumption | exact ⟨((((((HX3.out.other _ _ (Nat.ne_of_lt (Nat.lt_succ_self _))).other _ _ (Nat.ne_of_lt (Nat.lt_succ_self _))).other _ _ (Nat.ne_of_lt (Nat.lt_succ_self _))).other _ _ (Nat.ne_of_lt (Nat.lt_succ_self _))).other _ _ (Nat.ne_of_lt (Nat.lt_succ_self _))).other _ _ (Nat.ne_of_lt (Nat.lt_succ_self _))).cell (i := 0) (by simp), ((((((HX3.out.other _ _ (Nat.ne_of_lt (Nat.lt_succ_self _))).other _ _ (Nat.ne_of_lt (Nat.lt_succ_self _))).other _ _ (Nat.ne_of_lt (Nat.lt_succ_self _))).other _ _ (Nat.ne_of_lt (Nat.lt_succ_self _))).other _ _ (Nat.ne_of_lt (Nat.lt_succ_self _))).other _ _ (Nat.ne_of_lt (Nat.lt_succ_self _))).cell (i := 1) (by simp), ((((((HX3.out.other _ _ (Nat.ne_of_lt (Nat.lt_succ_self _))).other _ _ (Nat.ne_of_lt (Nat.lt_succ_self _))).other _ _ (Nat.ne_of_lt (Nat.lt_succ_self _))).other _ _ (Nat.ne_of_lt (Nat.lt_succ_self _))).other _ _ (Nat.ne_of_lt (Nat.lt_succ_self _))).other _ _ (Nat.ne_of_lt (Nat.lt_succ_self _))).cell (i := 2) (by simp), ((((((HX3.out.other _ _ (Nat.ne_of_lt (Nat.lt_succ_self _))).other _ _ (Nat.ne_of_lt (Nat.lt_succ_self _))).other _ _ (Nat.ne_of_lt (Nat.lt_succ_self _))).other _ _ (Nat.ne_of_lt (Nat.lt_succ_self _))).other _ _ (Nat.ne_of_lt (Nat.lt_succ_self _))).other _ _ (Nat.ne_of_lt (Nat.lt_succ_self _))).cell (i := 3) (by simp), ((((((HX3.out.other _ _ (Nat.ne_of_lt (Nat.lt_succ_self _))).other _ _ (Nat.ne_of_lt (Nat.lt_succ_self _))).other _ _ (Nat.ne_of_lt (Nat.lt_succ_self _))).other _ _ (Nat.ne_of_lt (Nat.lt_succ_self _))).other _ _ (Nat.ne_of_lt (Nat.lt_succ_self _))).other _ _ (Nat.ne_of_lt (Nat.lt_succ_self _))).cell (i := 4) (by simp), ((((((HX3.out.other _ _ (Nat.ne_of_lt (Nat.lt_succ_self _))).other _ _ (Nat.ne_of_lt (Nat.lt_succ_self _))).other _ _ (Nat.ne_of_lt (Nat.lt_succ_self _))).other _ _ (Nat.ne_of_lt (Nat.lt_succ_self _))).other _ _ (Nat.ne_of_lt (Nat.lt_succ_self _))).other _ _ (Nat.ne_of_lt (Nat.lt_succ_self _))).cell (i := 5) (by simp)⟩)
    (first
      | (go_at_call 34; with_reducible refine (HO.out _).mono ?_; rintro e w2 ⟨rfl, hb2⟩; have HX2 := Lib.hid (HX.out.drew.below hb2 HX.out.drew.lt); have HZ2 := Lib.hid (HZ.out.drew.below hb2 HZ.out.drew.lt); have HB2 := Lib.hid (HB0.out.drew.trans (hb2.mono HB0.out.drew.size)); clear hb2; have hS2 : w2.cell? ⟨w.heap.size, 0, none⟩ = some (strV p0) ∧ w2.cell? ⟨w.heap.size, 1, none⟩ = some (strV p1) ∧ w2.cell? ⟨w.heap.size, 2, none⟩ = some (strV p2) ∧ w2.cell? ⟨w.heap.size, 3, none⟩ = some (strV p3) ∧ w2.cell? ⟨w.heap.size, 4, none⟩ = some (strV p4) ∧ w2.cell? ⟨w.heap.size, 5, none⟩ = some (strV p5) := ⟨HX2.out.cell (i := 0) (by simp), HX2.out.cell (i := 1) (by simp), HX2.out.cell (i := 2) (by simp), HX2.out.cell (i := 3) (by simp), HX2.out.cell (i := 4) (by simp), HX2.out.cell (i := 5) (by simp)⟩)
      | (go_at_call 35; with_reducible refine (HS.out _).mono ?_; rintro e w3 ⟨rfl, hb3⟩; have HX3 := Lib.hid (HX2.out.below hb3 HX2.out.lt); have hz := HZ2.out.below hb3 HZ2.out.lt; have HB3 := Lib.hid (HB2.out.trans (hb3.mono HB2.out.size)); have hS3 : w3.cell? ⟨w.heap.size, 0, none⟩ = some (strV p0) ∧ w3.cell? ⟨w.heap.size, 1, none⟩ = some (strV p1) ∧ w3.cell? ⟨w.heap.size, 2, none⟩ = some (strV p2) ∧ w3.cell? ⟨w.heap.size, 3, none⟩ = some (strV p3) ∧ w3.cell? ⟨w.heap.size, 4, none⟩ = some (strV p4) ∧ w3.cell? ⟨w.heap.size, 5, none⟩ = some (strV p5) := ⟨HX3.out.cell (i := 0) (by simp), HX3.out.cell (i := 1) (by simp), HX3.out.cell (i := 2) (by simp), HX3.out.cell (i := 3) (by simp), HX3.out.cell (i := 4) (by simp), HX3.out.cell (i := 5) (by simp)⟩; have z0 := hz.cell (i := 0) (by simp); have z1 := hz.cell (i := 1) (by simp); have z2 := hz.cell (i := 2) (by simp); have z3 := hz.cell (i := 3) (by simp); have z4 := hz.cell (i := 4) (by simp); have z5 := hz.cell (i := 5) (by simp); simp only [List.getElem_cons_succ, List.getElem_cons_zero] at z0 z1 z2 z3 z4 z5; have f0 := hz.free 0; have f1 := hz.free 1; have f2 := hz.free 2; have f3 := hz.free 3; have f4 := hz.free 4; have f5 := hz.free 5; clear hz hb3))
  go_wp2_with fail
  refine bodyPost_ret (v := .agg #[strV p0, strV p1, strV p2, strV p3, strV p4, strV p5]) (by simp [results, Try.results33, go_sem, z0, z1, z2, z3, z4, z5]) rfl ?_
  exact ⟨rfl, (((((HB3.out.setCell (p := ⟨w.heap.size + 1, 0, none⟩) (Nat.le_succ _) _).setCell (p := ⟨w.heap.size + 1, 1, none⟩) (Nat.le_succ _) _).setCell (p := ⟨w.heap.size + 1, 2, none⟩) (Nat.le_succ _) _).setCell (p := ⟨w.heap.size + 1, 3, none⟩) (Nat.le_succ _) _).setCell (p := ⟨w.heap.size + 1, 4, none⟩) (Nat.le_succ _) _).setCell (p := ⟨w.heap.size + 1, 5, none⟩) (Nat.le_succ _) _⟩
set_option maxRecDepth 100000 in
set_option maxHeartbeats 4000000 in
theorem readR_any (p0 p1 p2 p3 p4 p5 : Txt) (w : World) : Calls Try.prog 37 #[.agg #[strV p0, strV p1, strV p2, strV p3, strV p4, strV p5]] w fun e w' => e = .returned (.agg #[strV p3, strV p4, strV p5, strV p0, strV p1, strV p2]) ∧ Below w.heap.size w w' := by
  obtain ⟨W0, hW⟩ : ∃ W0, W0 = (w.alloc (.cells #[strV p0, strV p1, strV p2, strV p3, strV p4, strV p5] 74)).alloc (.cells #[.string ⟨#[]⟩, .string ⟨#[]⟩, .string ⟨#[]⟩, .string ⟨#[]⟩, .string ⟨#[]⟩, .string ⟨#[]⟩] 30) := ⟨_, rfl⟩
  have hX : Blk W0 w.heap.size [strV p0, strV p1, strV p2, strV p3, strV p4, strV p5] 74 := by rw [hW]; exact (Blk.new w [strV p0, strV p1, strV p2, strV p3, strV p4, strV p5] 74).alloc _
  have hZ : Blk W0 (w.heap.size + 1) [.string ⟨#[]⟩, .string ⟨#[]⟩, .string ⟨#[]⟩, .string ⟨#[]⟩, .string ⟨#[]⟩, .string ⟨#[]⟩] 30 := by
    have h := Blk.new (w.alloc (.cells #[strV p0, strV p1, strV p2, strV p3, strV p4, strV p5] 74)) [.string ⟨#[]⟩, .string ⟨#[]⟩, .string ⟨#[]⟩, .string ⟨#[]⟩, .string ⟨#[]⟩, .string ⟨#[]⟩] 30
    rw [hW]
    simpa using h
  have hb0 : Below w.heap.size w W0 := by rw [hW]; exact ((Below.refl _ _).alloc (Nat.le_refl _) _).alloc (by simp) _
  have HX := Lib.hid hX
  have HZ := Lib.hid hZ
  have HB0 := Lib.hid hb0
  have HW := Lib.hid hW
  have HO := Lib.hid (fun w => object_any p3 p4 w)
  have HS := Lib.hid (fun w => subject_any p0 p1 p2 w)
  clear hX hZ hb0 hW
  go_enter Try.func37, Try.ntmps37
  go_wp2_with fail
  rw [← HW.out]
  have hS0 : W0.drew.cell? ⟨w.heap.size, 0, none⟩ = some (strV p0) ∧ W0.drew.cell? ⟨w.heap.size, 1, none⟩ = some (strV p1) ∧ W0.drew.cell? ⟨w.heap.size, 2, none⟩ = some (strV p2) ∧ W0.drew.cell? ⟨w.heap.size, 3, none⟩ = some (strV p3) ∧ W0.drew.cell? ⟨w.heap.size, 4, none⟩ = some (strV p4) ∧ W0.drew.cell? ⟨w.heap.size, 5, none⟩ = some (strV p5) := ⟨HX.out.cell (i := 0) (by simp), HX.out.cell (i := 1) (by simp), HX.out.cell (i := 2) (by simp), HX.out.cell (i := 3) (by simp), HX.out.cell (i := 4) (by simp), HX.out.cell (i := 5) (by simp)⟩
  go_region_held_law (fun w' => w'.cell? ⟨w.heap.size, 0, none⟩ = some (strV p0) ∧ w'.cell? ⟨w.heap.size, 1, none⟩ = some (strV p1) ∧ w'.cell? ⟨w.heap.size, 2, none⟩ = some (strV p2) ∧ w'.cell? ⟨w.heap.size, 3, none⟩ = some (strV p3) ∧ w'.cell? ⟨w.heap.size, 4, none⟩ = some (strV p4) ∧ w'.cell? ⟨w.heap.size, 5, none⟩ = some (strV p5))
    (first | with_reducible assumption | exact ⟨((((((HX3.out.other _ _ (Nat.ne_of_lt (Nat.lt_succ_self _))).other _ _ (Nat.ne_of_lt (Nat.lt_succ_self _))).other _ _ (Nat.ne_of_lt (Nat.lt_succ_self _))).other _ _ (Nat.ne_of_lt (Nat.lt_succ_self _))).other _ _ (Nat.ne_of_lt (Nat.lt_succ_self _))).other _ _ (Nat.ne_of_lt (Nat.lt_succ_self _))).cell (i := 0) (by simp), ((((((HX3.out.other _ _ (Nat.ne_of_lt (Nat.lt_succ_self _))).other _ _ (Nat.ne_of_lt (Nat.lt_succ_self _))).other _ _ (Nat.ne_of_lt (Nat.lt_succ_self _))).other _ _ (Nat.ne_of_lt (Nat.lt_succ_self _))).other _ _ (Nat.ne_of_lt (Nat.lt_succ_self _))).other _ _ (Nat.ne_of_lt (Nat.lt_succ_self _))).cell (i := 1) (by simp), ((((((HX3.out.other _ _ (Nat.ne_of_lt (Nat.lt_succ_self _))).other _ _ (Nat.ne_of_lt (Nat.lt_succ_self _))).other _ _ (Nat.ne_of_lt (Nat.lt_succ_self _))).other _ _ (Nat.ne_of_lt (Nat.lt_succ_self _))).other _ _ (Nat.ne_of_lt (Nat.lt_succ_self _))).other _ _ (Nat.ne_of_lt (Nat.lt_succ_self _))).cell (i := 2) (by simp), ((((((HX3.out.other _ _ (Nat.ne_of_lt (Nat.lt_succ_self _))).other _ _ (Nat.ne_of_lt (Nat.lt_succ_self _))).other _ _ (Nat.ne_of_lt (Nat.lt_succ_self _))).other _ _ (Nat.ne_of_lt (Nat.lt_succ_self _))).other _ _ (Nat.ne_of_lt (Nat.lt_succ_self _))).other _ _ (Nat.ne_of_lt (Nat.lt_succ_self _))).cell (i := 3) (by simp), ((((((HX3.out.other _ _ (Nat.ne_of_lt (Nat.lt_succ_self _))).other _ _ (Nat.ne_of_lt (Nat.lt_succ_self _))).other _ _ (Nat.ne_of_lt (Nat.lt_succ_self _))).other _ _ (Nat.ne_of_lt (Nat.lt_succ_self _))).other _ _ (Nat.ne_of_lt (Nat.lt_succ_self _))).other _ _ (Nat.ne_of_lt (Nat.lt_succ_self _))).cell (i := 4) (by simp), ((((((HX3.out.other _ _ (Nat.ne_of_lt (Nat.lt_succ_self _))).other _ _ (Nat.ne_of_lt (Nat.lt_succ_self _))).other _ _ (Nat.ne_of_lt (Nat.lt_succ_self _))).other _ _ (Nat.ne_of_lt (Nat.lt_succ_self _))).other _ _ (Nat.ne_of_lt (Nat.lt_succ_self _))).other _ _ (Nat.ne_of_lt (Nat.lt_succ_self _))).cell (i := 5) (by simp)⟩)
    (first
      | (go_at_call 34; with_reducible refine (HO.out _).mono ?_; rintro e w2 ⟨rfl, hb2⟩; have HX2 := Lib.hid (HX.out.drew.below hb2 HX.out.drew.lt); have HZ2 := Lib.hid (HZ.out.drew.below hb2 HZ.out.drew.lt); have HB2 := Lib.hid (HB0.out.drew.trans (hb2.mono HB0.out.drew.size)); clear hb2; have hS2 : w2.cell? ⟨w.heap.size, 0, none⟩ = some (strV p0) ∧ w2.cell? ⟨w.heap.size, 1, none⟩ = some (strV p1) ∧ w2.cell? ⟨w.heap.size, 2, none⟩ = some (strV p2) ∧ w2.cell? ⟨w.heap.size, 3, none⟩ = some (strV p3) ∧ w2.cell? ⟨w.heap.size, 4, none⟩ = some (strV p4) ∧ w2.cell? ⟨w.heap.size, 5, none⟩ = some (strV p5) := ⟨HX2.out.cell (i := 0) (by simp), HX2.out.cell (i := 1) (by simp), HX2.out.cell (i := 2) (by simp), HX2.out.cell (i := 3) (by simp), HX2.out.cell (i := 4) (by simp), HX2.out.cell (i := 5) (by simp)⟩)
      | (go_at_call 35; with_reducible refine (HS.out _).mono ?_; rintro e w3 ⟨rfl, hb3⟩; have HX3 := Lib.hid (HX2.out.below hb3 HX2.out.lt); have hz := HZ2.out.below hb3 HZ2.out.lt; have HB3 := Lib.hid (HB2.out.trans (hb3.mono HB2.out.size)); have hS3 : w3.cell? ⟨w.heap.size, 0, none⟩ = some (strV p0) ∧ w3.cell? ⟨w.heap.size, 1, none⟩ = some (strV p1) ∧ w3.cell? ⟨w.heap.size, 2, none⟩ = some (strV p2) ∧ w3.cell? ⟨w.heap.size, 3, none⟩ = some (strV p3) ∧ w3.cell? ⟨w.heap.size, 4, none⟩ = some (strV p4) ∧ w3.cell? ⟨w.heap.size, 5, none⟩ = some (strV p5) := ⟨HX3.out.cell (i := 0) (by simp), HX3.out.cell (i := 1) (by simp), HX3.out.cell (i := 2) (by simp), HX3.out.cell (i := 3) (by simp), HX3.out.cell (i := 4) (by simp), HX3.out.cell (i := 5) (by simp)⟩; have z0 := hz.cell (i := 0) (by simp); have z1 := hz.cell (i := 1) (by simp); have z2 := hz.cell (i := 2) (by simp); have z3 := hz.cell (i := 3) (by simp); have z4 := hz.cell (i := 4) (by simp); have z5 := hz.cell (i := 5) (by simp); simp only [List.getElem_cons_succ, List.getElem_cons_zero] at z0 z1 z2 z3 z4 z5; have f0 := hz.free 0; have f1 := hz.free 1; have f2 := hz.free 2; have f3 := hz.free 3; have f4 := hz.free 4; have f5 := hz.free 5; clear hz hb3))
  go_wp2_with fail
  refine bodyPost_ret (v := .agg #[strV p3, strV p4, strV p5, strV p0, strV p1, strV p2]) (by simp [results, Try.results37, go_sem, z0, z1, z2, z3, z4, z5]) rfl ?_
  exact ⟨rfl, (((((HB3.out.setCell (p := ⟨w.heap.size + 1, 0, none⟩) (Nat.le_succ _) _).setCell (p := ⟨w.heap.size + 1, 1, none⟩) (Nat.le_succ _) _).setCell (p := ⟨w.heap.size + 1, 2, none⟩) (Nat.le_succ _) _).setCell (p := ⟨w.heap.size + 1, 3, none⟩) (Nat.le_succ _) _).setCell (p := ⟨w.heap.size + 1, 4, none⟩) (Nat.le_succ _) _).setCell (p := ⟨w.heap.size + 1, 5, none⟩) (Nat.le_succ _) _⟩
end Go.Proofs.Ytehabjiacgibpaa
namespace Go.Proofs.Ytehabjiacgibpaa
open Go.RowKit
theorem infoPiece : (Try.prog.info? 36).map (fun i => (i.zero, i.size, i.bytes)) = some (some (.slice none 0 0), 1, 24) := by kernel_rfl
section
variable {b pt : List UInt8} {k : Nat} {L : List (List UInt8)}
theorem dec_step (h : k < b.length) (h0 : b[k] ≠ 0) : decL (b.drop k) pt L = decL (b.drop (k + 1)) (pt ++ [b[k]]) L := by
  rw [List.drop_eq_getElem_cons h, dec_byte _ _ _ h0]
theorem dec_last (h : k < b.length) (h0 : b[k] = 0) (hk : k + 1 = b.length) : decL (b.drop k) pt L = none := by
  rw [List.drop_eq_getElem_cons h, h0, List.drop_eq_nil_of_le (by omega)]
  rfl
theorem dec_pair (h : k + 1 < b.length) (h0 : b[k]'(by omega) = 0) : decL (b.drop k) pt L = if b[k + 1] = 255 then decL (b.drop (k + 2)) (pt ++ [0]) L else if b[k + 1] = 1 then decL (b.drop (k + 2)) [] (L ++ [pt]) else none := by
  rw [List.drop_eq_getElem_cons (show k < b.length by omega), h0, List.drop_eq_getElem_cons h, dec_two]
theorem dec_done : decL (b.drop b.length) pt L = if pt = [] then some L else none := by
  rw [List.drop_length, dec_end]
end
def errOf (D : Option (List (List UInt8))) : Int := if D.isSome then 0 else 3
def DecOut (w : World) (D : Option (List (List UInt8))) (e : Ending) (w' : World) : Prop :=
  ∃ (A : Option Addr) (ps : List Piece) (n c : Nat), e = .returned (.tuple #[.slice A n c, .int .i64 (errOf D)]) ∧ ps.length = n ∧ SeenAll w' A ps ∧ bytesOf ps = D.getD [] ∧ Below w.heap.size w w'
theorem DecOut.fail {w w' : World} {D : Option (List (List UInt8))} (h : D = none) (hb : Below w.heap.size w w') : DecOut w D (.returned (.tuple #[.slice none 0 0, .int .i64 3])) w' := by
  subst h
  exact ⟨none, [], 0, 0, rfl, rfl, .inl rfl, rfl, hb⟩
def DR (w : World) (b : List UInt8) (D : Option (List (List UInt8))) (s p i : Value) (wr : World) : Prop :=
  ∃ (k : Nat) (ps : List Piece) (pt : List UInt8) (A : Option Addr) (n c : Nat) (B : Option Addr) (m d : Nat), k ≤ b.length ∧ i = .int .i64 k ∧ s = .slice A n c ∧ p = .slice B m d ∧ ps.length = n ∧ pt.length = m ∧ n ≤ k ∧ m ≤ k ∧
    decL (b.drop k) pt (bytesOf ps) = D ∧ DecAt 5 36 w ps pt (.slice A n c) (.slice B m d) wr
theorem bytesOf_more (ps : List Piece) (q : Piece) : bytesOf (ps ++ [q]) = bytesOf ps ++ [q.2.1] := by simp [bytesOf]
theorem byte_ne {y : UInt8} (h : y ≠ 0) : ((y.toNat : Int) != 0) = true := by
  have : y.toNat ≠ 0 := fun e => h (UInt8.toNat_inj.1 e)
  rw [bne_iff_ne]; omega
set_option maxRecDepth 100000 in
set_option maxHeartbeats 1000000 in
theorem decode_any (Ab : Option Addr) (b : List UInt8) (cb : Nat) (w : World) (hs : Seen w Ab b) (hb : b.length ≤ 4398046511104) :
    Calls Try.prog 57 #[.slice Ab b.length cb] w fun e w' => DecOut w (decL b [] []) e w' := by
  obtain ⟨i0, hi, hz0, hz1, hz2⟩ := info_parts infoByte
  obtain ⟨j0, gi, gz0, gz1, gz2⟩ := info_parts infoPiece
  have HS := Lib.hid hs
  obtain ⟨D, hD⟩ : ∃ D, D = decL b [] [] := ⟨_, rfl⟩
  rw [← hD]
  have HD := Lib.hid hD
  clear hs hD
  go_enter Try.func57, Try.ntmps57
  go_wp2_with fail
  go_loopw [4, 5, 6] (fun s p i wr => DR w b D s p i wr) (fun _ _ i _ => b.length - (intOf i).toNat)
  case atStart => exact ⟨0, [], [], none, 0, 0, none, 0, 0, by omega, rfl, rfl, rfl, rfl, rfl, by omega, by omega, by rw [HD.out]; rfl, DecAt.start _ _ _⟩
  case round =>
    clear HD
    obtain ⟨k, ps, pt, A, n, c, B, m, d, hk, rfl, rfl, rfl, hn, hm, hnk, hmk, hdec, hat⟩ := hrel
    have HN := Lib.hid hn
    have HM := Lib.hid hm
    have HDE := Lib.hid hdec
    have H := Lib.hid hat
    clear hn hm hdec hat
    by_cases hlt : k < b.length
    · obtain ⟨g, off, hA, hgw, hc⟩ := HS.out.at_ hlt
      subst hA
      have hc0 := (H.out.below.cell (p := ⟨g, off + k, none⟩) hgw).trans hc
      clear hc
      by_cases h0 : b[k] = 0
      · have t0 : (((b[k]).toNat : Int) != 0) = false := by rw [h0]; rfl
        by_cases hlast : k + 1 < b.length
        · obtain ⟨_, _, hA, _, hc⟩ := HS.out.at_ hlast
          injection hA with hA
          injection hA with hg hoff _
          subst hg hoff
          have hc1 := (H.out.below.cell (p := ⟨g, off + (k + 1), none⟩) hgw).trans hc
          clear hc
          have HP := Lib.hid (dec_pair (pt := pt) (L := bytesOf ps) hlast h0)
          rw [HDE.out] at HP
          obtain ⟨y, hy⟩ : ∃ y, y = b[k] := ⟨_, rfl⟩
          obtain ⟨z, hz⟩ : ∃ z, z = b[k + 1] := ⟨_, rfl⟩
          rw [← hy] at t0 hc0 h0
          rw [← hz] at HP hc1
          clear hy hz h0
          by_cases h255 : z = 255
          · have t1 : ((z.toNat : Int) == 255) = true := byte_is 255 rfl h255
            rw [if_pos h255] at HP
            clear h255
            go_wp2_with (at_builtin; refine wpList_append_part wr rfl (.tmp 39) (.tmp 40) 36 rfl 5 i0 (.int .u8 0) Try.underlying36 hi hz0 hz1 hz2 rfl 36 w ps pt _ B m d 0 0 rfl rfl H.out HM.out rfl (by omega) ?_)
            intro B2 d2 w2 H2
            have H2' := Lib.hid H2
            clear H2
            go_wp2_with fail
            go_roundw
            case rel => exact ⟨k + 2, ps, pt ++ [0], A, n, c, B2, m + 1, d2, by omega, by go_num, rfl, rfl, HN.out, by rw [List.length_append, HM.out]; rfl, by omega, by omega, HP.out.symm, H2'.out⟩
            case measure => simp [intOf]; omega
          · have t1 : ((z.toNat : Int) == 255) = false := byte_not 255 rfl h255
            rw [if_neg h255] at HP
            clear h255
            by_cases h1 : z = 1
            · have t2 : ((z.toNat : Int) == 1) = true := byte_is 1 rfl h1
              rw [if_pos h1] at HP
              clear h1
              go_wp2_with fail
              refine (kclone_any B pt m d wr HM.out H.out.seen (by omega)).mono ?_
              rintro e w2 ⟨A2, c2, rfl, hm2⟩
              have F2 := Lib.hid (hm2.piece H.out (by rw [HM.out]; omega))
              have H2 := Lib.hid (H.out.lower hm2.2)
              have EQ : Hid (pv (A2, pt, c2) = .slice A2 m c2) := by show _ = _; rw [pv, HM.out]
              clear hm2 H
              go_wp2_with (at_builtin; refine wpList_append_piece w2 rfl (.tmp 54) (.tmp 57) 101 rfl 36 j0 (.slice none 0 0) Try.underlying101 gi gz0 gz1 gz2 rfl 5 w ps pt _ A n c (A2, pt, c2) A2 m c2 rfl rfl H2.out HN.out EQ.out F2.out (by omega) ?_)
              intro A3 c3 w3 H3
              have H3' := Lib.hid H3.none_of
              clear H3 H2 F2 EQ
              go_wp2_with fail
              go_roundw
              case rel => exact ⟨k + 2, ps ++ [(A2, pt, c2)], [], A3, n + 1, c3, B, 0, d, by omega, by go_num, rfl, rfl, by rw [List.length_append, HN.out]; rfl, rfl, by omega, by omega, by rw [bytesOf_more]; exact HP.out.symm, H3'.out⟩
              case measure => simp [intOf]; omega
            · have t2 : ((z.toNat : Int) == 1) = false := byte_not 1 rfl h1
              rw [if_neg h1] at HP
              clear h1
              go_wp2_with fail
              go_ret2
              exact DecOut.fail HP.out H.out.below
        · have HP := Lib.hid (dec_last (pt := pt) (L := bytesOf ps) hlt h0 (by omega))
          rw [HDE.out] at HP
          clear h0
          generalize b[k] = y at *
          go_wp2_with fail
          go_ret2
          exact DecOut.fail HP.out H.out.below
      · have t0 : (((b[k]).toNat : Int) != 0) = true := byte_ne h0
        have HP := Lib.hid (dec_step (pt := pt) (L := bytesOf ps) hlt h0)
        rw [HDE.out] at HP
        clear h0
        generalize b[k] = y at *
        have hy := y.toNat_lt
        go_wp2_with (at_builtin; refine wpList_append_part wr rfl (.tmp 18) (.tmp 23) 36 rfl 5 i0 (.int .u8 0) Try.underlying36 hi hz0 hz1 hz2 rfl 36 w ps pt _ B m d _ y rfl rfl H.out HM.out rfl (by omega) ?_)
        intro B2 d2 w2 H2
        have H2' := Lib.hid H2
        clear H2
        go_wp2_with fail
        go_roundw
        case rel => exact ⟨k + 1, ps, pt ++ [y], A, n, c, B2, m + 1, d2, by omega, by go_num, rfl, rfl, HN.out, by rw [List.length_append, HM.out]; rfl, by omega, by omega, HP.out.symm, H2'.out⟩
        case measure => simp [intOf]; omega
    · obtain rfl : k = b.length := by omega
      have HP := Lib.hid (dec_done (b := b) (pt := pt) (L := bytesOf ps))
      rw [HDE.out] at HP
      by_cases hm0 : m = 0
      · subst hm0
        have hp0 : pt = [] := List.eq_nil_of_length_eq_zero HM.out
        rw [if_pos hp0] at HP
        clear hp0
        go_wp2_with fail
        go_ret2
        exact ⟨A, ps, n, c, by rw [HP.out]; rfl, HN.out, H.out.shown, by rw [HP.out]; rfl, H.out.below⟩
      · have hp0 : pt ≠ [] := fun e => hm0 (by rw [← HM.out, e]; rfl)
        rw [if_neg hp0] at HP
        clear hp0
        have t3 : (0 : Int) < (m : Int) := by omega
        go_wp2_with fail
        go_ret2
        exact DecOut.fail HP.out H.out.below
end Go.Proofs.Ytehabjiacgibpaa
namespace Go.Proofs.Ytehabjiacgibpaa
open Go.RowKit
theorem text_on {w : World} {A : Option Addr} {l : List UInt8} (h : Seen w A l) (n c : Nat) (hn : l.length = n) :
    ∀ w', Below w.heap.size w w' → (convert 36 9 (.slice A n c)).run Try.prog w' = .ok (.string ⟨l.toArray⟩) w' := by
  intro w' hb
  subst hn
  exact (h.below hb).text 36 9 5 Try.underlying36 Try.underlying5 Try.underlying9 c
end Go.Proofs.Ytehabjiacgibpaa
