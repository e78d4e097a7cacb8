/-
  What the program's Less comes to. No conditions.
-/
import Derived.Test.YtehabjiacgibpaaGreatCNmCmp
import Derived.Deep.RegionHeldLaw
namespace Go.Proofs.YtehabjiacgibpaaGreat
open Go.RowKit
set_option maxHeartbeats 1000000 in
theorem lessP_any (a b c d f g a' b' c' d' f' g' : Txt) (w : World) :
    Calls Tryz.prog 24 #[.agg #[strV a, strV b, strV c, strV d, strV f, strV g], .agg #[strV a', strV b', strV c', strV d', strV f', strV g']] w fun e w' =>
      e = .returned (.bool (lessF [a, b, c, d, f, g] [a', b', c', d', f', g'])) ∧ Below w.heap.size w w' := by
  obtain ⟨W0, hW⟩ : ∃ W0, W0 = (w.alloc (.cells #[strV a, strV b, strV c, strV d, strV f, strV g] 34)).alloc (.cells #[strV a', strV b', strV c', strV d', strV f', strV g'] 34) := ⟨_, rfl⟩
  have HX : Hid (Blk W0 w.heap.size [strV a, strV b, strV c, strV d, strV f, strV g] 34) := by
    show Blk _ _ _ _
    rw [hW]
    exact (Blk.new w [strV a, strV b, strV c, strV d, strV f, strV g] 34).alloc _
  have HY : Hid (Blk W0 (w.heap.size + 1) [strV a', strV b', strV c', strV d', strV f', strV g'] 34) := by
    have h := Blk.new (w.alloc (.cells #[strV a, strV b, strV c, strV d, strV f, strV g] 34)) [strV a', strV b', strV c', strV d', strV f', strV g'] 34
    show Blk _ _ _ _
    rw [hW]
    simpa using h
  have hb0 : Below w.heap.size w W0 := by
    rw [hW]
    exact ((Below.refl _ _).alloc (Nat.le_refl _) _).alloc (by simp) _
  have HB0 := Lib.hid hb0
  have HW := Lib.hid hW
  clear hb0 hW
  rw [lessF_or]
  obtain ⟨L, hL⟩ : ∃ L, L = List.zipWith cmpL [a, b, c, d, f, g] [a', b', c', d', f', g'] := ⟨_, rfl⟩
  rw [← hL]
  have HL : Hid (L = [cmpL a a', cmpL b b', cmpL c c', cmpL d d', cmpL f f', cmpL g g']) := hL
  clear hL
  have HC := Lib.hid (fun x y W => compare_any x y W)
  have HO : Hid (Calls Tryz.prog 47 #[.slice (some ⟨W0.heap.size, 0, none⟩) 6 6] ((W0.alloc (.cells #[.int .i64 (cmpL a a'), .int .i64 (cmpL b b'), .int .i64 (cmpL c c'), .int .i64 (cmpL d d'), .int .i64 (cmpL f f'), .int .i64 (cmpL g g')] 3)).drew) fun e w' => e = .returned (.int .i64 (orL L)) ∧ w' = (W0.alloc (.cells #[.int .i64 (cmpL a a'), .int .i64 (cmpL b b'), .int .i64 (cmpL c c'), .int .i64 (cmpL d d'), .int .i64 (cmpL f f'), .int .i64 (cmpL g g')] 3)).drew) := by
    have h := or_any L W0.heap.size 6 ((W0.alloc (.cells #[.int .i64 (cmpL a a'), .int .i64 (cmpL b b'), .int .i64 (cmpL c c'), .int .i64 (cmpL d d'), .int .i64 (cmpL f f'), .int .i64 (cmpL g g')] 3)).drew) (by rw [HL.out]; exact Blk.new W0 [.int .i64 (cmpL a a'), .int .i64 (cmpL b b'), .int .i64 (cmpL c c'), .int .i64 (cmpL d d'), .int .i64 (cmpL f f'), .int .i64 (cmpL g g')] 3) (by rw [HL.out]; simp)
    rw [show L.length = 6 by rw [HL.out]; rfl] at h
    exact Lib.hid h
  have HX1 := Lib.hid (HX.out.alloc (.cells #[.int .i64 (cmpL a a'), .int .i64 (cmpL b b'), .int .i64 (cmpL c c'), .int .i64 (cmpL d d'), .int .i64 (cmpL f f'), .int .i64 (cmpL g g')] 3))
  have HY1 := Lib.hid (HY.out.alloc (.cells #[.int .i64 (cmpL a a'), .int .i64 (cmpL b b'), .int .i64 (cmpL c c'), .int .i64 (cmpL d d'), .int .i64 (cmpL f f'), .int .i64 (cmpL g g')] 3))
  go_enter Tryz.func24, Tryz.ntmps24
  go_wp2_with fail
  rw [← HW.out]
  have hS0 : (W0.drew.cell? ⟨w.heap.size, 0, none⟩ = some (strV a) ∧ W0.drew.cell? ⟨w.heap.size, 1, none⟩ = some (strV b) ∧ W0.drew.cell? ⟨w.heap.size, 2, none⟩ = some (strV c) ∧ W0.drew.cell? ⟨w.heap.size, 3, none⟩ = some (strV d) ∧ W0.drew.cell? ⟨w.heap.size, 4, none⟩ = some (strV f) ∧ W0.drew.cell? ⟨w.heap.size, 5, none⟩ = some (strV g)) ∧
      (W0.drew.cell? ⟨w.heap.size + 1, 0, none⟩ = some (strV a') ∧ W0.drew.cell? ⟨w.heap.size + 1, 1, none⟩ = some (strV b') ∧ W0.drew.cell? ⟨w.heap.size + 1, 2, none⟩ = some (strV c') ∧ W0.drew.cell? ⟨w.heap.size + 1, 3, none⟩ = some (strV d') ∧ W0.drew.cell? ⟨w.heap.size + 1, 4, none⟩ = some (strV f') ∧ W0.drew.cell? ⟨w.heap.size + 1, 5, none⟩ = some (strV g')) :=
    ⟨⟨HX.out.cell (i := 0) (by simp), HX.out.cell (i := 1) (by simp), HX.out.cell (i := 2) (by simp), HX.out.cell (i := 3) (by simp), HX.out.cell (i := 4) (by simp), HX.out.cell (i := 5) (by simp)⟩,
      HY.out.cell (i := 0) (by simp), HY.out.cell (i := 1) (by simp), HY.out.cell (i := 2) (by simp), HY.out.cell (i := 3) (by simp), HY.out.cell (i := 4) (by simp), HY.out.cell (i := 5) (by simp)⟩
  have hS1 : ((W0.alloc (.cells #[.int .i64 (cmpL a a'), .int .i64 (cmpL b b'), .int .i64 (cmpL c c'), .int .i64 (cmpL d d'), .int .i64 (cmpL f f'), .int .i64 (cmpL g g')] 3)).drew.cell? ⟨w.heap.size, 0, none⟩ = some (strV a) ∧ (W0.alloc (.cells #[.int .i64 (cmpL a a'), .int .i64 (cmpL b b'), .int .i64 (cmpL c c'), .int .i64 (cmpL d d'), .int .i64 (cmpL f f'), .int .i64 (cmpL g g')] 3)).drew.cell? ⟨w.heap.size, 1, none⟩ = some (strV b) ∧ (W0.alloc (.cells #[.int .i64 (cmpL a a'), .int .i64 (cmpL b b'), .int .i64 (cmpL c c'), .int .i64 (cmpL d d'), .int .i64 (cmpL f f'), .int .i64 (cmpL g g')] 3)).drew.cell? ⟨w.heap.size, 2, none⟩ = some (strV c) ∧ (W0.alloc (.cells #[.int .i64 (cmpL a a'), .int .i64 (cmpL b b'), .int .i64 (cmpL c c'), .int .i64 (cmpL d d'), .int .i64 (cmpL f f'), .int .i64 (cmpL g g')] 3)).drew.cell? ⟨w.heap.size, 3, none⟩ = some (strV d) ∧ (W0.alloc (.cells #[.int .i64 (cmpL a a'), .int .i64 (cmpL b b'), .int .i64 (cmpL c c'), .int .i64 (cmpL d d'), .int .i64 (cmpL f f'), .int .i64 (cmpL g g')] 3)).drew.cell? ⟨w.heap.size, 4, none⟩ = some (strV f) ∧ (W0.alloc (.cells #[.int .i64 (cmpL a a'), .int .i64 (cmpL b b'), .int .i64 (cmpL c c'), .int .i64 (cmpL d d'), .int .i64 (cmpL f f'), .int .i64 (cmpL g g')] 3)).drew.cell? ⟨w.heap.size, 5, none⟩ = some (strV g)) ∧
      ((W0.alloc (.cells #[.int .i64 (cmpL a a'), .int .i64 (cmpL b b'), .int .i64 (cmpL c c'), .int .i64 (cmpL d d'), .int .i64 (cmpL f f'), .int .i64 (cmpL g g')] 3)).drew.cell? ⟨w.heap.size + 1, 0, none⟩ = some (strV a') ∧ (W0.alloc (.cells #[.int .i64 (cmpL a a'), .int .i64 (cmpL b b'), .int .i64 (cmpL c c'), .int .i64 (cmpL d d'), .int .i64 (cmpL f f'), .int .i64 (cmpL g g')] 3)).drew.cell? ⟨w.heap.size + 1, 1, none⟩ = some (strV b') ∧ (W0.alloc (.cells #[.int .i64 (cmpL a a'), .int .i64 (cmpL b b'), .int .i64 (cmpL c c'), .int .i64 (cmpL d d'), .int .i64 (cmpL f f'), .int .i64 (cmpL g g')] 3)).drew.cell? ⟨w.heap.size + 1, 2, none⟩ = some (strV c') ∧ (W0.alloc (.cells #[.int .i64 (cmpL a a'), .int .i64 (cmpL b b'), .int .i64 (cmpL c c'), .int .i64 (cmpL d d'), .int .i64 (cmpL f f'), .int .i64 (cmpL g g')] 3)).drew.cell? ⟨w.heap.size + 1, 3, none⟩ = some (strV d') ∧ (W0.alloc (.cells #[.int .i64 (cmpL a a'), .int .i64 (cmpL b b'), .int .i64 (cmpL c c'), .int .i64 (cmpL d d'), .int .i64 (cmpL f f'), .int .i64 (cmpL g g')] 3)).drew.cell? ⟨w.heap.size + 1, 4, none⟩ = some (strV f') ∧ (W0.alloc (.cells #[.int .i64 (cmpL a a'), .int .i64 (cmpL b b'), .int .i64 (cmpL c c'), .int .i64 (cmpL d d'), .int .i64 (cmpL f f'), .int .i64 (cmpL g g')] 3)).drew.cell? ⟨w.heap.size + 1, 5, none⟩ = some (strV g')) :=
    ⟨⟨HX1.out.cell (i := 0) (by simp), HX1.out.cell (i := 1) (by simp), HX1.out.cell (i := 2) (by simp), HX1.out.cell (i := 3) (by simp), HX1.out.cell (i := 4) (by simp), HX1.out.cell (i := 5) (by simp)⟩,
      HY1.out.cell (i := 0) (by simp), HY1.out.cell (i := 1) (by simp), HY1.out.cell (i := 2) (by simp), HY1.out.cell (i := 3) (by simp), HY1.out.cell (i := 4) (by simp), HY1.out.cell (i := 5) (by simp)⟩
  go_region_held_law (fun w' => (w'.cell? ⟨w.heap.size, 0, none⟩ = some (strV a) ∧ w'.cell? ⟨w.heap.size, 1, none⟩ = some (strV b) ∧ w'.cell? ⟨w.heap.size, 2, none⟩ = some (strV c) ∧ w'.cell? ⟨w.heap.size, 3, none⟩ = some (strV d) ∧ w'.cell? ⟨w.heap.size, 4, none⟩ = some (strV f) ∧ w'.cell? ⟨w.heap.size, 5, none⟩ = some (strV g)) ∧
      (w'.cell? ⟨w.heap.size + 1, 0, none⟩ = some (strV a') ∧ w'.cell? ⟨w.heap.size + 1, 1, none⟩ = some (strV b') ∧ w'.cell? ⟨w.heap.size + 1, 2, none⟩ = some (strV c') ∧ w'.cell? ⟨w.heap.size + 1, 3, none⟩ = some (strV d') ∧ w'.cell? ⟨w.heap.size + 1, 4, none⟩ = some (strV f') ∧ w'.cell? ⟨w.heap.size + 1, 5, none⟩ = some (strV g')))
    (assumption)
    (first
      | (go_at_call 48; with_reducible refine (HC.out _ _ _).mono ?_; rintro e w' ⟨rfl, rfl⟩)
      | (go_at_call 47; with_reducible refine HO.out.mono ?_; rintro e w' ⟨rfl, rfl⟩))
  go_wp2_with fail
  go_ret
  exact ⟨rfl, HB0.out.trans (((Below.refl _ _).alloc (Nat.le_refl _) _).drew.mono HB0.out.size)⟩
end Go.Proofs.YtehabjiacgibpaaGreat
