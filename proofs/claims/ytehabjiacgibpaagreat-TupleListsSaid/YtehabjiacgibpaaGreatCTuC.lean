/-
  A tuple copied. Condition: its texts are at most 2^48 bytes long.
-/
import Derived.Test.YtehabjiacgibpaaGreatCTpL
import Derived.Test.YtehabjiacgibpaaGreatCTpO
import Derived.Test.YtehabjiacgibpaaGreatCTuE
import Derived.Deep.RegionHeldLaw
namespace Go.Proofs.YtehabjiacgibpaaGreat
open Go.RowKit
set_option maxRecDepth 100000 in
set_option maxHeartbeats 4000000 in
theorem copyObj_any (a b : Txt) (W : World) (ha : a.length ≤ 281474976710656) (hb : b.length ≤ 281474976710656) :
    Calls Tryz.prog 85 #[.agg #[strV a, strV b]] W fun e w' => e = .returned (.agg #[strV a, strV b]) ∧ Below W.heap.size W w' := by
  obtain ⟨W1, hW⟩ : ∃ W1, W1 = (W.alloc (.cells #[strV a, strV b] 24)).alloc (.cells #[.string ⟨#[]⟩, .string ⟨#[]⟩] 24) := ⟨_, rfl⟩
  have HKA : Hid (Blk W1 W.heap.size [strV a, strV b] 24) := by rw [hW]; exact Lib.hid ((Blk.new W _ _).alloc _)
  have HKE : Hid (Blk W1 (W.heap.size + 1) [.string ⟨#[]⟩, .string ⟨#[]⟩] 24) := by
    rw [hW]
    have := Blk.new (W.alloc (.cells #[strV a, strV b] 24)) [.string ⟨#[]⟩, .string ⟨#[]⟩] 24
    rw [World.size_alloc] at this
    exact Lib.hid this
  have HB0 : Hid (Below W.heap.size W W1) := by rw [hW]; exact Lib.hid (((Below.refl _ _).alloc (Nat.le_refl _) _).alloc (by simp) _)
  have HW := Lib.hid hW
  have HN : Hid (∀ w, Below W1.heap.size W1 w → (w.cell? ⟨W.heap.size, 0, none⟩ = some (strV a) ∧ w.cell? ⟨W.heap.size, 1, none⟩ = some (strV b))) := Lib.hid (fun w hw => by
    have h1 := HKA.out.below hw HKA.out.lt
    exact ⟨h1.cell (i := 0) (by simp), h1.cell (i := 1) (by simp)⟩)
  have HKZ : Hid (∀ w, Below W1.heap.size W1 w → Blk w (W.heap.size + 1) [.string ⟨#[]⟩, .string ⟨#[]⟩] 24) := Lib.hid (fun w hw => HKE.out.below hw HKE.out.lt)
  have HF : Hid (∀ w, Below W1.heap.size W1 w → Below W.heap.size W w) := Lib.hid (fun w hw => HB0.out.trans (hw.mono HB0.out.size))
  have HC0 := Lib.hid (fun w => rclone_any a w ha)
  have HC1 := Lib.hid (fun w => rclone_any b w hb)
  have HC2 := Lib.hid (fun w => object_any a b w)
  have HST2 : Hid (∀ w : World, (w.cell? ⟨W.heap.size, 0, none⟩ = some (strV a) ∧ w.cell? ⟨W.heap.size, 1, none⟩ = some (strV b)) → ((((w.setCell ⟨W.heap.size + 1, 0, none⟩ (strV a)).setCell ⟨W.heap.size + 1, 1, none⟩ (strV b))).cell? ⟨W.heap.size, 0, none⟩ = some (strV a) ∧ (((w.setCell ⟨W.heap.size + 1, 0, none⟩ (strV a)).setCell ⟨W.heap.size + 1, 1, none⟩ (strV b))).cell? ⟨W.heap.size, 1, none⟩ = some (strV b))) := Lib.hid (fun w hw => by
    have hh : ∀ k', k' ≠ W.heap.size + 1 → (((w.setCell ⟨W.heap.size + 1, 0, none⟩ (strV a)).setCell ⟨W.heap.size + 1, 1, none⟩ (strV b))).heap[k']? = w.heap[k']? := fun k' hk => by
      rw [Below.heap_setCell _ _ _ _ hk, Below.heap_setCell _ _ _ _ hk]
    have hne : W.heap.size ≠ W.heap.size + 1 := Nat.ne_of_lt (Nat.lt_succ_self _)
    exact ⟨(World.cell?_of_block (hh _ hne)).trans hw.1, (World.cell?_of_block (hh _ hne)).trans hw.2⟩)
  have hS0 : (W1.drew.cell? ⟨W.heap.size, 0, none⟩ = some (strV a) ∧ W1.drew.cell? ⟨W.heap.size, 1, none⟩ = some (strV b)) := HN.out _ (Below.refl _ _).drew
  have B1 := Below.refl W1.heap.size W1
  clear hW
  go_enter Tryz.func85, Tryz.ntmps85
  go_wp2_with fail
  show Code.wp _ _ _ _ ((W.alloc (.cells #[strV a, strV b] 24)).alloc (.cells #[.string ⟨#[]⟩, .string ⟨#[]⟩] 24))
  rw [← HW.out]
  go_region_held_law (fun w' => (w'.cell? ⟨W.heap.size, 0, none⟩ = some (strV a) ∧ w'.cell? ⟨W.heap.size, 1, none⟩ = some (strV b)))
    (first | with_reducible assumption | (apply HST2.out; assumption))
    (first
      | (go_at_call 86; (with_reducible refine (HC0.out _).mono ?_); rintro r w5 ⟨rfl, hb5⟩; have B5 : Below W1.heap.size W1 w5 := hop B1.drew hb5; have hS5 := HN.out w5 B5; clear hb5)
      | (go_at_call 86; (with_reducible refine (HC1.out _).mono ?_); rintro r w6 ⟨rfl, hb6⟩; have B6 : Below W1.heap.size W1 w6 := hop B5 hb6; have hS6 := HN.out w6 B6; clear hb6)
      | (go_at_call 103; (with_reducible refine (HC2.out _).mono ?_); rintro r w7 ⟨rfl, hb7⟩; have B7 : Below W1.heap.size W1 w7 := hop B6 hb7; have hS7 := HN.out w7 B7; have HK := HKZ.out w7 B7; have v0 := HK.cell (i := 0) (by simp); have f0 := HK.free 0; have v1 := HK.cell (i := 1) (by simp); have f1 := HK.free 1; clear HK; clear hb7))
  go_wp2_with fail
  refine bodyPost_ret (v := .agg #[strV a, strV b]) (by simp [results, Tryz.results85, go_sem, v0, v1]) rfl ?_
  have hb := ((HF.out _ B7).setCell (p := ⟨W.heap.size + 1, 0, none⟩) (Nat.le_succ _) (strV a)).setCell (p := ⟨W.heap.size + 1, 1, none⟩) (Nat.le_succ _) (strV b)
  exact ⟨rfl, hb⟩
set_option maxRecDepth 100000 in
set_option maxHeartbeats 4000000 in
theorem copyTup_any (q0 q1 q2 q3 q4 q5 : Txt) (W : World) (m0 : q0.length ≤ 281474976710656) (m1 : q1.length ≤ 281474976710656) (m2 : q2.length ≤ 281474976710656) (m3 : q3.length ≤ 281474976710656) (m4 : q4.length ≤ 281474976710656) (m5 : q5.length ≤ 281474976710656) :
    Calls Tryz.prog 49 #[.agg #[strV q0, strV q1, strV q2, strV q3, strV q4, strV q5]] W fun e w' => e = .returned (.agg #[strV q0, strV q1, strV q2, strV q3, strV q4, strV q5]) ∧ Below W.heap.size W w' := by
  obtain ⟨W1, hW⟩ : ∃ W1, W1 = (W.alloc (.cells #[strV q0, strV q1, strV q2, strV q3, strV q4, strV q5] 34)).alloc (.cells #[.string ⟨#[]⟩, .string ⟨#[]⟩, .string ⟨#[]⟩, .string ⟨#[]⟩, .string ⟨#[]⟩, .string ⟨#[]⟩] 34) := ⟨_, rfl⟩
  have HKA : Hid (Blk W1 W.heap.size [strV q0, strV q1, strV q2, strV q3, strV q4, strV q5] 34) := by rw [hW]; exact Lib.hid ((Blk.new W _ _).alloc _)
  have HKE : Hid (Blk W1 (W.heap.size + 1) [.string ⟨#[]⟩, .string ⟨#[]⟩, .string ⟨#[]⟩, .string ⟨#[]⟩, .string ⟨#[]⟩, .string ⟨#[]⟩] 34) := by
    rw [hW]
    have := Blk.new (W.alloc (.cells #[strV q0, strV q1, strV q2, strV q3, strV q4, strV q5] 34)) [.string ⟨#[]⟩, .string ⟨#[]⟩, .string ⟨#[]⟩, .string ⟨#[]⟩, .string ⟨#[]⟩, .string ⟨#[]⟩] 34
    rw [World.size_alloc] at this
    exact Lib.hid this
  have HB0 : Hid (Below W.heap.size W W1) := by rw [hW]; exact Lib.hid (((Below.refl _ _).alloc (Nat.le_refl _) _).alloc (by simp) _)
  have HW := Lib.hid hW
  have HN : Hid (∀ w, Below W1.heap.size W1 w → (w.cell? ⟨W.heap.size, 0, none⟩ = some (strV q0) ∧ w.cell? ⟨W.heap.size, 1, none⟩ = some (strV q1) ∧ w.cell? ⟨W.heap.size, 2, none⟩ = some (strV q2) ∧ w.cell? ⟨W.heap.size, 3, none⟩ = some (strV q3) ∧ w.cell? ⟨W.heap.size, 4, none⟩ = some (strV q4) ∧ w.cell? ⟨W.heap.size, 5, none⟩ = some (strV q5))) := Lib.hid (fun w hw => by
    have h1 := HKA.out.below hw HKA.out.lt
    exact ⟨h1.cell (i := 0) (by simp), h1.cell (i := 1) (by simp), h1.cell (i := 2) (by simp), h1.cell (i := 3) (by simp), h1.cell (i := 4) (by simp), h1.cell (i := 5) (by simp)⟩)
  have HKZ : Hid (∀ w, Below W1.heap.size W1 w → Blk w (W.heap.size + 1) [.string ⟨#[]⟩, .string ⟨#[]⟩, .string ⟨#[]⟩, .string ⟨#[]⟩, .string ⟨#[]⟩, .string ⟨#[]⟩] 34) := Lib.hid (fun w hw => HKE.out.below hw HKE.out.lt)
  have HF : Hid (∀ w, Below W1.heap.size W1 w → Below W.heap.size W w) := Lib.hid (fun w hw => HB0.out.trans (hw.mono HB0.out.size))
  have HC0 := Lib.hid (fun w => copyObj_any q0 q1 w m0 m1)
  have HC1 := Lib.hid (fun w => rclone_any q2 w m2)
  have HC2 := Lib.hid (fun w => copyObj_any q3 q4 w m3 m4)
  have HC3 := Lib.hid (fun w => rclone_any q5 w m5)
  have HST2 : Hid (∀ w : World, (w.cell? ⟨W.heap.size, 0, none⟩ = some (strV q0) ∧ w.cell? ⟨W.heap.size, 1, none⟩ = some (strV q1) ∧ w.cell? ⟨W.heap.size, 2, none⟩ = some (strV q2) ∧ w.cell? ⟨W.heap.size, 3, none⟩ = some (strV q3) ∧ w.cell? ⟨W.heap.size, 4, none⟩ = some (strV q4) ∧ w.cell? ⟨W.heap.size, 5, none⟩ = some (strV q5)) → ((((((((w.setCell ⟨W.heap.size + 1, 0, none⟩ (strV q0)).setCell ⟨W.heap.size + 1, 1, none⟩ (strV q1)).setCell ⟨W.heap.size + 1, 2, none⟩ (strV q2)).setCell ⟨W.heap.size + 1, 3, none⟩ (strV q3)).setCell ⟨W.heap.size + 1, 4, none⟩ (strV q4)).setCell ⟨W.heap.size + 1, 5, none⟩ (strV q5))).cell? ⟨W.heap.size, 0, none⟩ = some (strV q0) ∧ (((((((w.setCell ⟨W.heap.size + 1, 0, none⟩ (strV q0)).setCell ⟨W.heap.size + 1, 1, none⟩ (strV q1)).setCell ⟨W.heap.size + 1, 2, none⟩ (strV q2)).setCell ⟨W.heap.size + 1, 3, none⟩ (strV q3)).setCell ⟨W.heap.size + 1, 4, none⟩ (strV q4)).setCell ⟨W.heap.size + 1, 5, none⟩ (strV q5))).cell? ⟨W.heap.size, 1, none⟩ = some (strV q1) ∧ (((((((w.setCell ⟨W.heap.size + 1, 0, none⟩ (strV q0)).setCell ⟨W.heap.size + 1, 1, none⟩ (strV q1)).setCell ⟨W.heap.size + 1, 2, none⟩ (strV q2)).setCell ⟨W.heap.size + 1, 3, none⟩ (strV q3)).setCell ⟨W.heap.size + 1, 4, none⟩ (strV q4)).setCell ⟨W.heap.size + 1, 5, none⟩ (strV q5))).cell? ⟨W.heap.size, 2, none⟩ = some (strV q2) ∧ (((((((w.setCell ⟨W.heap.size + 1, 0, none⟩ (strV q0)).setCell ⟨W.heap.size + 1, 1, none⟩ (strV q1)).setCell ⟨W.heap.size + 1, 2, none⟩ (strV q2)).setCell ⟨W.heap.size + 1, 3, none⟩ (strV q3)).setCell ⟨W.heap.size + 1, 4, none⟩ (strV q4)).setCell ⟨W.heap.size + 1, 5, none⟩ (strV q5))).cell? ⟨W.heap.size, 3, none⟩ = some (strV q3) ∧ (((((((w.setCell ⟨W.heap.size + 1, 0, none⟩ (strV q0)).setCell ⟨W.heap.size + 1, 1, none⟩ (strV q1)).setCell ⟨W.heap.size + 1, 2, none⟩ (strV q2)).setCell ⟨W.heap.size + 1, 3, none⟩ (strV q3)).setCell ⟨W.heap.size + 1, 4, none⟩ (strV q4)).setCell ⟨W.heap.size + 1, 5, none⟩ (strV q5))).cell? ⟨W.heap.size, 4, none⟩ = some (strV q4) ∧ (((((((w.setCell ⟨W.heap.size + 1, 0, none⟩ (strV q0)).setCell ⟨W.heap.size + 1, 1, none⟩ (strV q1)).setCell ⟨W.heap.size + 1, 2, none⟩ (strV q2)).setCell ⟨W.heap.size + 1, 3, none⟩ (strV q3)).setCell ⟨W.heap.size + 1, 4, none⟩ (strV q4)).setCell ⟨W.heap.size + 1, 5, none⟩ (strV q5))).cell? ⟨W.heap.size, 5, none⟩ = some (strV q5))) := Lib.hid (fun w hw => by
    have hh : ∀ k', k' ≠ W.heap.size + 1 → (((((((w.setCell ⟨W.heap.size + 1, 0, none⟩ (strV q0)).setCell ⟨W.heap.size + 1, 1, none⟩ (strV q1)).setCell ⟨W.heap.size + 1, 2, none⟩ (strV q2)).setCell ⟨W.heap.size + 1, 3, none⟩ (strV q3)).setCell ⟨W.heap.size + 1, 4, none⟩ (strV q4)).setCell ⟨W.heap.size + 1, 5, none⟩ (strV q5))).heap[k']? = w.heap[k']? := fun k' hk => by
      rw [Below.heap_setCell _ _ _ _ hk, Below.heap_setCell _ _ _ _ hk, Below.heap_setCell _ _ _ _ hk, Below.heap_setCell _ _ _ _ hk, Below.heap_setCell _ _ _ _ hk, Below.heap_setCell _ _ _ _ hk]
    have hne : W.heap.size ≠ W.heap.size + 1 := Nat.ne_of_lt (Nat.lt_succ_self _)
    exact ⟨(World.cell?_of_block (hh _ hne)).trans hw.1, (World.cell?_of_block (hh _ hne)).trans hw.2.1, (World.cell?_of_block (hh _ hne)).trans hw.2.2.1, (World.cell?_of_block (hh _ hne)).trans hw.2.2.2.1, (World.cell?_of_block (hh _ hne)).trans hw.2.2.2.2.1, (World.cell?_of_block (hh _ hne)).trans hw.2.2.2.2.2⟩)
  have hS0 : (W1.drew.cell? ⟨W.heap.size, 0, none⟩ = some (strV q0) ∧ W1.drew.cell? ⟨W.heap.size, 1, none⟩ = some (strV q1) ∧ W1.drew.cell? ⟨W.heap.size, 2, none⟩ = some (strV q2) ∧ W1.drew.cell? ⟨W.heap.size, 3, none⟩ = some (strV q3) ∧ W1.drew.cell? ⟨W.heap.size, 4, none⟩ = some (strV q4) ∧ W1.drew.cell? ⟨W.heap.size, 5, none⟩ = some (strV q5)) := HN.out _ (Below.refl _ _).drew
  have B1 := Below.refl W1.heap.size W1
  clear hW
  go_enter Tryz.func49, Tryz.ntmps49
  go_wp2_with fail
  show Code.wp _ _ _ _ ((W.alloc (.cells #[strV q0, strV q1, strV q2, strV q3, strV q4, strV q5] 34)).alloc (.cells #[.string ⟨#[]⟩, .string ⟨#[]⟩, .string ⟨#[]⟩, .string ⟨#[]⟩, .string ⟨#[]⟩, .string ⟨#[]⟩] 34))
  rw [← HW.out]
  go_region_held_law (fun w' => (w'.cell? ⟨W.heap.size, 0, none⟩ = some (strV q0) ∧ w'.cell? ⟨W.heap.size, 1, none⟩ = some (strV q1) ∧ w'.cell? ⟨W.heap.size, 2, none⟩ = some (strV q2) ∧ w'.cell? ⟨W.heap.size, 3, none⟩ = some (strV q3) ∧ w'.cell? ⟨W.heap.size, 4, none⟩ = some (strV q4) ∧ w'.cell? ⟨W.heap.size, 5, none⟩ = some (strV q5)))
    (first | with_reducible assumption | (apply HST2.out; assumption))
    (first
      | (go_at_call 85; (with_reducible refine (HC0.out _).mono ?_); rintro r w5 ⟨rfl, hb5⟩; have B5 : Below W1.heap.size W1 w5 := hop B1.drew hb5; have hS5 := HN.out w5 B5; clear hb5)
      | (go_at_call 86; (with_reducible refine (HC1.out _).mono ?_); rintro r w6 ⟨rfl, hb6⟩; have B6 : Below W1.heap.size W1 w6 := hop B5 hb6; have hS6 := HN.out w6 B6; clear hb6)
      | (go_at_call 85; (with_reducible refine (HC2.out _).mono ?_); rintro r w7 ⟨rfl, hb7⟩; have B7 : Below W1.heap.size W1 w7 := hop B6 hb7; have hS7 := HN.out w7 B7; clear hb7)
      | (go_at_call 86; (with_reducible refine (HC3.out _).mono ?_); rintro r w8 ⟨rfl, hb8⟩; have B8 : Below W1.heap.size W1 w8 := hop B7 hb8; have hS8 := HN.out w8 B8; have HK := HKZ.out w8 B8; have v0 := HK.cell (i := 0) (by simp); have f0 := HK.free 0; have v1 := HK.cell (i := 1) (by simp); have f1 := HK.free 1; have v2 := HK.cell (i := 2) (by simp); have f2 := HK.free 2; have v3 := HK.cell (i := 3) (by simp); have f3 := HK.free 3; have v4 := HK.cell (i := 4) (by simp); have f4 := HK.free 4; have v5 := HK.cell (i := 5) (by simp); have f5 := HK.free 5; clear HK; clear hb8))
  go_wp2_with fail
  refine bodyPost_ret (v := .agg #[strV q0, strV q1, strV q2, strV q3, strV q4, strV q5]) (by simp [results, Tryz.results49, go_sem, v0, v1, v2, v3, v4, v5]) rfl ?_
  have hb := ((((((HF.out _ B8).setCell (p := ⟨W.heap.size + 1, 0, none⟩) (Nat.le_succ _) (strV q0)).setCell (p := ⟨W.heap.size + 1, 1, none⟩) (Nat.le_succ _) (strV q1)).setCell (p := ⟨W.heap.size + 1, 2, none⟩) (Nat.le_succ _) (strV q2)).setCell (p := ⟨W.heap.size + 1, 3, none⟩) (Nat.le_succ _) (strV q3)).setCell (p := ⟨W.heap.size + 1, 4, none⟩) (Nat.le_succ _) (strV q4)).setCell (p := ⟨W.heap.size + 1, 5, none⟩) (Nat.le_succ _) (strV q5)
  exact ⟨rfl, hb⟩
end Go.Proofs.YtehabjiacgibpaaGreat
