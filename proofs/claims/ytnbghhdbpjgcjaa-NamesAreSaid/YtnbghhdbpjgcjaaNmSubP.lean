/-
  What the program's Subject comes to. Condition: a string's length fits an int.
-/
import Derived.Test.YtnbghhdbpjgcjaaNmRead
import Derived.Deep.RegionHeldLaw
namespace Go.Proofs.Ytnbghhdbpjgcjaa
open Go.RowKit

set_option maxHeartbeats 1000000 in
theorem subject_any (l : Txt) (w : World) (hm : l.length ≤ 9223372036854775807) :
    Calls Try.prog 15 #[strV l] w fun e w' => e = .returned (.tuple #[subV (subL l), .bool (subL l).isSome]) ∧ Below w.heap.size w w' := by
  have hL := cutL_len l 35
  have hnil : (cutL l 35).2.2 = false → (cutL l 35).2.1 = [] := fun hb => (cutL_false (l := l) (c := 35) (Prod.ext rfl (Prod.ext rfl hb))).2.1
  have hCUT : ∀ W, Calls Try.prog 34 #[strV l, .string ⟨#[35]⟩] W fun e w' => e = .returned (.tuple #[strV (cutL l 35).1, strV (cutL l 35).2.1, .bool (cutL l 35).2.2]) ∧ Below W.heap.size W w' := fun W => cut_any l 35 W hm
  unfold subL
  generalize (cutL l 35).1 = p at *
  generalize (cutL l 35).2.1 = q at *
  generalize (cutL l 35).2.2 = b at *
  have hO := fun W => object_any p W (by omega)
  have hN := fun W => name_any q W (by omega)
  have hq : nameL q = true → q.length ≤ 281474976710656 := nm16
  generalize objL p = O at *
  generalize nameL q = y at *
  have HC := Lib.hid hCUT
  have HN := Lib.hid hN
  have HK0 := Lib.hid (Blk.new w [strV [], strV [], strV []] 29)
  have HB0 := Lib.hid ((Below.refl w.heap.size w).alloc (Nat.le_refl _) (.cells #[strV [], strV [], strV []] 29))
  clear hCUT hN hL
  rcases O with _ | ⟨o1, o2⟩
  · have HO : Hid (∀ W, Calls Try.prog 13 #[strV p] W fun e w' => e = .returned (.tuple #[.agg #[strV [], strV []], .bool false]) ∧ Below W.heap.size W w') := Lib.hid hO
    clear hO hq hnil
    go_enter Try.func15, Try.ntmps15
    go_wp2_with (first
      | (go_at_call 34; with_reducible refine (HC.out _).mono ?_; rintro e w1 ⟨rfl, hb1⟩; have HK1 := Lib.hid (HK0.out.below hb1 HK0.out.lt); have HB1 := Lib.hid (HB0.out.trans (hb1.mono (Nat.le_of_lt HK0.out.lt))); clear hb1)
      | (go_at_call 13; with_reducible refine (HO.out _).mono ?_; rintro e w2 ⟨rfl, hb2⟩; have HK2 := Lib.hid (HK1.out.below hb2 HK1.out.lt); have HB2 := Lib.hid (HB1.out.trans (hb2.mono (Nat.le_of_lt HK1.out.lt))); clear hb2; have hbk := HK2.out; have y0 := hbk.cell (i := 0) (by simp); have y1 := hbk.cell (i := 1) (by simp); have y2 := hbk.cell (i := 2) (by simp); have f0 := hbk.free 0; have f1 := hbk.free 1; have f2 := hbk.free 2; have lt := hbk.lt; clear hbk))
    refine bodyPost_ret (v := .tuple #[.agg #[strV [], strV [], strV []], .bool false]) (by simp [results, Try.results15, go_sem, y0, y1, y2, lt]) rfl ?_
    exact ⟨rfl, below_box3 HB2.out lt _ _ _ _⟩
  · have HO : Hid (∀ W, Calls Try.prog 13 #[strV p] W fun e w' => e = .returned (.tuple #[.agg #[strV o1, strV o2], .bool true]) ∧ Below W.heap.size W w') := Lib.hid hO
    clear hO
    show Calls _ _ _ _ fun e w' => e = .returned (.tuple #[subV (if !b || y then some (o1, o2, q) else none), .bool (if !b || y then some (o1, o2, q) else none).isSome]) ∧ _
    cases b
    · have hl : q.length ≤ 281474976710656 := by rw [hnil rfl]; simp
      have HQ := Lib.hid (fun W => clone_any q W hl)
      clear hq hnil hl
      go_enter Try.func15, Try.ntmps15
      go_wp2_with (first
        | (go_at_call 34; with_reducible refine (HC.out _).mono ?_; rintro e w1 ⟨rfl, hb1⟩; have HK1 := Lib.hid (HK0.out.below hb1 HK0.out.lt); have HB1 := Lib.hid (HB0.out.trans (hb1.mono (Nat.le_of_lt HK0.out.lt))); clear hb1)
        | (go_at_call 13; with_reducible refine (HO.out _).mono ?_; rintro e w2 ⟨rfl, hb2⟩; have HK2 := Lib.hid (HK1.out.below hb2 HK1.out.lt); have HB2 := Lib.hid (HB1.out.trans (hb2.mono (Nat.le_of_lt HK1.out.lt))); have HK3 := Lib.hid (HK2.out.alloc (.cells #[strV o1, strV o2] 25)); have HB3 := Lib.hid (HB2.out.alloc (Nat.le_of_lt HK2.out.lt) (.cells #[strV o1, strV o2] 25)); have HO3 := Lib.hid (Blk.new w2 [strV o1, strV o2] 25); clear hb2))
      have z0 := HO3.out.cell (i := 0) (by simp)
      have z1 := HO3.out.cell (i := 1) (by simp)
      have hne : ¬ w2.heap.size = w.heap.size := Nat.ne_of_gt HK2.out.lt
      go_region_held_law (fun w' => w'.cell? ⟨w2.heap.size, 0, none⟩ = some (strV o1) ∧ w'.cell? ⟨w2.heap.size, 1, none⟩ = some (strV o2))
        (first | (constructor <;> assumption) | exact ⟨(((HO5.out.other _ _ hne).other _ _ hne).other _ _ hne).cell (i := 0) (by simp), (((HO5.out.other _ _ hne).other _ _ hne).other _ _ hne).cell (i := 1) (by simp)⟩)
        (first
          | (go_at_call 35; with_reducible refine (HQ.out _).mono ?_; rintro e w5 ⟨rfl, hb5⟩; have HK5 := Lib.hid (HK3.out.drew.below hb5 HK3.out.drew.lt); have HB5 := Lib.hid (HB3.out.drew.trans (hb5.mono (Nat.le_of_lt HK3.out.drew.lt))); have HO5 := Lib.hid (HO3.out.drew.below hb5 HO3.out.drew.lt); clear hb5; have hbk := HK5.out; have y0 := hbk.cell (i := 0) (by simp); have y1 := hbk.cell (i := 1) (by simp); have y2 := hbk.cell (i := 2) (by simp); have f0 := hbk.free 0; have f1 := hbk.free 1; have f2 := hbk.free 2; have lt := hbk.lt; clear hbk z0 z1; have z0 := HO5.out.cell (i := 0) (by simp); have z1 := HO5.out.cell (i := 1) (by simp)))
      go_wp2_with fail
      refine bodyPost_ret (v := .tuple #[.agg #[strV o1, strV o2, strV q], .bool true]) (by simp [results, Try.results15, go_sem, y0, y1, y2]) rfl ?_
      exact ⟨rfl, ((HB5.out.setCell (Nat.le_refl _) _).setCell (Nat.le_refl _) _).setCell (Nat.le_refl _) _⟩
    · cases y
      · clear hq hnil
        go_enter Try.func15, Try.ntmps15
        go_wp2_with (first
          | (go_at_call 34; with_reducible refine (HC.out _).mono ?_; rintro e w1 ⟨rfl, hb1⟩; have HK1 := Lib.hid (HK0.out.below hb1 HK0.out.lt); have HB1 := Lib.hid (HB0.out.trans (hb1.mono (Nat.le_of_lt HK0.out.lt))); clear hb1)
          | (go_at_call 13; with_reducible refine (HO.out _).mono ?_; rintro e w2 ⟨rfl, hb2⟩; have HK2 := Lib.hid (HK1.out.below hb2 HK1.out.lt); have HB2 := Lib.hid (HB1.out.trans (hb2.mono (Nat.le_of_lt HK1.out.lt))); have HK3 := Lib.hid (HK2.out.alloc (.cells #[strV o1, strV o2] 25)); have HB3 := Lib.hid (HB2.out.alloc (Nat.le_of_lt HK2.out.lt) (.cells #[strV o1, strV o2] 25)); have HO3 := Lib.hid (Blk.new w2 [strV o1, strV o2] 25); clear hb2)
          | (go_at_call 9; with_reducible refine (HN.out _).mono ?_; rintro e w4 ⟨rfl, hb4⟩; have HK4 := Lib.hid (HK3.out.below hb4 HK3.out.lt); have HB4 := Lib.hid (HB3.out.trans (hb4.mono (Nat.le_of_lt HK3.out.lt))); have HO4 := Lib.hid (HO3.out.below hb4 HO3.out.lt); clear hb4; have hbk := HK4.out; have y0 := hbk.cell (i := 0) (by simp); have y1 := hbk.cell (i := 1) (by simp); have y2 := hbk.cell (i := 2) (by simp); have f0 := hbk.free 0; have f1 := hbk.free 1; have f2 := hbk.free 2; have lt := hbk.lt; clear hbk))
        refine bodyPost_ret (v := .tuple #[.agg #[strV [], strV [], strV []], .bool false]) (by simp [results, Try.results15, go_sem, y0, y1, y2]) rfl ?_
        exact ⟨rfl, ((HB4.out.setCell (Nat.le_refl _) _).setCell (Nat.le_refl _) _).setCell (Nat.le_refl _) _⟩
      · have HQ := Lib.hid (fun W => clone_any q W (hq rfl))
        clear hq hnil
        go_enter Try.func15, Try.ntmps15
        go_wp2_with (first
          | (go_at_call 34; with_reducible refine (HC.out _).mono ?_; rintro e w1 ⟨rfl, hb1⟩; have HK1 := Lib.hid (HK0.out.below hb1 HK0.out.lt); have HB1 := Lib.hid (HB0.out.trans (hb1.mono (Nat.le_of_lt HK0.out.lt))); clear hb1)
          | (go_at_call 13; with_reducible refine (HO.out _).mono ?_; rintro e w2 ⟨rfl, hb2⟩; have HK2 := Lib.hid (HK1.out.below hb2 HK1.out.lt); have HB2 := Lib.hid (HB1.out.trans (hb2.mono (Nat.le_of_lt HK1.out.lt))); have HK3 := Lib.hid (HK2.out.alloc (.cells #[strV o1, strV o2] 25)); have HB3 := Lib.hid (HB2.out.alloc (Nat.le_of_lt HK2.out.lt) (.cells #[strV o1, strV o2] 25)); have HO3 := Lib.hid (Blk.new w2 [strV o1, strV o2] 25); clear hb2)
          | (go_at_call 9; with_reducible refine (HN.out _).mono ?_; rintro e w4 ⟨rfl, hb4⟩; have HK4 := Lib.hid (HK3.out.below hb4 HK3.out.lt); have HB4 := Lib.hid (HB3.out.trans (hb4.mono (Nat.le_of_lt HK3.out.lt))); have HO4 := Lib.hid (HO3.out.below hb4 HO3.out.lt); clear hb4))
        have z0 := HO4.out.cell (i := 0) (by simp)
        have z1 := HO4.out.cell (i := 1) (by simp)
        have hne : ¬ w2.heap.size = w.heap.size := Nat.ne_of_gt HK2.out.lt
        go_region_held_law (fun w' => w'.cell? ⟨w2.heap.size, 0, none⟩ = some (strV o1) ∧ w'.cell? ⟨w2.heap.size, 1, none⟩ = some (strV o2))
          (first | (constructor <;> assumption) | exact ⟨(((HO5.out.other _ _ hne).other _ _ hne).other _ _ hne).cell (i := 0) (by simp), (((HO5.out.other _ _ hne).other _ _ hne).other _ _ hne).cell (i := 1) (by simp)⟩)
          (first
            | (go_at_call 35; with_reducible refine (HQ.out _).mono ?_; rintro e w5 ⟨rfl, hb5⟩; have HK5 := Lib.hid (HK4.out.drew.below hb5 HK4.out.drew.lt); have HB5 := Lib.hid (HB4.out.drew.trans (hb5.mono (Nat.le_of_lt HK4.out.drew.lt))); have HO5 := Lib.hid (HO4.out.drew.below hb5 HO4.out.drew.lt); clear hb5; have hbk := HK5.out; have y0 := hbk.cell (i := 0) (by simp); have y1 := hbk.cell (i := 1) (by simp); have y2 := hbk.cell (i := 2) (by simp); have f0 := hbk.free 0; have f1 := hbk.free 1; have f2 := hbk.free 2; have lt := hbk.lt; clear hbk z0 z1; have z0 := HO5.out.cell (i := 0) (by simp); have z1 := HO5.out.cell (i := 1) (by simp)))
        go_wp2_with fail
        refine bodyPost_ret (v := .tuple #[.agg #[strV o1, strV o2, strV q], .bool true]) (by simp [results, Try.results15, go_sem, y0, y1, y2]) rfl ?_
        exact ⟨rfl, ((HB5.out.setCell (Nat.le_refl _) _).setCell (Nat.le_refl _) _).setCell (Nat.le_refl _) _⟩
end Go.Proofs.Ytnbghhdbpjgcjaa
