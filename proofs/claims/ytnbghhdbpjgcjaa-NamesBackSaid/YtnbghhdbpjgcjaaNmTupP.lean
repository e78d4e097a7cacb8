/-
  What the program's Tuple comes to. Condition: a string's length fits an int.
-/
import Derived.Test.YtnbghhdbpjgcjaaNmSubP
namespace Go.Proofs.Ytnbghhdbpjgcjaa
open Go.RowKit

set_option maxHeartbeats 2000000 in
theorem tuple_of (l p r : Txt) (o1 o2 s1 s2 s3 : Txt) (bo bs y : Bool) (u rest : Txt) (b1 b2 : Bool) (w : World)
    (hC1 : ∀ W, Calls Try.prog 34 #[strV l, .string ⟨#[35]⟩] W fun e w' => e = .returned (.tuple #[strV p, strV rest, .bool b1]) ∧ Below W.heap.size W w')
    (hC2 : ∀ W, Calls Try.prog 34 #[strV rest, .string ⟨#[64]⟩] W fun e w' => e = .returned (.tuple #[strV r, strV u, .bool b2]) ∧ Below W.heap.size W w')
    (hO : ∀ W, Calls Try.prog 13 #[strV p] W fun e w' => e = .returned (.tuple #[.agg #[strV o1, strV o2], .bool bo]) ∧ Below W.heap.size W w')
    (hS : ∀ W, Calls Try.prog 15 #[strV u] W fun e w' => e = .returned (.tuple #[.agg #[strV s1, strV s2, strV s3], .bool bs]) ∧ Below W.heap.size W w')
    (hN : ∀ W, Calls Try.prog 9 #[strV r] W fun e w' => e = .returned (.bool y) ∧ Below W.heap.size W w') (hr : y = true → r.length ≤ 281474976710656) :
    Calls Try.prog 17 #[strV l] w fun e w' =>
      e = .returned (.tuple #[tupV (if bo && (y && bs) then some (o1, o2, r, s1, s2, s3) else none), .bool (if bo && (y && bs) then some (o1, o2, r, s1, s2, s3) else none : Option Tup).isSome]) ∧ Below w.heap.size w w' := by
  have HC1 := Lib.hid hC1
  have HC2 := Lib.hid hC2
  have HO := Lib.hid hO
  have HS := Lib.hid hS
  have HN := Lib.hid hN
  have HK0 := Lib.hid (Blk.new w [strV [], strV [], strV [], strV [], strV [], strV []] 33)
  have HB0 := Lib.hid ((Below.refl w.heap.size w).alloc (Nat.le_refl _) (.cells #[strV [], strV [], strV [], strV [], strV [], strV []] 33))
  clear hC1 hC2 hO hS hN
  cases bo
  · clear hr
    go_enter Try.func17, Try.ntmps17
    go_wp2_with (first
      | (go_at_call 34; with_reducible refine (HC1.out _).mono ?_; rintro e w1 ⟨rfl, hb1⟩; have HK1 := Lib.hid (HK0.out.below hb1 HK0.out.lt); have HB1 := Lib.hid (HB0.out.trans (hb1.mono (Nat.le_of_lt HK0.out.lt))); clear hb1)
      | (go_at_call 34; with_reducible refine (HC2.out _).mono ?_; rintro e w2 ⟨rfl, hb2⟩; have HK2 := Lib.hid (HK1.out.below hb2 HK1.out.lt); have HB2 := Lib.hid (HB1.out.trans (hb2.mono (Nat.le_of_lt HK1.out.lt))); clear hb2)
      | (go_at_call 13; with_reducible refine (HO.out _).mono ?_; rintro e w3 ⟨rfl, hb3⟩; have HK3 := Lib.hid (HK2.out.below hb3 HK2.out.lt); have HB3 := Lib.hid (HB2.out.trans (hb3.mono (Nat.le_of_lt HK2.out.lt))); have HK4 := Lib.hid (HK3.out.alloc (.cells #[strV o1, strV o2] 25)); have HB4 := Lib.hid (HB3.out.alloc (Nat.le_of_lt HK3.out.lt) (.cells #[strV o1, strV o2] 25)); have HO4 := Lib.hid (Blk.new w3 [strV o1, strV o2] 25); clear hb3)
      | (go_at_call 15; with_reducible refine (HS.out _).mono ?_; rintro e w5 ⟨rfl, hb5⟩; have HK5 := Lib.hid (HK4.out.below hb5 HK4.out.lt); have HB5 := Lib.hid (HB4.out.trans (hb5.mono (Nat.le_of_lt HK4.out.lt))); have HO5 := Lib.hid (HO4.out.below hb5 HO4.out.lt); clear hb5; have hbk := HK5.out; have y0 := hbk.cell (i := 0) (by simp); have y1 := hbk.cell (i := 1) (by simp); have y2 := hbk.cell (i := 2) (by simp); have y3 := hbk.cell (i := 3) (by simp); have y4 := hbk.cell (i := 4) (by simp); have y5 := hbk.cell (i := 5) (by simp); have f0 := hbk.free 0; have f1 := hbk.free 1; have f2 := hbk.free 2; have f3 := hbk.free 3; have f4 := hbk.free 4; have f5 := hbk.free 5; have lt := hbk.lt; clear hbk))
    refine bodyPost_ret (v := .tuple #[.agg #[strV [], strV [], strV [], strV [], strV [], strV []], .bool false]) (by simp [results, Try.results17, go_sem, y0, y1, y2, y3, y4, y5, lt]) rfl ?_
    exact ⟨rfl, below_box6 HB5.out lt _ _ _ _ _ _ _⟩
  · cases y
    · clear hr
      go_enter Try.func17, Try.ntmps17
      go_wp2_with (first
        | (go_at_call 34; with_reducible refine (HC1.out _).mono ?_; rintro e w1 ⟨rfl, hb1⟩; have HK1 := Lib.hid (HK0.out.below hb1 HK0.out.lt); have HB1 := Lib.hid (HB0.out.trans (hb1.mono (Nat.le_of_lt HK0.out.lt))); clear hb1)
        | (go_at_call 34; with_reducible refine (HC2.out _).mono ?_; rintro e w2 ⟨rfl, hb2⟩; have HK2 := Lib.hid (HK1.out.below hb2 HK1.out.lt); have HB2 := Lib.hid (HB1.out.trans (hb2.mono (Nat.le_of_lt HK1.out.lt))); clear hb2)
        | (go_at_call 13; with_reducible refine (HO.out _).mono ?_; rintro e w3 ⟨rfl, hb3⟩; have HK3 := Lib.hid (HK2.out.below hb3 HK2.out.lt); have HB3 := Lib.hid (HB2.out.trans (hb3.mono (Nat.le_of_lt HK2.out.lt))); have HK4 := Lib.hid (HK3.out.alloc (.cells #[strV o1, strV o2] 25)); have HB4 := Lib.hid (HB3.out.alloc (Nat.le_of_lt HK3.out.lt) (.cells #[strV o1, strV o2] 25)); have HO4 := Lib.hid (Blk.new w3 [strV o1, strV o2] 25); clear hb3)
        | (go_at_call 15; with_reducible refine (HS.out _).mono ?_; rintro e w5 ⟨rfl, hb5⟩; have HK5 := Lib.hid (HK4.out.below hb5 HK4.out.lt); have HB5 := Lib.hid (HB4.out.trans (hb5.mono (Nat.le_of_lt HK4.out.lt))); have HO5 := Lib.hid (HO4.out.below hb5 HO4.out.lt); have HK6 := Lib.hid (HK5.out.alloc (.cells #[strV s1, strV s2, strV s3] 29)); have HB6 := Lib.hid (HB5.out.alloc (Nat.le_of_lt HK5.out.lt) (.cells #[strV s1, strV s2, strV s3] 29)); have HO6 := Lib.hid (HO5.out.alloc (.cells #[strV s1, strV s2, strV s3] 29)); have HS6 := Lib.hid (Blk.new w5 [strV s1, strV s2, strV s3] 29); clear hb5)
        | (go_at_call 9; with_reducible refine (HN.out _).mono ?_; rintro e w7 ⟨rfl, hb7⟩; have HK7 := Lib.hid (HK6.out.below hb7 HK6.out.lt); have HB7 := Lib.hid (HB6.out.trans (hb7.mono (Nat.le_of_lt HK6.out.lt))); have HO7 := Lib.hid (HO6.out.below hb7 HO6.out.lt); have HS7 := Lib.hid (HS6.out.below hb7 HS6.out.lt); clear hb7; have hbk := HK7.out; have y0 := hbk.cell (i := 0) (by simp); have y1 := hbk.cell (i := 1) (by simp); have y2 := hbk.cell (i := 2) (by simp); have y3 := hbk.cell (i := 3) (by simp); have y4 := hbk.cell (i := 4) (by simp); have y5 := hbk.cell (i := 5) (by simp); have f0 := hbk.free 0; have f1 := hbk.free 1; have f2 := hbk.free 2; have f3 := hbk.free 3; have f4 := hbk.free 4; have f5 := hbk.free 5; have lt := hbk.lt; clear hbk))
      refine bodyPost_ret (v := .tuple #[.agg #[strV [], strV [], strV [], strV [], strV [], strV []], .bool false]) (by simp [results, Try.results17, go_sem, y0, y1, y2, y3, y4, y5]) rfl ?_
      exact ⟨rfl, (((((HB7.out.setCell (Nat.le_refl _) _).setCell (Nat.le_refl _) _).setCell (Nat.le_refl _) _).setCell (Nat.le_refl _) _).setCell (Nat.le_refl _) _).setCell (Nat.le_refl _) _⟩
    · cases bs
      · clear hr
        go_enter Try.func17, Try.ntmps17
        go_wp2_with (first
          | (go_at_call 34; with_reducible refine (HC1.out _).mono ?_; rintro e w1 ⟨rfl, hb1⟩; have HK1 := Lib.hid (HK0.out.below hb1 HK0.out.lt); have HB1 := Lib.hid (HB0.out.trans (hb1.mono (Nat.le_of_lt HK0.out.lt))); clear hb1)
          | (go_at_call 34; with_reducible refine (HC2.out _).mono ?_; rintro e w2 ⟨rfl, hb2⟩; have HK2 := Lib.hid (HK1.out.below hb2 HK1.out.lt); have HB2 := Lib.hid (HB1.out.trans (hb2.mono (Nat.le_of_lt HK1.out.lt))); clear hb2)
          | (go_at_call 13; with_reducible refine (HO.out _).mono ?_; rintro e w3 ⟨rfl, hb3⟩; have HK3 := Lib.hid (HK2.out.below hb3 HK2.out.lt); have HB3 := Lib.hid (HB2.out.trans (hb3.mono (Nat.le_of_lt HK2.out.lt))); have HK4 := Lib.hid (HK3.out.alloc (.cells #[strV o1, strV o2] 25)); have HB4 := Lib.hid (HB3.out.alloc (Nat.le_of_lt HK3.out.lt) (.cells #[strV o1, strV o2] 25)); have HO4 := Lib.hid (Blk.new w3 [strV o1, strV o2] 25); clear hb3)
          | (go_at_call 15; with_reducible refine (HS.out _).mono ?_; rintro e w5 ⟨rfl, hb5⟩; have HK5 := Lib.hid (HK4.out.below hb5 HK4.out.lt); have HB5 := Lib.hid (HB4.out.trans (hb5.mono (Nat.le_of_lt HK4.out.lt))); have HO5 := Lib.hid (HO4.out.below hb5 HO4.out.lt); have HK6 := Lib.hid (HK5.out.alloc (.cells #[strV s1, strV s2, strV s3] 29)); have HB6 := Lib.hid (HB5.out.alloc (Nat.le_of_lt HK5.out.lt) (.cells #[strV s1, strV s2, strV s3] 29)); have HO6 := Lib.hid (HO5.out.alloc (.cells #[strV s1, strV s2, strV s3] 29)); have HS6 := Lib.hid (Blk.new w5 [strV s1, strV s2, strV s3] 29); clear hb5)
          | (go_at_call 9; with_reducible refine (HN.out _).mono ?_; rintro e w7 ⟨rfl, hb7⟩; have HK7 := Lib.hid (HK6.out.below hb7 HK6.out.lt); have HB7 := Lib.hid (HB6.out.trans (hb7.mono (Nat.le_of_lt HK6.out.lt))); have HO7 := Lib.hid (HO6.out.below hb7 HO6.out.lt); have HS7 := Lib.hid (HS6.out.below hb7 HS6.out.lt); clear hb7; have hbk := HK7.out; have y0 := hbk.cell (i := 0) (by simp); have y1 := hbk.cell (i := 1) (by simp); have y2 := hbk.cell (i := 2) (by simp); have y3 := hbk.cell (i := 3) (by simp); have y4 := hbk.cell (i := 4) (by simp); have y5 := hbk.cell (i := 5) (by simp); have f0 := hbk.free 0; have f1 := hbk.free 1; have f2 := hbk.free 2; have f3 := hbk.free 3; have f4 := hbk.free 4; have f5 := hbk.free 5; have lt := hbk.lt; clear hbk))
        refine bodyPost_ret (v := .tuple #[.agg #[strV [], strV [], strV [], strV [], strV [], strV []], .bool false]) (by simp [results, Try.results17, go_sem, y0, y1, y2, y3, y4, y5]) rfl ?_
        exact ⟨rfl, (((((HB7.out.setCell (Nat.le_refl _) _).setCell (Nat.le_refl _) _).setCell (Nat.le_refl _) _).setCell (Nat.le_refl _) _).setCell (Nat.le_refl _) _).setCell (Nat.le_refl _) _⟩
      · have HQ := Lib.hid (fun W => clone_any r W (hr rfl))
        clear hr
        go_enter Try.func17, Try.ntmps17
        go_wp2_with (first
          | (go_at_call 34; with_reducible refine (HC1.out _).mono ?_; rintro e w1 ⟨rfl, hb1⟩; have HK1 := Lib.hid (HK0.out.below hb1 HK0.out.lt); have HB1 := Lib.hid (HB0.out.trans (hb1.mono (Nat.le_of_lt HK0.out.lt))); clear hb1)
          | (go_at_call 34; with_reducible refine (HC2.out _).mono ?_; rintro e w2 ⟨rfl, hb2⟩; have HK2 := Lib.hid (HK1.out.below hb2 HK1.out.lt); have HB2 := Lib.hid (HB1.out.trans (hb2.mono (Nat.le_of_lt HK1.out.lt))); clear hb2)
          | (go_at_call 13; with_reducible refine (HO.out _).mono ?_; rintro e w3 ⟨rfl, hb3⟩; have HK3 := Lib.hid (HK2.out.below hb3 HK2.out.lt); have HB3 := Lib.hid (HB2.out.trans (hb3.mono (Nat.le_of_lt HK2.out.lt))); have HK4 := Lib.hid (HK3.out.alloc (.cells #[strV o1, strV o2] 25)); have HB4 := Lib.hid (HB3.out.alloc (Nat.le_of_lt HK3.out.lt) (.cells #[strV o1, strV o2] 25)); have HO4 := Lib.hid (Blk.new w3 [strV o1, strV o2] 25); clear hb3)
          | (go_at_call 15; with_reducible refine (HS.out _).mono ?_; rintro e w5 ⟨rfl, hb5⟩; have HK5 := Lib.hid (HK4.out.below hb5 HK4.out.lt); have HB5 := Lib.hid (HB4.out.trans (hb5.mono (Nat.le_of_lt HK4.out.lt))); have HO5 := Lib.hid (HO4.out.below hb5 HO4.out.lt); have HK6 := Lib.hid (HK5.out.alloc (.cells #[strV s1, strV s2, strV s3] 29)); have HB6 := Lib.hid (HB5.out.alloc (Nat.le_of_lt HK5.out.lt) (.cells #[strV s1, strV s2, strV s3] 29)); have HO6 := Lib.hid (HO5.out.alloc (.cells #[strV s1, strV s2, strV s3] 29)); have HS6 := Lib.hid (Blk.new w5 [strV s1, strV s2, strV s3] 29); clear hb5)
          | (go_at_call 9; with_reducible refine (HN.out _).mono ?_; rintro e w7 ⟨rfl, hb7⟩; have HK7 := Lib.hid (HK6.out.below hb7 HK6.out.lt); have HB7 := Lib.hid (HB6.out.trans (hb7.mono (Nat.le_of_lt HK6.out.lt))); have HO7 := Lib.hid (HO6.out.below hb7 HO6.out.lt); have HS7 := Lib.hid (HS6.out.below hb7 HS6.out.lt); clear hb7))
        have hS7 : w7.drew.cell? ⟨w3.heap.size, 0, none⟩ = some (strV o1) ∧ w7.drew.cell? ⟨w3.heap.size, 1, none⟩ = some (strV o2) ∧ w7.drew.cell? ⟨w5.heap.size, 0, none⟩ = some (strV s1) ∧ w7.drew.cell? ⟨w5.heap.size, 1, none⟩ = some (strV s2) ∧ w7.drew.cell? ⟨w5.heap.size, 2, none⟩ = some (strV s3) := ⟨HO7.out.cell (i := 0) (by simp), HO7.out.cell (i := 1) (by simp), HS7.out.cell (i := 0) (by simp), HS7.out.cell (i := 1) (by simp), HS7.out.cell (i := 2) (by simp)⟩
        have hno : ¬ w3.heap.size = w.heap.size := Nat.ne_of_gt HK3.out.lt
        have hns : ¬ w5.heap.size = w.heap.size := Nat.ne_of_gt HK5.out.lt
        go_region_held_law (fun w' => w'.cell? ⟨w3.heap.size, 0, none⟩ = some (strV o1) ∧ w'.cell? ⟨w3.heap.size, 1, none⟩ = some (strV o2) ∧ w'.cell? ⟨w5.heap.size, 0, none⟩ = some (strV s1) ∧ w'.cell? ⟨w5.heap.size, 1, none⟩ = some (strV s2) ∧ w'.cell? ⟨w5.heap.size, 2, none⟩ = some (strV s3))
          (first | with_reducible assumption | exact ⟨((((((HO8.out.other _ _ hno).other _ _ hno).other _ _ hno).other _ _ hno).other _ _ hno).other _ _ hno).cell (i := 0) (by simp), ((((((HO8.out.other _ _ hno).other _ _ hno).other _ _ hno).other _ _ hno).other _ _ hno).other _ _ hno).cell (i := 1) (by simp), ((((((HS8.out.other _ _ hns).other _ _ hns).other _ _ hns).other _ _ hns).other _ _ hns).other _ _ hns).cell (i := 0) (by simp), ((((((HS8.out.other _ _ hns).other _ _ hns).other _ _ hns).other _ _ hns).other _ _ hns).other _ _ hns).cell (i := 1) (by simp), ((((((HS8.out.other _ _ hns).other _ _ hns).other _ _ hns).other _ _ hns).other _ _ hns).other _ _ hns).cell (i := 2) (by simp)⟩)
          (first
            | (go_at_call 35; with_reducible refine (HQ.out _).mono ?_; rintro e w8 ⟨rfl, hb8⟩; have HK8 := Lib.hid (HK7.out.drew.below hb8 HK7.out.drew.lt); have HB8 := Lib.hid (HB7.out.drew.trans (hb8.mono (Nat.le_of_lt HK7.out.drew.lt))); have HO8 := Lib.hid (HO7.out.drew.below hb8 HO7.out.drew.lt); have HS8 := Lib.hid (HS7.out.drew.below hb8 HS7.out.drew.lt); have hS8 : w8.cell? ⟨w3.heap.size, 0, none⟩ = some (strV o1) ∧ w8.cell? ⟨w3.heap.size, 1, none⟩ = some (strV o2) ∧ w8.cell? ⟨w5.heap.size, 0, none⟩ = some (strV s1) ∧ w8.cell? ⟨w5.heap.size, 1, none⟩ = some (strV s2) ∧ w8.cell? ⟨w5.heap.size, 2, none⟩ = some (strV s3) := ⟨HO8.out.cell (i := 0) (by simp), HO8.out.cell (i := 1) (by simp), HS8.out.cell (i := 0) (by simp), HS8.out.cell (i := 1) (by simp), HS8.out.cell (i := 2) (by simp)⟩; clear hb8; have hbk := HK8.out; have y0 := hbk.cell (i := 0) (by simp); have y1 := hbk.cell (i := 1) (by simp); have y2 := hbk.cell (i := 2) (by simp); have y3 := hbk.cell (i := 3) (by simp); have y4 := hbk.cell (i := 4) (by simp); have y5 := hbk.cell (i := 5) (by simp); have f0 := hbk.free 0; have f1 := hbk.free 1; have f2 := hbk.free 2; have f3 := hbk.free 3; have f4 := hbk.free 4; have f5 := hbk.free 5; have lt := hbk.lt; clear hbk))
        go_wp2_with fail
        refine bodyPost_ret (v := .tuple #[.agg #[strV o1, strV o2, strV r, strV s1, strV s2, strV s3], .bool true]) (by simp [results, Try.results17, go_sem, y0, y1, y2, y3, y4, y5]) rfl ?_
        exact ⟨rfl, (((((HB8.out.setCell (Nat.le_refl _) _).setCell (Nat.le_refl _) _).setCell (Nat.le_refl _) _).setCell (Nat.le_refl _) _).setCell (Nat.le_refl _) _).setCell (Nat.le_refl _) _⟩
theorem tuple_any (l : Txt) (w : World) (hm : l.length ≤ 9223372036854775807) :
    Calls Try.prog 17 #[strV l] w fun e w' => e = .returned (.tuple #[tupV (tupL l), .bool (tupL l).isSome]) ∧ Below w.heap.size w w' := by
  rw [← tupP_eq]
  have h1 := cutL_len l 35
  have h2 := cutL_len (cutL l 35).2.1 64
  have hO := fun W => object_any (cutL l 35).1 W (by omega)
  have hS := fun W => subject_any (cutL (cutL l 35).2.1 64).2.1 W (by omega)
  rw [objV_eq] at hO
  rw [subV_eq] at hS
  exact tuple_of l _ _ _ _ _ _ _ _ _ _ _ _ _ _ w (fun W => cut_any l 35 W hm) (fun W => cut_any _ 64 W (by omega)) hO hS (fun W => name_any _ W (by omega)) nm16
end Go.Proofs.Ytnbghhdbpjgcjaa
