/-
  What the document's Tuple comes to. Condition: a string's length fits an int.
-/
import Derived.Test.YtnbghhdbpjgcjaaNmSub
namespace Go.Proofs.Ytnbghhdbpjgcjaa
open Go.RowKit

abbrev Tup := Txt × Txt × Txt × Txt × Txt × Txt
def tupL (l : Txt) : Option Tup :=
  if (cutL l 64).2.2 && ((cutL (cutL l 64).1 35).2.2 && ((objL (cutL (cutL l 64).1 35).1).isSome && ((subL (cutL l 64).2.1).isSome && nameL (cutL (cutL l 64).1 35).2.1))) then
    some (((objL (cutL (cutL l 64).1 35).1).getD ([], [])).1, ((objL (cutL (cutL l 64).1 35).1).getD ([], [])).2, (cutL (cutL l 64).1 35).2.1, (subL (cutL l 64).2.1).getD ([], [], []))
  else none
def tupV : Option Tup → Value
  | none => .agg #[strV [], strV [], strV [], strV [], strV [], strV []]
  | some (a, b, c, d, e, f) => .agg #[strV a, strV b, strV c, strV d, strV e, strV f]
theorem objV_eq (o : Option (Txt × Txt)) : objV o = .agg #[strV (o.getD ([], [])).1, strV (o.getD ([], [])).2] := by cases o <;> rfl
theorem subV_eq (o : Option (Txt × Txt × Txt)) : subV o = .agg #[strV (o.getD ([], [], [])).1, strV (o.getD ([], [], [])).2.1, strV (o.getD ([], [], [])).2.2] := by cases o <;> rfl
theorem below_box6 {w w2 : World} (h : Below w.heap.size w w2) (lt : w.heap.size < w2.heap.size) (a b c d e f : Value) (o : Obj) :
    Below w.heap.size w (((((((w2.setCell ⟨w.heap.size, 0, none⟩ a).setCell ⟨w.heap.size, 1, none⟩ b).setCell ⟨w.heap.size, 2, none⟩ c).setCell ⟨w.heap.size, 3, none⟩ d).setCell ⟨w.heap.size, 4, none⟩ e).setCell ⟨w.heap.size, 5, none⟩ f).alloc o) :=
  ((((((h.setCell (Nat.le_refl _) _).setCell (Nat.le_refl _) _).setCell (Nat.le_refl _) _).setCell (Nat.le_refl _) _).setCell (Nat.le_refl _) _).setCell (Nat.le_refl _) _).alloc (by simp; omega) _
theorem tupV_eq (o : Option Tup) : tupV o = .agg #[strV (o.getD ([], [], [], [], [], [])).1, strV (o.getD ([], [], [], [], [], [])).2.1, strV (o.getD ([], [], [], [], [], [])).2.2.1, strV (o.getD ([], [], [], [], [], [])).2.2.2.1,
    strV (o.getD ([], [], [], [], [], [])).2.2.2.2.1, strV (o.getD ([], [], [], [], [], [])).2.2.2.2.2] := by cases o <;> rfl
set_option maxHeartbeats 800000 in
theorem refTuple_any (l : Txt) (w : World) (hm : l.length ≤ 9223372036854775807) :
    Calls Try.prog 18 #[strV l] w fun e w' =>
      e = .returned (.tuple #[tupV (tupL l), .bool (tupL l).isSome]) ∧ Below w.heap.size w w' := by
  obtain ⟨p, hp⟩ : ∃ p, p = (cutL l 64).1 := ⟨_, rfl⟩
  obtain ⟨q, hq⟩ : ∃ q, q = (cutL l 64).2.1 := ⟨_, rfl⟩
  obtain ⟨b, hb⟩ : ∃ b, b = (cutL l 64).2.2 := ⟨_, rfl⟩
  obtain ⟨p2, hp2⟩ : ∃ p2, p2 = (cutL p 35).1 := ⟨_, rfl⟩
  obtain ⟨q2, hq2⟩ : ∃ q2, q2 = (cutL p 35).2.1 := ⟨_, rfl⟩
  obtain ⟨b2, hb2⟩ : ∃ b2, b2 = (cutL p 35).2.2 := ⟨_, rfl⟩
  have hL := cutL_len l 64
  have hL2 := cutL_len p 35
  rw [← hp, ← hq] at hL
  rw [← hp2, ← hq2] at hL2
  have hC1 := fun W => refCut_txt l 64 W hm
  have hC2 := fun W => refCut_txt p 35 W (by omega)
  simp only [show ((64 : UInt8).toNat : Int) = 64 from rfl, ← hp, ← hq, ← hb] at hC1
  simp only [show ((35 : UInt8).toNat : Int) = 35 from rfl, ← hp2, ← hq2, ← hb2] at hC2
  have HC1 := Lib.hid hC1
  have HC2 := Lib.hid hC2
  have hO := fun W => refObject_any p2 W (by omega)
  have hS := fun W => refSubject_any q W (by omega)
  have hN := fun W => refName_txt q2 W (by omega)
  have ht : tupL l = if b && (b2 && ((objL p2).isSome && ((subL q).isSome && nameL q2))) then
    some (((objL p2).getD ([], [])).1, ((objL p2).getD ([], [])).2, q2, (subL q).getD ([], [], [])) else none := by unfold tupL; rw [← hp, ← hq, ← hb, ← hp2, ← hq2, ← hb2]
  rw [ht]
  clear hp hq hb hp2 hq2 hb2 hL hL2 hC1 hC2 ht
  simp only [objV_eq] at hO
  simp only [subV_eq] at hS
  generalize (objL p2).isSome = a at *
  generalize (subL q).isSome = c at *
  generalize nameL q2 = y at *
  generalize (objL p2).getD ([], []) = o at *
  generalize (subL q).getD ([], [], []) = s at *
  obtain ⟨o1, o2⟩ := o
  obtain ⟨s1, s2, s3⟩ := s
  have HO := Lib.hid hO
  have HS := Lib.hid hS
  have HN := Lib.hid hN
  clear hO hS hN
  have hcase : (b = false ∨ (b = true ∧ b2 = false) ∨ (b = true ∧ b2 = true ∧ a = false) ∨ (b = true ∧ b2 = true ∧ a = true ∧ c = false) ∨ (b = true ∧ b2 = true ∧ a = true ∧ c = true ∧ y = false)) ∨ (b = true ∧ b2 = true ∧ a = true ∧ c = true ∧ y = true) := by
    cases b <;> cases b2 <;> cases a <;> cases c <;> cases y <;> decide
  rcases hcase with hbad | ⟨rfl, rfl, rfl, rfl, rfl⟩
  · rw [show (b && (b2 && (a && (c && y)))) = false by rcases hbad with rfl | ⟨rfl, rfl⟩ | ⟨rfl, rfl, rfl⟩ | ⟨rfl, rfl, rfl, rfl⟩ | ⟨rfl, rfl, rfl, rfl, rfl⟩ <;> simp, if_neg (by decide)]
    rcases hbad with rfl | ⟨rfl, rfl⟩ | ⟨rfl, rfl, rfl⟩ | ⟨rfl, rfl, rfl, rfl⟩ | ⟨rfl, rfl, rfl, rfl, rfl⟩
    all_goals go_enter Try.func18, Try.ntmps18
    all_goals go_wp2_with (first
      | (go_at_call 36; with_reducible refine (HC1.out _).mono ?_; rintro e w1 ⟨rfl, hb1⟩; have HK1 := Lib.hid ((Blk.new w [strV [], strV [], strV [], strV [], strV [], strV []] 33).below hb1 (by simp)); have HB1 := Lib.hid (((Below.refl w.heap.size w).alloc (Nat.le_refl _) _).trans (hb1.mono (by simp))); clear hb1)
      | (go_at_call 36; with_reducible refine (HC2.out _).mono ?_; rintro e w2 ⟨rfl, hb2⟩; have HK2 := Lib.hid (HK1.out.below hb2 HK1.out.lt); have HB2 := Lib.hid (HB1.out.trans (hb2.mono (Nat.le_of_lt HK1.out.lt))); clear hb2)
      | (go_at_call 14; refine (HO.out _).mono ?_; rintro e w3 ⟨rfl, hb3⟩; have HK3 := Lib.hid (HK2.out.below hb3 HK2.out.lt); have HB3 := Lib.hid (HB2.out.trans (hb3.mono (Nat.le_of_lt HK2.out.lt))); clear hb3)
      | (go_at_call 16; refine (HS.out _).mono ?_; rintro e w4 ⟨rfl, hb4⟩; have hko := (Blk.new w3 [strV o1, strV o2] 25).below hb4 (by simp); have lt3 := HK3.out.lt; have hkr := (HK3.out.alloc (.cells #[strV o1, strV o2] 25)).below hb4 (by simp; omega); have r0 := hko.cell (i := 0) (by simp); have r1 := hko.cell (i := 1) (by simp); have z0 := hkr.cell (i := 0) (by simp); have f0 := hkr.free 0; have z1 := hkr.cell (i := 1) (by simp); have f1 := hkr.free 1; have z2 := hkr.cell (i := 2) (by simp); have f2 := hkr.free 2; have z3 := hkr.cell (i := 3) (by simp); have f3 := hkr.free 3; have z4 := hkr.cell (i := 4) (by simp); have f4 := hkr.free 4; have z5 := hkr.cell (i := 5) (by simp); have f5 := hkr.free 5; have lto := hko.lt; have ltr := hkr.lt; have ne3 : w.heap.size ≠ w3.heap.size := Nat.ne_of_lt lt3; have HB4 := Lib.hid ((HB3.out.alloc (Nat.le_of_lt lt3) _).trans (hb4.mono (by simp; omega))); clear hb4 hko hkr HK3 HB3)
      | (go_at_call 10; refine (HN.out _).mono ?_; rintro e w5 ⟨rfl, rfl⟩))
    all_goals refine bodyPost_ret (v := .tuple #[.agg #[strV [], strV [], strV [], strV [], strV [], strV []], .bool false]) (by simp [results, Try.results18, go_sem, z0, z1, z2, z3, z4, z5, ltr]) rfl ?_
    all_goals exact ⟨rfl, below_box6 HB4.out ltr _ _ _ _ _ _ _⟩
  · rw [show (true && (true && (true && (true && true)))) = true from rfl, if_pos rfl]
    go_enter Try.func18, Try.ntmps18
    go_wp2_with (first
      | (go_at_call 36; with_reducible refine (HC1.out _).mono ?_; rintro e w1 ⟨rfl, hb1⟩; have HK1 := Lib.hid ((Blk.new w [strV [], strV [], strV [], strV [], strV [], strV []] 33).below hb1 (by simp)); have HB1 := Lib.hid (((Below.refl w.heap.size w).alloc (Nat.le_refl _) _).trans (hb1.mono (by simp))); clear hb1)
      | (go_at_call 36; with_reducible refine (HC2.out _).mono ?_; rintro e w2 ⟨rfl, hb2⟩; have HK2 := Lib.hid (HK1.out.below hb2 HK1.out.lt); have HB2 := Lib.hid (HB1.out.trans (hb2.mono (Nat.le_of_lt HK1.out.lt))); clear hb2)
      | (go_at_call 14; refine (HO.out _).mono ?_; rintro e w3 ⟨rfl, hb3⟩; have HK3 := Lib.hid (HK2.out.below hb3 HK2.out.lt); have HB3 := Lib.hid (HB2.out.trans (hb3.mono (Nat.le_of_lt HK2.out.lt))); clear hb3)
      | (go_at_call 16; refine (HS.out _).mono ?_; rintro e w4 ⟨rfl, hb4⟩; have hko := (Blk.new w3 [strV o1, strV o2] 25).below hb4 (by simp); have lt3 := HK3.out.lt; have hkr := (HK3.out.alloc (.cells #[strV o1, strV o2] 25)).below hb4 (by simp; omega); have r0 := hko.cell (i := 0) (by simp); have r1 := hko.cell (i := 1) (by simp); have z0 := hkr.cell (i := 0) (by simp); have f0 := hkr.free 0; have z1 := hkr.cell (i := 1) (by simp); have f1 := hkr.free 1; have z2 := hkr.cell (i := 2) (by simp); have f2 := hkr.free 2; have z3 := hkr.cell (i := 3) (by simp); have f3 := hkr.free 3; have z4 := hkr.cell (i := 4) (by simp); have f4 := hkr.free 4; have z5 := hkr.cell (i := 5) (by simp); have f5 := hkr.free 5; have lto := hko.lt; have ltr := hkr.lt; have ne3 : w.heap.size ≠ w3.heap.size := Nat.ne_of_lt lt3; have HB4 := Lib.hid ((HB3.out.alloc (Nat.le_of_lt lt3) _).trans (hb4.mono (by simp; omega))); clear hb4 hko hkr HK3 HB3)
      | (go_at_call 10; refine (HN.out _).mono ?_; rintro e w5 ⟨rfl, rfl⟩))
    refine bodyPost_ret (v := .tuple #[.agg #[strV o1, strV o2, strV q2, strV s1, strV s2, strV s3], .bool true]) (by simp [results, Try.results18, go_sem, z0, z1, z2, z3, z4, z5, ltr]) rfl ?_
    exact ⟨rfl, below_box6 HB4.out ltr _ _ _ _ _ _ _⟩
end Go.Proofs.Ytnbghhdbpjgcjaa
