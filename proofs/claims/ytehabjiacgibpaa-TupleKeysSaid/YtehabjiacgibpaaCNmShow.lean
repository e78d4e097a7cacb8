/-
  What the document's Subject and Tuple come to. Condition: a string's length fits an int.
  What the document's Tuple comes to. Condition: a string's length fits an int.
  What the document's ShowObject, ShowSubject and ShowTuple come to. Condition: a string's length fits an int.
-/
import Derived.Test.YtehabjiacgibpaaCNmObj
namespace Go.Proofs.Ytehabjiacgibpaa
open Go.RowKit
def subL (l : Txt) : Option (Txt × Txt × Txt) := match objL (cutL l 35).1 with
  | none => none
  | some o => if !(cutL l 35).2.2 || nameL (cutL l 35).2.1 then some (o.1, o.2, (cutL l 35).2.1) else none
def subV : Option (Txt × Txt × Txt) → Value
  | none => .agg #[strV [], strV [], strV []]
  | some o => .agg #[strV o.1, strV o.2.1, strV o.2.2]
theorem below_box3 {w w2 : World} (h : Below w.heap.size w w2) (lt : w.heap.size < w2.heap.size) (a b c : Value) (o : Obj) :
    Below w.heap.size w ((((w2.setCell ⟨w.heap.size, 0, none⟩ a).setCell ⟨w.heap.size, 1, none⟩ b).setCell ⟨w.heap.size, 2, none⟩ c).alloc o) :=
  (((h.setCell (Nat.le_refl _) _).setCell (Nat.le_refl _) _).setCell (Nat.le_refl _) _).alloc (by simp; omega) _
set_option maxHeartbeats 800000 in
theorem refSubject_any (l : Txt) (w : World) (hm : l.length ≤ 9223372036854775807) :
    Calls Try.prog 67 #[strV l] w fun e w' =>
      e = .returned (.tuple #[subV (subL l), .bool (subL l).isSome]) ∧ Below w.heap.size w w' := by
  obtain ⟨p, hp⟩ : ∃ p, p = (cutL l 35).1 := ⟨_, rfl⟩
  obtain ⟨q, hq⟩ : ∃ q, q = (cutL l 35).2.1 := ⟨_, rfl⟩
  obtain ⟨b, hb⟩ : ∃ b, b = (cutL l 35).2.2 := ⟨_, rfl⟩
  have hL := cutL_len l 35
  have hCUT := fun W => refCut_txt l 35 W hm
  simp only [show ((35 : UInt8).toNat : Int) = 35 from rfl] at hCUT
  unfold subL
  rw [← hp, ← hq] at hL
  simp only [← hp, ← hq, ← hb] at hCUT
  rw [← hp, ← hq, ← hb]
  have HC := Lib.hid hCUT
  have hO := fun W => refObject_any p W (by omega)
  have hN := fun W => refName_txt q W (by omega)
  clear hp hq hb hL hCUT
  generalize objL p = O at *
  generalize nameL q = y at *
  have HN := Lib.hid hN
  have HO := Lib.hid hO
  clear hN hO
  rcases O with _ | ⟨o1, o2⟩
  · have HO2 : Hid (∀ W, Calls Try.prog 66 #[strV p] W fun e w' => e = .returned (.tuple #[.agg #[strV [], strV []], .bool false]) ∧ Below W.heap.size W w') := HO
    clear HO
    go_enter Try.func67, Try.ntmps67
    go_wp2_with (first
      | (go_at_call 65; refine (HC.out _).mono ?_; rintro e w1 ⟨rfl, hb1⟩; have HK1 := Lib.hid ((Blk.new w [strV [], strV [], strV []] 28).below hb1 (by simp)); have HB1 := Lib.hid (((Below.refl w.heap.size w).alloc (Nat.le_refl _) _).trans (hb1.mono (by simp))); clear hb1)
      | (go_at_call 66; refine (HO2.out _).mono ?_; rintro e w2 ⟨rfl, hb2⟩; have hbk2 := HK1.out.below hb2 HK1.out.lt; have y0 := hbk2.cell (i := 0) (by simp); have y1 := hbk2.cell (i := 1) (by simp); have y2 := hbk2.cell (i := 2) (by simp); have f0 := hbk2.free 0; have f1 := hbk2.free 1; have f2 := hbk2.free 2; have lt2 := hbk2.lt; have HB2 := Lib.hid (HB1.out.trans (hb2.mono (Nat.le_of_lt HK1.out.lt))); clear hb2 hbk2 HK1 HB1)
      | (go_at_call 40; refine (HN.out _).mono ?_; rintro e w3 ⟨rfl, rfl⟩))
    refine bodyPost_ret (v := .tuple #[.agg #[strV [], strV [], strV []], .bool false]) (by simp [results, Try.results67, go_sem, y0, y1, y2, lt2]) rfl ?_
    exact ⟨rfl, below_box3 HB2.out lt2 _ _ _ _⟩
  · have HO2 : Hid (∀ W, Calls Try.prog 66 #[strV p] W fun e w' => e = .returned (.tuple #[.agg #[strV o1, strV o2], .bool true]) ∧ Below W.heap.size W w') := HO
    clear HO
    have hcase : (b = true ∧ y = false) ∨ (b = false ∨ (b = true ∧ y = true)) := by cases b <;> cases y <;> decide
    rcases hcase with ⟨rfl, rfl⟩ | hcase
    · go_enter Try.func67, Try.ntmps67
      go_wp2_with (first
        | (go_at_call 65; refine (HC.out _).mono ?_; rintro e w1 ⟨rfl, hb1⟩; have HK1 := Lib.hid ((Blk.new w [strV [], strV [], strV []] 28).below hb1 (by simp)); have HB1 := Lib.hid (((Below.refl w.heap.size w).alloc (Nat.le_refl _) _).trans (hb1.mono (by simp))); clear hb1)
        | (go_at_call 66; refine (HO2.out _).mono ?_; rintro e w2 ⟨rfl, hb2⟩; have hbk2 := HK1.out.below hb2 HK1.out.lt; have y0 := hbk2.cell (i := 0) (by simp); have y1 := hbk2.cell (i := 1) (by simp); have y2 := hbk2.cell (i := 2) (by simp); have f0 := hbk2.free 0; have f1 := hbk2.free 1; have f2 := hbk2.free 2; have lt2 := hbk2.lt; have HB2 := Lib.hid (HB1.out.trans (hb2.mono (Nat.le_of_lt HK1.out.lt))); clear hb2 hbk2 HK1 HB1)
        | (go_at_call 40; refine (HN.out _).mono ?_; rintro e w3 ⟨rfl, rfl⟩))
      refine bodyPost_ret (v := .tuple #[.agg #[strV [], strV [], strV []], .bool false]) (by simp [results, Try.results67, go_sem, y0, y1, y2, lt2]) rfl ?_
      exact ⟨rfl, below_box3 HB2.out lt2 _ _ _ _⟩
    · show Calls _ _ _ _ fun e w' => e = .returned (.tuple #[subV (if !b || y then some (o1, o2, q) else none), .bool (if !b || y then some (o1, o2, q) else none).isSome]) ∧ _
      rw [show (if !b || y then some (o1, o2, q) else none) = some (o1, o2, q) by rcases hcase with rfl | ⟨rfl, rfl⟩ <;> simp]
      rcases hcase with rfl | ⟨rfl, rfl⟩
      all_goals go_enter Try.func67, Try.ntmps67
      all_goals go_wp2_with (first
        | (go_at_call 65; refine (HC.out _).mono ?_; rintro e w1 ⟨rfl, hb1⟩; have HK1 := Lib.hid ((Blk.new w [strV [], strV [], strV []] 28).below hb1 (by simp)); have HB1 := Lib.hid (((Below.refl w.heap.size w).alloc (Nat.le_refl _) _).trans (hb1.mono (by simp))); clear hb1)
        | (go_at_call 66; refine (HO2.out _).mono ?_; rintro e w2 ⟨rfl, hb2⟩; have hbk2 := HK1.out.below hb2 HK1.out.lt; have y0 := hbk2.cell (i := 0) (by simp); have y1 := hbk2.cell (i := 1) (by simp); have y2 := hbk2.cell (i := 2) (by simp); have f0 := hbk2.free 0; have f1 := hbk2.free 1; have f2 := hbk2.free 2; have lt2 := hbk2.lt; have HB2 := Lib.hid (HB1.out.trans (hb2.mono (Nat.le_of_lt HK1.out.lt))); clear hb2 hbk2 HK1 HB1)
        | (go_at_call 40; refine (HN.out _).mono ?_; rintro e w3 ⟨rfl, rfl⟩))
      all_goals refine bodyPost_ret (v := .tuple #[.agg #[strV o1, strV o2, strV q], .bool true]) (by simp [results, Try.results67, go_sem, y0, y1, y2, lt2]) rfl ?_
      all_goals exact ⟨rfl, below_box3 HB2.out lt2 _ _ _ _⟩
end Go.Proofs.Ytehabjiacgibpaa
namespace Go.Proofs.Ytehabjiacgibpaa
open Go.RowKit
abbrev Tup := Txt × Txt × Txt × Txt × Txt × Txt
def tupL (l : Txt) : Option Tup :=
  if (cutL l 64).2.2 && ((cutL (cutL l 64).1 35).2.2 && ((objL (cutL (cutL l 64).1 35).1).isSome && ((subL (cutL l 64).2.1).isSome && nameL (cutL (cutL l 64).1 35).2.1))) then
    some (((objL (cutL (cutL l 64).1 35).1).getD ([], [])).1, ((objL (cutL (cutL l 64).1 35).1).getD ([], [])).2, (cutL (cutL l 64).1 35).2.1, (subL (cutL l 64).2.1).getD ([], [], []))
  else none
def tupV : Option Tup → Value
  | none => .agg #[strV [], strV [], strV [], strV [], strV [], strV []]
  | some (a, b, c, d, e, f) => .agg #[strV a, strV b, strV c, strV d, strV e, strV f]
theorem objV_eq (o : Option (Txt × Txt)) : objV o = .agg #[strV (o.getD ([], [])).1, strV (o.getD ([], [])).2] := by cases o <;> rfl
theorem subV_eq (o : Option (Txt × Txt × Txt)) : subV o = .agg #[strV (o.getD ([], [], [])).1, strV (o.getD ([], [], [])).2.1, strV (o.getD ([], [], [])).2.2] := by cases o <;> rfl
theorem below_box6 {w w2 : World} (h : Below w.heap.size w w2) (lt : w.heap.size < w2.heap.size) (a b c d e f : Value) (o : Obj) :
    Below w.heap.size w (((((((w2.setCell ⟨w.heap.size, 0, none⟩ a).setCell ⟨w.heap.size, 1, none⟩ b).setCell ⟨w.heap.size, 2, none⟩ c).setCell ⟨w.heap.size, 3, none⟩ d).setCell ⟨w.heap.size, 4, none⟩ e).setCell ⟨w.heap.size, 5, none⟩ f).alloc o) :=
  ((((((h.setCell (Nat.le_refl _) _).setCell (Nat.le_refl _) _).setCell (Nat.le_refl _) _).setCell (Nat.le_refl _) _).setCell (Nat.le_refl _) _).setCell (Nat.le_refl _) _).alloc (by simp; omega) _
set_option maxHeartbeats 800000 in
theorem refTuple_any (l : Txt) (w : World) (hm : l.length ≤ 9223372036854775807) :
    Calls Try.prog 47 #[strV l] w fun e w' =>
      e = .returned (.tuple #[tupV (tupL l), .bool (tupL l).isSome]) ∧ Below w.heap.size w w' := by
  obtain ⟨p, hp⟩ : ∃ p, p = (cutL l 64).1 := ⟨_, rfl⟩
  obtain ⟨q, hq⟩ : ∃ q, q = (cutL l 64).2.1 := ⟨_, rfl⟩
  obtain ⟨b, hb⟩ : ∃ b, b = (cutL l 64).2.2 := ⟨_, rfl⟩
  obtain ⟨p2, hp2⟩ : ∃ p2, p2 = (cutL p 35).1 := ⟨_, rfl⟩
  obtain ⟨q2, hq2⟩ : ∃ q2, q2 = (cutL p 35).2.1 := ⟨_, rfl⟩
  obtain ⟨b2, hb2⟩ : ∃ b2, b2 = (cutL p 35).2.2 := ⟨_, rfl⟩
  have hL := cutL_len l 64
  have hL2 := cutL_len p 35
  rw [← hp, ← hq] at hL
  rw [← hp2, ← hq2] at hL2
  have hC1 := fun W => refCut_txt l 64 W hm
  have hC2 := fun W => refCut_txt p 35 W (by omega)
  simp only [show ((64 : UInt8).toNat : Int) = 64 from rfl, ← hp, ← hq, ← hb] at hC1
  simp only [show ((35 : UInt8).toNat : Int) = 35 from rfl, ← hp2, ← hq2, ← hb2] at hC2
  have HC1 := Lib.hid hC1
  have HC2 := Lib.hid hC2
  have hO := fun W => refObject_any p2 W (by omega)
  have hS := fun W => refSubject_any q W (by omega)
  have hN := fun W => refName_txt q2 W (by omega)
  have ht : tupL l = if b && (b2 && ((objL p2).isSome && ((subL q).isSome && nameL q2))) then
    some (((objL p2).getD ([], [])).1, ((objL p2).getD ([], [])).2, q2, (subL q).getD ([], [], [])) else none := by unfold tupL; rw [← hp, ← hq, ← hb, ← hp2, ← hq2, ← hb2]
  rw [ht]
  clear hp hq hb hp2 hq2 hb2 hL hL2 hC1 hC2 ht
  simp only [objV_eq] at hO
  simp only [subV_eq] at hS
  generalize (objL p2).isSome = a at *
  generalize (subL q).isSome = c at *
  generalize nameL q2 = y at *
  generalize (objL p2).getD ([], []) = o at *
  generalize (subL q).getD ([], [], []) = s at *
  obtain ⟨o1, o2⟩ := o
  obtain ⟨s1, s2, s3⟩ := s
  have HO := Lib.hid hO
  have HS := Lib.hid hS
  have HN := Lib.hid hN
  clear hO hS hN
  have hcase : (b = false ∨ (b = true ∧ b2 = false) ∨ (b = true ∧ b2 = true ∧ a = false) ∨ (b = true ∧ b2 = true ∧ a = true ∧ c = false) ∨ (b = true ∧ b2 = true ∧ a = true ∧ c = true ∧ y = false)) ∨ (b = true ∧ b2 = true ∧ a = true ∧ c = true ∧ y = true) := by
    cases b <;> cases b2 <;> cases a <;> cases c <;> cases y <;> decide
  rcases hcase with hbad | ⟨rfl, rfl, rfl, rfl, rfl⟩
  · rw [show (b && (b2 && (a && (c && y)))) = false by rcases hbad with rfl | ⟨rfl, rfl⟩ | ⟨rfl, rfl, rfl⟩ | ⟨rfl, rfl, rfl, rfl⟩ | ⟨rfl, rfl, rfl, rfl, rfl⟩ <;> simp, if_neg (by decide)]
    rcases hbad with rfl | ⟨rfl, rfl⟩ | ⟨rfl, rfl, rfl⟩ | ⟨rfl, rfl, rfl, rfl⟩ | ⟨rfl, rfl, rfl, rfl, rfl⟩
    all_goals go_enter Try.func47, Try.ntmps47
    all_goals go_wp2_with (first
      | (go_at_call 65; with_reducible refine (HC1.out _).mono ?_; rintro e w1 ⟨rfl, hb1⟩; have HK1 := Lib.hid ((Blk.new w [strV [], strV [], strV [], strV [], strV [], strV []] 30).below hb1 (by simp)); have HB1 := Lib.hid (((Below.refl w.heap.size w).alloc (Nat.le_refl _) _).trans (hb1.mono (by simp))); clear hb1)
      | (go_at_call 65; with_reducible refine (HC2.out _).mono ?_; rintro e w2 ⟨rfl, hb2⟩; have HK2 := Lib.hid (HK1.out.below hb2 HK1.out.lt); have HB2 := Lib.hid (HB1.out.trans (hb2.mono (Nat.le_of_lt HK1.out.lt))); clear hb2)
      | (go_at_call 66; refine (HO.out _).mono ?_; rintro e w3 ⟨rfl, hb3⟩; have HK3 := Lib.hid (HK2.out.below hb3 HK2.out.lt); have HB3 := Lib.hid (HB2.out.trans (hb3.mono (Nat.le_of_lt HK2.out.lt))); clear hb3)
      | (go_at_call 67; refine (HS.out _).mono ?_; rintro e w4 ⟨rfl, hb4⟩; have hko := (Blk.new w3 [strV o1, strV o2] 26).below hb4 (by simp); have lt3 := HK3.out.lt; have hkr := (HK3.out.alloc (.cells #[strV o1, strV o2] 26)).below hb4 (by simp; omega); have r0 := hko.cell (i := 0) (by simp); have r1 := hko.cell (i := 1) (by simp); have z0 := hkr.cell (i := 0) (by simp); have f0 := hkr.free 0; have z1 := hkr.cell (i := 1) (by simp); have f1 := hkr.free 1; have z2 := hkr.cell (i := 2) (by simp); have f2 := hkr.free 2; have z3 := hkr.cell (i := 3) (by simp); have f3 := hkr.free 3; have z4 := hkr.cell (i := 4) (by simp); have f4 := hkr.free 4; have z5 := hkr.cell (i := 5) (by simp); have f5 := hkr.free 5; have lto := hko.lt; have ltr := hkr.lt; have ne3 : w.heap.size ≠ w3.heap.size := Nat.ne_of_lt lt3; have HB4 := Lib.hid ((HB3.out.alloc (Nat.le_of_lt lt3) _).trans (hb4.mono (by simp; omega))); clear hb4 hko hkr HK3 HB3)
      | (go_at_call 40; refine (HN.out _).mono ?_; rintro e w5 ⟨rfl, rfl⟩))
    all_goals refine bodyPost_ret (v := .tuple #[.agg #[strV [], strV [], strV [], strV [], strV [], strV []], .bool false]) (by simp [results, Try.results47, go_sem, z0, z1, z2, z3, z4, z5, ltr]) rfl ?_
    all_goals exact ⟨rfl, below_box6 HB4.out ltr _ _ _ _ _ _ _⟩
  · rw [show (true && (true && (true && (true && true)))) = true from rfl, if_pos rfl]
    go_enter Try.func47, Try.ntmps47
    go_wp2_with (first
      | (go_at_call 65; with_reducible refine (HC1.out _).mono ?_; rintro e w1 ⟨rfl, hb1⟩; have HK1 := Lib.hid ((Blk.new w [strV [], strV [], strV [], strV [], strV [], strV []] 30).below hb1 (by simp)); have HB1 := Lib.hid (((Below.refl w.heap.size w).alloc (Nat.le_refl _) _).trans (hb1.mono (by simp))); clear hb1)
      | (go_at_call 65; with_reducible refine (HC2.out _).mono ?_; rintro e w2 ⟨rfl, hb2⟩; have HK2 := Lib.hid (HK1.out.below hb2 HK1.out.lt); have HB2 := Lib.hid (HB1.out.trans (hb2.mono (Nat.le_of_lt HK1.out.lt))); clear hb2)
      | (go_at_call 66; refine (HO.out _).mono ?_; rintro e w3 ⟨rfl, hb3⟩; have HK3 := Lib.hid (HK2.out.below hb3 HK2.out.lt); have HB3 := Lib.hid (HB2.out.trans (hb3.mono (Nat.le_of_lt HK2.out.lt))); clear hb3)
      | (go_at_call 67; refine (HS.out _).mono ?_; rintro e w4 ⟨rfl, hb4⟩; have hko := (Blk.new w3 [strV o1, strV o2] 26).below hb4 (by simp); have lt3 := HK3.out.lt; have hkr := (HK3.out.alloc (.cells #[strV o1, strV o2] 26)).below hb4 (by simp; omega); have r0 := hko.cell (i := 0) (by simp); have r1 := hko.cell (i := 1) (by simp); have z0 := hkr.cell (i := 0) (by simp); have f0 := hkr.free 0; have z1 := hkr.cell (i := 1) (by simp); have f1 := hkr.free 1; have z2 := hkr.cell (i := 2) (by simp); have f2 := hkr.free 2; have z3 := hkr.cell (i := 3) (by simp); have f3 := hkr.free 3; have z4 := hkr.cell (i := 4) (by simp); have f4 := hkr.free 4; have z5 := hkr.cell (i := 5) (by simp); have f5 := hkr.free 5; have lto := hko.lt; have ltr := hkr.lt; have ne3 : w.heap.size ≠ w3.heap.size := Nat.ne_of_lt lt3; have HB4 := Lib.hid ((HB3.out.alloc (Nat.le_of_lt lt3) _).trans (hb4.mono (by simp; omega))); clear hb4 hko hkr HK3 HB3)
      | (go_at_call 40; refine (HN.out _).mono ?_; rintro e w5 ⟨rfl, rfl⟩))
    refine bodyPost_ret (v := .tuple #[.agg #[strV o1, strV o2, strV q2, strV s1, strV s2, strV s3], .bool true]) (by simp [results, Try.results47, go_sem, z0, z1, z2, z3, z4, z5, ltr]) rfl ?_
    exact ⟨rfl, below_box6 HB4.out ltr _ _ _ _ _ _ _⟩
end Go.Proofs.Ytehabjiacgibpaa
namespace Go.Proofs.Ytehabjiacgibpaa
open Go.RowKit
def showO (a b : Txt) : Txt := if nameL a && idL b then a ++ ([58] ++ b) else []
set_option maxHeartbeats 800000 in
theorem refShowObject_any (a b : Txt) (w : World) (ha : a.length ≤ 9223372036854775807) (hb : b.length ≤ 9223372036854775807) :
    Calls Try.prog 38 #[.agg #[strV a, strV b]] w fun e w' =>
      e = .returned (strV (showO a b)) ∧ Below w.heap.size w w' := by
  have hN := fun W => refName_txt a W ha
  have hI := fun W => refID_txt b W hb
  by_cases hg : nameL a = true ∧ idL b = true
  · obtain ⟨g1, g2⟩ := hg
    have hA := (nameL_len g1).2
    have hB := (idL_len g2).2
    have e1 : showO a b = a ++ [58] ++ b := by unfold showO; rw [g1, g2]; simp
    obtain ⟨c, hc⟩ : ∃ c, c = a ++ [58] := ⟨_, rfl⟩
    obtain ⟨d, hd⟩ : ∃ d, d = c ++ b := ⟨_, rfl⟩
    have hJ1 := fun W => plus a [58] (by omega) (by simp) W
    have hJ2 := fun W => plus c b (by rw [hc]; simp; omega) (by omega) W
    rw [← hc] at e1
    simp only [← hc] at hJ1
    have J1 : ∀ W, (Op.stringOp .add ⟨a.toArray⟩ ⟨#[58]⟩).run Try.prog W = .ok (strV c) W := hJ1
    rw [← hd] at e1
    simp only [← hd] at hJ2
    rw [e1]
    rw [g1] at hN
    rw [g2] at hI
    have HN := Lib.hid hN
    have HI := Lib.hid hI
    clear hN hI g1 g2 e1 hc hd hA hB hJ1
    go_enter Try.func38, Try.ntmps38
    go_wp2_with (first
      | (go_at_call 40; with_reducible refine (HN.out _).mono ?_; rintro e w2 ⟨rfl, rfl⟩)
      | (go_at_call 59; with_reducible refine (HI.out _).mono ?_; rintro e w3 ⟨rfl, rfl⟩))
    go_ret
    exact ⟨rfl, (Below.refl w.heap.size w).alloc (Nat.le_refl _) _⟩
  · have e1 : showO a b = [] := by
      unfold showO; rw [if_neg (by simpa using hg)]
    rw [e1]
    have hcase : nameL a = false ∨ (nameL a = true ∧ idL b = false) := by
      cases h1 : nameL a
      · exact .inl rfl
      · refine .inr ⟨rfl, ?_⟩
        cases h2 : idL b
        · rfl
        · exact absurd ⟨h1, h2⟩ hg
    clear hg e1
    generalize nameL a = x at *
    generalize idL b = y at *
    have HN := Lib.hid hN
    have HI := Lib.hid hI
    clear hN hI
    rcases hcase with rfl | ⟨rfl, rfl⟩
    all_goals go_enter Try.func38, Try.ntmps38
    all_goals go_wp2_with (first
      | (go_at_call 40; with_reducible refine (HN.out _).mono ?_; rintro e w2 ⟨rfl, rfl⟩)
      | (go_at_call 59; with_reducible refine (HI.out _).mono ?_; rintro e w3 ⟨rfl, rfl⟩))
    all_goals go_ret
    all_goals exact ⟨rfl, (Below.refl w.heap.size w).alloc (Nat.le_refl _) _⟩
theorem showO_len (a b : Txt) : (showO a b).length ≤ 41 := by
  unfold showO
  by_cases h : (nameL a && idL b) = true
  · rw [if_pos h]
    rw [Bool.and_eq_true] at h
    have h1 := (nameL_len h.1).2
    have h2 := (idL_len h.2).2
    simp; omega
  · rw [if_neg h]; simp
def showS (a b r : Txt) : Txt := if showO a b = [] ∨ r = [] then showO a b else if nameL r then showO a b ++ ([35] ++ r) else []
set_option maxHeartbeats 800000 in
theorem refShowSubject_any (a b r : Txt) (w : World) (ha : a.length ≤ 9223372036854775807) (hb : b.length ≤ 9223372036854775807) (hr : r.length ≤ 9223372036854775807) :
    Calls Try.prog 39 #[.agg #[strV a, strV b, strV r]] w fun e w' =>
      e = .returned (strV (showS a b r)) ∧ Below w.heap.size w w' := by
  have hO := fun W => refShowObject_any a b W ha hb
  have hN := fun W => refName_txt r W hr
  have hT := showO_len a b
  unfold showS
  generalize showO a b = T at *
  obtain ⟨y, hyy⟩ : ∃ y, y = nameL r := ⟨_, rfl⟩
  have hy : y = true → nameL r = true := fun h => by rw [← hyy]; exact h
  rw [← hyy] at hN ⊢
  clear hyy
  by_cases h1 : T = []
  · subst h1
    rw [if_pos (.inl rfl)]
    have HO := Lib.hid hO
    have HN := Lib.hid hN
    clear hO hN
    go_enter Try.func39, Try.ntmps39
    go_wp2_with (first
      | (go_at_call 38; with_reducible refine (HO.out _).mono ?_; rintro e w1 ⟨rfl, hb1⟩; have hbk := (Blk.new w [strV a, strV b, strV r] 28).below hb1 (by simp); have y2 := hbk.cell (i := 2) (by simp); have HB1 := Lib.hid (((Below.refl w.heap.size w).alloc (Nat.le_refl _) _).trans (hb1.mono (by simp))); clear hb1 hbk)
      | (go_at_call 40; with_reducible refine (HN.out _).mono ?_; rintro e w2 ⟨rfl, rfl⟩))
    go_ret
    exact ⟨rfl, HB1.out⟩
  have e1 := nonempty h1
  by_cases h2 : r = []
  · have e2 : List.isEmpty r = true := by rw [h2]; rfl
    rw [if_pos (.inr h2)]
    have HO := Lib.hid hO
    have HN := Lib.hid hN
    clear hO hN hy h2
    go_enter Try.func39, Try.ntmps39
    go_wp2_with (first
      | (go_at_call 38; with_reducible refine (HO.out _).mono ?_; rintro e w1 ⟨rfl, hb1⟩; have hbk := (Blk.new w [strV a, strV b, strV r] 28).below hb1 (by simp); have y2 := hbk.cell (i := 2) (by simp); have HB1 := Lib.hid (((Below.refl w.heap.size w).alloc (Nat.le_refl _) _).trans (hb1.mono (by simp))); clear hb1 hbk)
      | (go_at_call 40; with_reducible refine (HN.out _).mono ?_; rintro e w2 ⟨rfl, rfl⟩))
    go_ret
    exact ⟨rfl, HB1.out⟩
  have e2 := nonempty h2
  rw [if_neg (fun h => h.elim h1 h2)]
  cases y
  · rw [if_neg (by decide)]
    have HO := Lib.hid hO
    have HN := Lib.hid hN
    clear hO hN hy
    go_enter Try.func39, Try.ntmps39
    go_wp2_with (first
      | (go_at_call 38; with_reducible refine (HO.out _).mono ?_; rintro e w1 ⟨rfl, hb1⟩; have hbk := (Blk.new w [strV a, strV b, strV r] 28).below hb1 (by simp); have y2 := hbk.cell (i := 2) (by simp); have HB1 := Lib.hid (((Below.refl w.heap.size w).alloc (Nat.le_refl _) _).trans (hb1.mono (by simp))); clear hb1 hbk)
      | (go_at_call 40; with_reducible refine (HN.out _).mono ?_; rintro e w2 ⟨rfl, rfl⟩))
    go_ret
    exact ⟨rfl, HB1.out⟩
  · rw [if_pos rfl]
    have hR := (nameL_len (hy rfl)).2
    obtain ⟨c, hc⟩ : ∃ c, c = T ++ [35] := ⟨_, rfl⟩
    obtain ⟨d, hd⟩ : ∃ d, d = c ++ r := ⟨_, rfl⟩
    have J1 : ∀ W, (Op.stringOp .add ⟨T.toArray⟩ ⟨#[35]⟩).run Try.prog W = .ok (strV c) W := fun W => by rw [hc]; exact plus T [35] (by omega) (by simp) W
    have J2 : ∀ W, (Op.stringOp .add ⟨c.toArray⟩ ⟨r.toArray⟩).run Try.prog W = .ok (strV d) W := fun W => by rw [hd]; exact plus c r (by rw [hc]; simp; omega) (by omega) W
    have e3 : T ++ ([35] ++ r) = d := by rw [hd, hc, List.append_assoc]
    rw [e3]
    have HO := Lib.hid hO
    have HN := Lib.hid hN
    clear hO hN hy hc hd e3 hR
    go_enter Try.func39, Try.ntmps39
    go_wp2_with (first
      | (go_at_call 38; with_reducible refine (HO.out _).mono ?_; rintro e w1 ⟨rfl, hb1⟩; have hbk := (Blk.new w [strV a, strV b, strV r] 28).below hb1 (by simp); have y2 := hbk.cell (i := 2) (by simp); have HB1 := Lib.hid (((Below.refl w.heap.size w).alloc (Nat.le_refl _) _).trans (hb1.mono (by simp))); clear hb1 hbk)
      | (go_at_call 40; with_reducible refine (HN.out _).mono ?_; rintro e w2 ⟨rfl, rfl⟩))
    go_ret
    exact ⟨rfl, HB1.out⟩
theorem showS_len (a b r : Txt) : (showS a b r).length ≤ 58 := by
  unfold showS
  have h1 := showO_len a b
  by_cases h : showO a b = [] ∨ r = []
  · rw [if_pos h]; omega
  · rw [if_neg h]
    by_cases h2 : nameL r = true
    · rw [if_pos h2]
      have h3 := (nameL_len h2).2
      simp; omega
    · rw [if_neg h2]; simp
def showT (t : Tup) : Txt := if showO t.1 t.2.1 = [] ∨ showS t.2.2.2.1 t.2.2.2.2.1 t.2.2.2.2.2 = [] ∨ nameL t.2.2.1 = false then [] else
  (showO t.1 t.2.1 ++ [35]) ++ t.2.2.1 ++ [64] ++ showS t.2.2.2.1 t.2.2.2.2.1 t.2.2.2.2.2
set_option maxHeartbeats 800000 in
theorem refShowTuple_any (a b c d f g : Txt) (w : World) (ha : a.length ≤ 9223372036854775807) (hb : b.length ≤ 9223372036854775807) (hc : c.length ≤ 9223372036854775807)
    (hd : d.length ≤ 9223372036854775807) (hf : f.length ≤ 9223372036854775807) (hg : g.length ≤ 9223372036854775807) :
    Calls Try.prog 20 #[.agg #[strV a, strV b, strV c, strV d, strV f, strV g]] w fun e w' =>
      e = .returned (strV (showT (a, b, c, d, f, g))) ∧ Below w.heap.size w w' := by
  have hO := fun W => refShowObject_any a b W ha hb
  have hS := fun W => refShowSubject_any d f g W hd hf hg
  have hN := fun W => refName_txt c W hc
  have hT := showO_len a b
  have hU := showS_len d f g
  unfold showT
  show Calls _ _ _ _ fun e w' => e = .returned (strV (if showO a b = [] ∨ showS d f g = [] ∨ nameL c = false then [] else (showO a b ++ [35]) ++ c ++ [64] ++ showS d f g)) ∧ _
  generalize showO a b = T at *
  generalize showS d f g = U at *
  obtain ⟨y, hyy⟩ : ∃ y, y = nameL c := ⟨_, rfl⟩
  have hy : y = true → nameL c = true := fun h => by rw [← hyy]; exact h
  rw [← hyy] at hN ⊢
  clear hyy
  have HO := Lib.hid hO
  have HN := Lib.hid hN
  have HS := Lib.hid hS
  clear hO hN hS
  by_cases h1 : T = []
  · subst h1
    rw [if_pos (.inl rfl)]
    clear hy
    go_enter Try.func20, Try.ntmps20
    go_wp2_with (first
      | (go_at_call 38; with_reducible refine (HO.out _).mono ?_; rintro e w1 ⟨rfl, hb1⟩; have HK1 := Lib.hid ((Blk.new w [strV a, strV b, strV c, strV d, strV f, strV g] 30).below hb1 (by simp)); have y3 := HK1.out.cell (i := 3) (by simp); have y4 := HK1.out.cell (i := 4) (by simp); have y5 := HK1.out.cell (i := 5) (by simp); have HB1 := Lib.hid (((Below.refl w.heap.size w).alloc (Nat.le_refl _) _).trans (hb1.mono (by simp))); clear hb1)
      | (go_at_call 39; with_reducible refine (HS.out _).mono ?_; rintro e w2 ⟨rfl, hb2⟩; clear y3 y4 y5; have HK2 := Lib.hid (HK1.out.below hb2 HK1.out.lt); have z2 := HK2.out.cell (i := 2) (by simp); have HB2 := Lib.hid (HB1.out.trans (hb2.mono (Nat.le_of_lt HK1.out.lt))); clear hb2 HB1 HK1)
      | (go_at_call 40; with_reducible refine (HN.out _).mono ?_; rintro e w3 ⟨rfl, rfl⟩))
    go_ret
    exact ⟨rfl, HB2.out⟩
  have e1 := nonempty h1
  by_cases h2 : U = []
  · rw [if_pos (.inr (.inl h2))]
    subst h2
    clear hy
    go_enter Try.func20, Try.ntmps20
    go_wp2_with (first
      | (go_at_call 38; with_reducible refine (HO.out _).mono ?_; rintro e w1 ⟨rfl, hb1⟩; have HK1 := Lib.hid ((Blk.new w [strV a, strV b, strV c, strV d, strV f, strV g] 30).below hb1 (by simp)); have y3 := HK1.out.cell (i := 3) (by simp); have y4 := HK1.out.cell (i := 4) (by simp); have y5 := HK1.out.cell (i := 5) (by simp); have HB1 := Lib.hid (((Below.refl w.heap.size w).alloc (Nat.le_refl _) _).trans (hb1.mono (by simp))); clear hb1)
      | (go_at_call 39; with_reducible refine (HS.out _).mono ?_; rintro e w2 ⟨rfl, hb2⟩; clear y3 y4 y5; have HK2 := Lib.hid (HK1.out.below hb2 HK1.out.lt); have z2 := HK2.out.cell (i := 2) (by simp); have HB2 := Lib.hid (HB1.out.trans (hb2.mono (Nat.le_of_lt HK1.out.lt))); clear hb2 HB1 HK1)
      | (go_at_call 40; with_reducible refine (HN.out _).mono ?_; rintro e w3 ⟨rfl, rfl⟩))
    go_ret
    exact ⟨rfl, HB2.out⟩
  have e2 := nonempty h2
  cases y
  · rw [if_pos (.inr (.inr rfl))]
    clear hy
    go_enter Try.func20, Try.ntmps20
    go_wp2_with (first
      | (go_at_call 38; with_reducible refine (HO.out _).mono ?_; rintro e w1 ⟨rfl, hb1⟩; have HK1 := Lib.hid ((Blk.new w [strV a, strV b, strV c, strV d, strV f, strV g] 30).below hb1 (by simp)); have y3 := HK1.out.cell (i := 3) (by simp); have y4 := HK1.out.cell (i := 4) (by simp); have y5 := HK1.out.cell (i := 5) (by simp); have HB1 := Lib.hid (((Below.refl w.heap.size w).alloc (Nat.le_refl _) _).trans (hb1.mono (by simp))); clear hb1)
      | (go_at_call 39; with_reducible refine (HS.out _).mono ?_; rintro e w2 ⟨rfl, hb2⟩; clear y3 y4 y5; have HK2 := Lib.hid (HK1.out.below hb2 HK1.out.lt); have z2 := HK2.out.cell (i := 2) (by simp); have HB2 := Lib.hid (HB1.out.trans (hb2.mono (Nat.le_of_lt HK1.out.lt))); clear hb2 HB1 HK1)
      | (go_at_call 40; with_reducible refine (HN.out _).mono ?_; rintro e w3 ⟨rfl, rfl⟩))
    go_ret
    exact ⟨rfl, HB2.out⟩
  · rw [if_neg (fun h => h.elim h1 (fun h => h.elim h2 (fun h => Bool.noConfusion h)))]
    have hC := (nameL_len (hy rfl)).2
    obtain ⟨X1, hX1⟩ : ∃ X1, X1 = T ++ [35] := ⟨_, rfl⟩
    obtain ⟨X2, hX2⟩ : ∃ X2, X2 = X1 ++ c := ⟨_, rfl⟩
    obtain ⟨X3, hX3⟩ : ∃ X3, X3 = X2 ++ [64] := ⟨_, rfl⟩
    obtain ⟨X4, hX4⟩ : ∃ X4, X4 = X3 ++ U := ⟨_, rfl⟩
    have l1 : X1.length ≤ 42 := by rw [hX1]; simp; omega
    have l2 : X2.length ≤ 58 := by rw [hX2]; simp; omega
    have l3 : X3.length ≤ 59 := by rw [hX3]; simp; omega
    have J1 : ∀ W, (Op.stringOp .add ⟨T.toArray⟩ ⟨#[35]⟩).run Try.prog W = .ok (strV X1) W := fun W => by rw [hX1]; exact plus T [35] (by omega) (by simp) W
    have J2 : ∀ W, (Op.stringOp .add ⟨X1.toArray⟩ ⟨c.toArray⟩).run Try.prog W = .ok (strV X2) W := fun W => by rw [hX2]; exact plus X1 c (by omega) (by omega) W
    have J3 : ∀ W, (Op.stringOp .add ⟨X2.toArray⟩ ⟨#[64]⟩).run Try.prog W = .ok (strV X3) W := fun W => by rw [hX3]; exact plus X2 [64] (by omega) (by simp) W
    have J4 : ∀ W, (Op.stringOp .add ⟨X3.toArray⟩ ⟨U.toArray⟩).run Try.prog W = .ok (strV X4) W := fun W => by rw [hX4]; exact plus X3 U (by omega) (by omega) W
    rw [← hX1, ← hX2, ← hX3, ← hX4]
    clear hy hC hX1 hX2 hX3 hX4 l1 l2 l3
    go_enter Try.func20, Try.ntmps20
    go_wp2_with (first
      | (go_at_call 38; with_reducible refine (HO.out _).mono ?_; rintro e w1 ⟨rfl, hb1⟩; have HK1 := Lib.hid ((Blk.new w [strV a, strV b, strV c, strV d, strV f, strV g] 30).below hb1 (by simp)); have y3 := HK1.out.cell (i := 3) (by simp); have y4 := HK1.out.cell (i := 4) (by simp); have y5 := HK1.out.cell (i := 5) (by simp); have HB1 := Lib.hid (((Below.refl w.heap.size w).alloc (Nat.le_refl _) _).trans (hb1.mono (by simp))); clear hb1)
      | (go_at_call 39; with_reducible refine (HS.out _).mono ?_; rintro e w2 ⟨rfl, hb2⟩; clear y3 y4 y5; have HK2 := Lib.hid (HK1.out.below hb2 HK1.out.lt); have z2 := HK2.out.cell (i := 2) (by simp); have HB2 := Lib.hid (HB1.out.trans (hb2.mono (Nat.le_of_lt HK1.out.lt))); clear hb2 HB1 HK1)
      | (go_at_call 40; with_reducible refine (HN.out _).mono ?_; rintro e w3 ⟨rfl, rfl⟩))
    go_ret
    exact ⟨rfl, HB2.out⟩
end Go.Proofs.Ytehabjiacgibpaa
