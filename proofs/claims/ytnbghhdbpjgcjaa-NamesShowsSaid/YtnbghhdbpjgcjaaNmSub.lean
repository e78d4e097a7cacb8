/-
  What the document's Subject and Tuple come to. Condition: a string's length fits an int.
-/
import Derived.Test.YtnbghhdbpjgcjaaNmObj
namespace Go.Proofs.Ytnbghhdbpjgcjaa
open Go.RowKit

def subL (l : Txt) : Option (Txt × Txt × Txt) := match objL (cutL l 35).1 with
  | none => none
  | some o => if !(cutL l 35).2.2 || nameL (cutL l 35).2.1 then some (o.1, o.2, (cutL l 35).2.1) else none
def subV : Option (Txt × Txt × Txt) → Value
  | none => .agg #[strV [], strV [], strV []]
  | some o => .agg #[strV o.1, strV o.2.1, strV o.2.2]
theorem below_box3 {w w2 : World} (h : Below w.heap.size w w2) (lt : w.heap.size < w2.heap.size) (a b c : Value) (o : Obj) :
    Below w.heap.size w ((((w2.setCell ⟨w.heap.size, 0, none⟩ a).setCell ⟨w.heap.size, 1, none⟩ b).setCell ⟨w.heap.size, 2, none⟩ c).alloc o) :=
  (((h.setCell (Nat.le_refl _) _).setCell (Nat.le_refl _) _).setCell (Nat.le_refl _) _).alloc (by simp; omega) _
set_option maxHeartbeats 800000 in
theorem refSubject_any (l : Txt) (w : World) (hm : l.length ≤ 9223372036854775807) :
    Calls Try.prog 16 #[strV l] w fun e w' =>
      e = .returned (.tuple #[subV (subL l), .bool (subL l).isSome]) ∧ Below w.heap.size w w' := by
  obtain ⟨p, hp⟩ : ∃ p, p = (cutL l 35).1 := ⟨_, rfl⟩
  obtain ⟨q, hq⟩ : ∃ q, q = (cutL l 35).2.1 := ⟨_, rfl⟩
  obtain ⟨b, hb⟩ : ∃ b, b = (cutL l 35).2.2 := ⟨_, rfl⟩
  have hL := cutL_len l 35
  have hCUT := fun W => refCut_txt l 35 W hm
  simp only [show ((35 : UInt8).toNat : Int) = 35 from rfl] at hCUT
  unfold subL
  rw [← hp, ← hq] at hL
  simp only [← hp, ← hq, ← hb] at hCUT
  rw [← hp, ← hq, ← hb]
  have HC := Lib.hid hCUT
  have hO := fun W => refObject_any p W (by omega)
  have hN := fun W => refName_txt q W (by omega)
  clear hp hq hb hL hCUT
  generalize objL p = O at *
  generalize nameL q = y at *
  have HN := Lib.hid hN
  have HO := Lib.hid hO
  clear hN hO
  rcases O with _ | ⟨o1, o2⟩
  · have HO2 : Hid (∀ W, Calls Try.prog 14 #[strV p] W fun e w' => e = .returned (.tuple #[.agg #[strV [], strV []], .bool false]) ∧ Below W.heap.size W w') := HO
    clear HO
    go_enter Try.func16, Try.ntmps16
    go_wp2_with (first
      | (go_at_call 36; refine (HC.out _).mono ?_; rintro e w1 ⟨rfl, hb1⟩; have HK1 := Lib.hid ((Blk.new w [strV [], strV [], strV []] 29).below hb1 (by simp)); have HB1 := Lib.hid (((Below.refl w.heap.size w).alloc (Nat.le_refl _) _).trans (hb1.mono (by simp))); clear hb1)
      | (go_at_call 14; refine (HO2.out _).mono ?_; rintro e w2 ⟨rfl, hb2⟩; have hbk2 := HK1.out.below hb2 HK1.out.lt; have y0 := hbk2.cell (i := 0) (by simp); have y1 := hbk2.cell (i := 1) (by simp); have y2 := hbk2.cell (i := 2) (by simp); have f0 := hbk2.free 0; have f1 := hbk2.free 1; have f2 := hbk2.free 2; have lt2 := hbk2.lt; have HB2 := Lib.hid (HB1.out.trans (hb2.mono (Nat.le_of_lt HK1.out.lt))); clear hb2 hbk2 HK1 HB1)
      | (go_at_call 10; refine (HN.out _).mono ?_; rintro e w3 ⟨rfl, rfl⟩))
    refine bodyPost_ret (v := .tuple #[.agg #[strV [], strV [], strV []], .bool false]) (by simp [results, Try.results16, go_sem, y0, y1, y2, lt2]) rfl ?_
    exact ⟨rfl, below_box3 HB2.out lt2 _ _ _ _⟩
  · have HO2 : Hid (∀ W, Calls Try.prog 14 #[strV p] W fun e w' => e = .returned (.tuple #[.agg #[strV o1, strV o2], .bool true]) ∧ Below W.heap.size W w') := HO
    clear HO
    have hcase : (b = true ∧ y = false) ∨ (b = false ∨ (b = true ∧ y = true)) := by cases b <;> cases y <;> decide
    rcases hcase with ⟨rfl, rfl⟩ | hcase
    · go_enter Try.func16, Try.ntmps16
      go_wp2_with (first
        | (go_at_call 36; refine (HC.out _).mono ?_; rintro e w1 ⟨rfl, hb1⟩; have HK1 := Lib.hid ((Blk.new w [strV [], strV [], strV []] 29).below hb1 (by simp)); have HB1 := Lib.hid (((Below.refl w.heap.size w).alloc (Nat.le_refl _) _).trans (hb1.mono (by simp))); clear hb1)
        | (go_at_call 14; refine (HO2.out _).mono ?_; rintro e w2 ⟨rfl, hb2⟩; have hbk2 := HK1.out.below hb2 HK1.out.lt; have y0 := hbk2.cell (i := 0) (by simp); have y1 := hbk2.cell (i := 1) (by simp); have y2 := hbk2.cell (i := 2) (by simp); have f0 := hbk2.free 0; have f1 := hbk2.free 1; have f2 := hbk2.free 2; have lt2 := hbk2.lt; have HB2 := Lib.hid (HB1.out.trans (hb2.mono (Nat.le_of_lt HK1.out.lt))); clear hb2 hbk2 HK1 HB1)
        | (go_at_call 10; refine (HN.out _).mono ?_; rintro e w3 ⟨rfl, rfl⟩))
      refine bodyPost_ret (v := .tuple #[.agg #[strV [], strV [], strV []], .bool false]) (by simp [results, Try.results16, go_sem, y0, y1, y2, lt2]) rfl ?_
      exact ⟨rfl, below_box3 HB2.out lt2 _ _ _ _⟩
    · show Calls _ _ _ _ fun e w' => e = .returned (.tuple #[subV (if !b || y then some (o1, o2, q) else none), .bool (if !b || y then some (o1, o2, q) else none).isSome]) ∧ _
      rw [show (if !b || y then some (o1, o2, q) else none) = some (o1, o2, q) by rcases hcase with rfl | ⟨rfl, rfl⟩ <;> simp]
      rcases hcase with rfl | ⟨rfl, rfl⟩
      all_goals go_enter Try.func16, Try.ntmps16
      all_goals go_wp2_with (first
        | (go_at_call 36; refine (HC.out _).mono ?_; rintro e w1 ⟨rfl, hb1⟩; have HK1 := Lib.hid ((Blk.new w [strV [], strV [], strV []] 29).below hb1 (by simp)); have HB1 := Lib.hid (((Below.refl w.heap.size w).alloc (Nat.le_refl _) _).trans (hb1.mono (by simp))); clear hb1)
        | (go_at_call 14; refine (HO2.out _).mono ?_; rintro e w2 ⟨rfl, hb2⟩; have hbk2 := HK1.out.below hb2 HK1.out.lt; have y0 := hbk2.cell (i := 0) (by simp); have y1 := hbk2.cell (i := 1) (by simp); have y2 := hbk2.cell (i := 2) (by simp); have f0 := hbk2.free 0; have f1 := hbk2.free 1; have f2 := hbk2.free 2; have lt2 := hbk2.lt; have HB2 := Lib.hid (HB1.out.trans (hb2.mono (Nat.le_of_lt HK1.out.lt))); clear hb2 hbk2 HK1 HB1)
        | (go_at_call 10; refine (HN.out _).mono ?_; rintro e w3 ⟨rfl, rfl⟩))
      all_goals refine bodyPost_ret (v := .tuple #[.agg #[strV o1, strV o2, strV q], .bool true]) (by simp [results, Try.results16, go_sem, y0, y1, y2, lt2]) rfl ?_
      all_goals exact ⟨rfl, below_box3 HB2.out lt2 _ _ _ _⟩
end Go.Proofs.Ytnbghhdbpjgcjaa
