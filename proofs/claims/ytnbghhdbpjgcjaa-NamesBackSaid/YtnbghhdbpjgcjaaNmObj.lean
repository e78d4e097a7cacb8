/-
  What the document's Object, Subject and Tuple come to. Condition: a string's length fits an int.
-/
import Derived.Test.YtnbghhdbpjgcjaaNmRef
import Derived.Test.YtnbghhdbpjgcjaaNmCut
import Derived.Test.YtnbghhdbpjgcjaaRow
namespace Go.Proofs.Ytnbghhdbpjgcjaa
open Go.RowKit

abbrev Txt := List UInt8
def objL (l : Txt) : Option (Txt × Txt) := if (cutL l 58).2.2 && nameL (cutL l 58).1 && idL (cutL l 58).2.1 then some ((cutL l 58).1, (cutL l 58).2.1) else none
def objV : Option (Txt × Txt) → Value
  | none => .agg #[strV [], strV []]
  | some o => .agg #[strV o.1, strV o.2]
theorem refName_txt (l : Txt) (w : World) (hm : l.length ≤ 9223372036854775807) :
    Calls Try.prog 10 #[strV l] w fun e w' => e = .returned (.bool (nameL l)) ∧ w = w' := by
  have h := refName_any ⟨l.toArray⟩ w (by simpa [ByteArray.size] using hm)
  simpa using h
theorem refID_txt (l : Txt) (w : World) (hm : l.length ≤ 9223372036854775807) :
    Calls Try.prog 12 #[strV l] w fun e w' => e = .returned (.bool (idL l)) ∧ w = w' := by
  have h := refID_any ⟨l.toArray⟩ w (by simpa [ByteArray.size] using hm)
  simpa using h
theorem refCut_txt (l : Txt) (c : UInt8) (w : World) (hm : l.length ≤ 9223372036854775807) :
    Calls Try.prog 36 #[strV l, .int .u8 (c.toNat : Int)] w fun e w' =>
      e = .returned (.tuple #[strV (cutL l c).1, strV (cutL l c).2.1, .bool (cutL l c).2.2]) ∧ Below w.heap.size w w' := by
  have h := refCut_any ⟨l.toArray⟩ c w (by simpa [ByteArray.size] using hm)
  simpa using h
theorem cutL_len (l : Txt) (c : UInt8) : (cutL l c).1.length ≤ l.length ∧ (cutL l c).2.1.length ≤ l.length := by
  induction l with
  | nil => exact ⟨Nat.le_refl _, Nat.le_refl _⟩
  | cons x r ih =>
    unfold cutL
    by_cases hx : x = c
    · rw [if_pos hx]; exact ⟨Nat.zero_le _, Nat.le_succ _⟩
    · rw [if_neg hx]; simp only [List.length_cons]; omega
set_option maxHeartbeats 400000 in
theorem refObject_any (l : Txt) (w : World) (hm : l.length ≤ 9223372036854775807) :
    Calls Try.prog 14 #[strV l] w fun e w' =>
      e = .returned (.tuple #[objV (objL l), .bool (objL l).isSome]) ∧ Below w.heap.size w w' := by
  obtain ⟨p, hp⟩ : ∃ p, p = (cutL l 58).1 := ⟨_, rfl⟩
  obtain ⟨q, hq⟩ : ∃ q, q = (cutL l 58).2.1 := ⟨_, rfl⟩
  obtain ⟨b, hb⟩ : ∃ b, b = (cutL l 58).2.2 := ⟨_, rfl⟩
  have hL := cutL_len l 58
  have hCUT := fun W => refCut_txt l 58 W hm
  simp only [show ((58 : UInt8).toNat : Int) = 58 from rfl] at hCUT
  unfold objL
  rw [← hp, ← hq] at hL
  simp only [← hp, ← hq, ← hb] at hCUT
  rw [← hp, ← hq, ← hb]
  have HC := Lib.hid hCUT
  have hN := fun W => refName_txt p W (by omega)
  have hI := fun W => refID_txt q W (by omega)
  clear hp hq hb hL hCUT
  generalize nameL p = x at *
  generalize idL q = y at *
  have HN := Lib.hid hN
  have HI := Lib.hid hI
  clear hN hI
  have hcase : (b = false ∨ (b = true ∧ x = false) ∨ (b = true ∧ x = true ∧ y = false)) ∨ (b = true ∧ x = true ∧ y = true) := by cases b <;> cases x <;> cases y <;> decide
  rcases hcase with hbad | ⟨rfl, rfl, rfl⟩
  · rw [show (b && x && y) = false by rcases hbad with rfl | ⟨rfl, rfl⟩ | ⟨rfl, rfl, rfl⟩ <;> simp, if_neg (by decide)]
    rcases hbad with rfl | ⟨rfl, rfl⟩ | ⟨rfl, rfl, rfl⟩
    all_goals go_enter Try.func14, Try.ntmps14
    all_goals go_wp2_with (first
      | (go_at_call 36; refine (HC.out _).mono ?_; rintro e w1 ⟨rfl, hb1⟩; have hbk := (Blk.new w [strV [], strV []] 25).below hb1 (by simp); have y0 := hbk.cell (i := 0) (by simp); have y1 := hbk.cell (i := 1) (by simp); have f0 := hbk.free 0; have f1 := hbk.free 1; have HB1 := Lib.hid (((Below.refl w.heap.size w).alloc (Nat.le_refl _) _).trans (hb1.mono (by simp))); clear hb1 hbk)
      | (go_at_call 10; with_reducible refine (HN.out _).mono ?_; rintro e w2 ⟨rfl, rfl⟩)
      | (go_at_call 12; with_reducible refine (HI.out _).mono ?_; rintro e w3 ⟨rfl, rfl⟩))
    all_goals refine bodyPost_ret (v := .tuple #[.agg #[strV [], strV []], .bool false]) (by simp [results, Try.results14, go_sem, y0, y1]) rfl ?_
    all_goals exact ⟨rfl, (HB1.out.setCell (Nat.le_refl _) _).setCell (Nat.le_refl _) _⟩
  · rw [show (true && true && true) = true from rfl, if_pos rfl]
    go_enter Try.func14, Try.ntmps14
    go_wp2_with (first
      | (go_at_call 36; refine (HC.out _).mono ?_; rintro e w1 ⟨rfl, hb1⟩; have hbk := (Blk.new w [strV [], strV []] 25).below hb1 (by simp); have y0 := hbk.cell (i := 0) (by simp); have y1 := hbk.cell (i := 1) (by simp); have f0 := hbk.free 0; have f1 := hbk.free 1; have HB1 := Lib.hid (((Below.refl w.heap.size w).alloc (Nat.le_refl _) _).trans (hb1.mono (by simp))); clear hb1 hbk)
      | (go_at_call 10; with_reducible refine (HN.out _).mono ?_; rintro e w2 ⟨rfl, rfl⟩)
      | (go_at_call 12; with_reducible refine (HI.out _).mono ?_; rintro e w3 ⟨rfl, rfl⟩))
    refine bodyPost_ret (v := .tuple #[.agg #[strV p, strV q], .bool true]) (by simp [results, Try.results14, go_sem, y0, y1]) rfl ?_
    exact ⟨rfl, (HB1.out.setCell (Nat.le_refl _) _).setCell (Nat.le_refl _) _⟩
end Go.Proofs.Ytnbghhdbpjgcjaa
