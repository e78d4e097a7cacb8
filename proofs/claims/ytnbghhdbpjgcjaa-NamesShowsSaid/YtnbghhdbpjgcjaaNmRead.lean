/-
  What the program's Object comes to. Condition: a string's length fits an int.
-/
import Derived.Test.YtnbghhdbpjgcjaaNmName
import Derived.Test.YtnbghhdbpjgcjaaNmLib
import Derived.Test.YtnbghhdbpjgcjaaNmOrdP
namespace Go.Proofs.Ytnbghhdbpjgcjaa
open Go.RowKit

theorem nm16 {l : Txt} (h : nameL l = true) : l.length ≤ 281474976710656 := by have := (nameL_len h).2; omega
theorem id_nil : idL [] = false := by decide
theorem objL_prog (l : Txt) : objL l = if nameL (cutL l 58).1 && idL (cutL l 58).2.1 then some ((cutL l 58).1, (cutL l 58).2.1) else none := by
  unfold objL
  cases hb : (cutL l 58).2.2
  · have e : (cutL l 58).2.1 = [] := (cutL_false (l := l) (c := 58) (Prod.ext rfl (Prod.ext rfl hb))).2.1
    rw [e, id_nil]; simp
  · simp
set_option maxHeartbeats 800000 in
theorem object_any (l : Txt) (w : World) (hm : l.length ≤ 9223372036854775807) :
    Calls Try.prog 13 #[strV l] w fun e w' => e = .returned (.tuple #[objV (objL l), .bool (objL l).isSome]) ∧ Below w.heap.size w w' := by
  rw [objL_prog]
  have hL := cutL_len l 58
  have hCUT : ∀ W, Calls Try.prog 34 #[strV l, .string ⟨#[58]⟩] W fun e w' => e = .returned (.tuple #[strV (cutL l 58).1, strV (cutL l 58).2.1, .bool (cutL l 58).2.2]) ∧ Below W.heap.size W w' := fun W => cut_any l 58 W hm
  generalize (cutL l 58).1 = p at *
  generalize (cutL l 58).2.1 = q at *
  generalize (cutL l 58).2.2 = b at *
  have hN := fun W => name_any p W (by omega)
  have hI := fun W => nid_any q W (by omega)
  have hp : nameL p = true → p.length ≤ 281474976710656 := nm16
  have hq : idL q = true → q.length ≤ 281474976710656 := fun h => by have := (idL_len h).2; omega
  generalize nameL p = x at *
  generalize idL q = y at *
  have HC := Lib.hid hCUT
  have HN := Lib.hid hN
  have HI := Lib.hid hI
  have HK0 := Lib.hid (Blk.new w [strV [], strV []] 25)
  have HB0 := Lib.hid ((Below.refl w.heap.size w).alloc (Nat.le_refl _) (.cells #[strV [], strV []] 25))
  clear hCUT hN hI hL
  cases x
  · clear hp hq
    go_enter Try.func13, Try.ntmps13
    go_wp2_with (first
      | (go_at_call 34; with_reducible refine (HC.out _).mono ?_; rintro e w1 ⟨rfl, hb1⟩; have HK1 := Lib.hid (HK0.out.below hb1 HK0.out.lt); have HB1 := Lib.hid (HB0.out.trans (hb1.mono (Nat.le_of_lt HK0.out.lt))); clear hb1)
      | (go_at_call 9; with_reducible refine (HN.out _).mono ?_; rintro e w2 ⟨rfl, hb2⟩; have HK2 := Lib.hid (HK1.out.below hb2 HK1.out.lt); have HB2 := Lib.hid (HB1.out.trans (hb2.mono (Nat.le_of_lt HK1.out.lt))); clear hb2; have hbk := HK2.out; have y0 := hbk.cell (i := 0) (by simp); have y1 := hbk.cell (i := 1) (by simp); have f0 := hbk.free 0; have f1 := hbk.free 1; have lt := hbk.lt; clear hbk))
    refine bodyPost_ret (v := .tuple #[.agg #[strV [], strV []], .bool false]) (by simp [results, Try.results13, go_sem, y0, y1]) rfl ?_
    exact ⟨rfl, (HB2.out.setCell (Nat.le_refl _) _).setCell (Nat.le_refl _) _⟩
  · cases y
    · clear hp hq
      go_enter Try.func13, Try.ntmps13
      go_wp2_with (first
        | (go_at_call 34; with_reducible refine (HC.out _).mono ?_; rintro e w1 ⟨rfl, hb1⟩; have HK1 := Lib.hid (HK0.out.below hb1 HK0.out.lt); have HB1 := Lib.hid (HB0.out.trans (hb1.mono (Nat.le_of_lt HK0.out.lt))); clear hb1)
        | (go_at_call 9; with_reducible refine (HN.out _).mono ?_; rintro e w2 ⟨rfl, hb2⟩; have HK2 := Lib.hid (HK1.out.below hb2 HK1.out.lt); have HB2 := Lib.hid (HB1.out.trans (hb2.mono (Nat.le_of_lt HK1.out.lt))); clear hb2)
        | (go_at_call 11; with_reducible refine (HI.out _).mono ?_; rintro e w3 ⟨rfl, hb3⟩; have HK3 := Lib.hid (HK2.out.below hb3 HK2.out.lt); have HB3 := Lib.hid (HB2.out.trans (hb3.mono (Nat.le_of_lt HK2.out.lt))); clear hb3; have hbk := HK3.out; have y0 := hbk.cell (i := 0) (by simp); have y1 := hbk.cell (i := 1) (by simp); have f0 := hbk.free 0; have f1 := hbk.free 1; have lt := hbk.lt; clear hbk))
      refine bodyPost_ret (v := .tuple #[.agg #[strV [], strV []], .bool false]) (by simp [results, Try.results13, go_sem, y0, y1]) rfl ?_
      exact ⟨rfl, (HB3.out.setCell (Nat.le_refl _) _).setCell (Nat.le_refl _) _⟩
    · have HP := Lib.hid (fun W => clone_any p W (hp rfl))
      have HQ := Lib.hid (fun W => clone_any q W (hq rfl))
      clear hp hq
      go_enter Try.func13, Try.ntmps13
      go_wp2_with (first
        | (go_at_call 34; with_reducible refine (HC.out _).mono ?_; rintro e w1 ⟨rfl, hb1⟩; have HK1 := Lib.hid (HK0.out.below hb1 HK0.out.lt); have HB1 := Lib.hid (HB0.out.trans (hb1.mono (Nat.le_of_lt HK0.out.lt))); clear hb1)
        | (go_at_call 9; with_reducible refine (HN.out _).mono ?_; rintro e w2 ⟨rfl, hb2⟩; have HK2 := Lib.hid (HK1.out.below hb2 HK1.out.lt); have HB2 := Lib.hid (HB1.out.trans (hb2.mono (Nat.le_of_lt HK1.out.lt))); clear hb2)
        | (go_at_call 11; with_reducible refine (HI.out _).mono ?_; rintro e w3 ⟨rfl, hb3⟩; have HK3 := Lib.hid (HK2.out.below hb3 HK2.out.lt); have HB3 := Lib.hid (HB2.out.trans (hb3.mono (Nat.le_of_lt HK2.out.lt))); clear hb3)
        | (go_at_call 35; with_reducible refine (HP.out _).mono ?_; rintro e w4 ⟨rfl, hb4⟩; have HK4 := Lib.hid (HK3.out.below hb4 HK3.out.lt); have HB4 := Lib.hid (HB3.out.trans (hb4.mono (Nat.le_of_lt HK3.out.lt))); clear hb4)
        | (go_at_call 35; with_reducible refine (HQ.out _).mono ?_; rintro e w5 ⟨rfl, hb5⟩; have HK5 := Lib.hid (HK4.out.below hb5 HK4.out.lt); have HB5 := Lib.hid (HB4.out.trans (hb5.mono (Nat.le_of_lt HK4.out.lt))); clear hb5; have hbk := HK5.out; have y0 := hbk.cell (i := 0) (by simp); have y1 := hbk.cell (i := 1) (by simp); have f0 := hbk.free 0; have f1 := hbk.free 1; have lt := hbk.lt; clear hbk))
      refine bodyPost_ret (v := .tuple #[.agg #[strV p, strV q], .bool true]) (by simp [results, Try.results13, go_sem, y0, y1]) rfl ?_
      exact ⟨rfl, (HB5.out.setCell (Nat.le_refl _) _).setCell (Nat.le_refl _) _⟩
end Go.Proofs.Ytnbghhdbpjgcjaa
