/-
  The chapter's examples hold. Condition: none.
-/
import Derived.Test.YtnbghhdbpjgcjaaNmProg
namespace Go.Proofs.Ytnbghhdbpjgcjaa
open Go.RowKit

/-- the texts of the examples -/
def exT : Txt := [100, 111, 99, 58, 49, 35, 118, 105, 101, 119, 101, 114, 64, 103, 114, 111, 117, 112, 58, 101, 110, 103, 35, 109, 101, 109, 98, 101, 114]
def exA : Txt := [100, 111, 99]
def exB : Txt := [49]
def exC : Txt := [118, 105, 101, 119, 101, 114]
def exD : Txt := [103, 114, 111, 117, 112]
def exE : Txt := [101, 110, 103]
def exF : Txt := [109, 101, 109, 98, 101, 114]
def exU : Txt := [100, 111, 99, 58, 49, 35, 64, 117, 115, 101, 114, 58, 97]
def exO : Txt := [68, 111, 99, 58, 49]
theorem ex_tup : tupL exT = some (exA, exB, exC, exD, exE, exF) := by rfl
theorem ex_none : tupL exU = none := by rfl
theorem ex_obj : objL exO = none := by decide
theorem ex_show : showT (exA, exB, exC, exD, exE, exF) = exT := by decide
set_option maxHeartbeats 800000 in
theorem awake_any (w : World) : Calls Try.prog 8 #[] w fun e w' => e = .returned (.bool true) ∧ Below w.heap.size w w' := by
  have HT1 : Hid (∀ W, Calls Try.prog 17 #[.string ⟨#[100, 111, 99, 58, 49, 35, 118, 105, 101, 119, 101, 114, 64, 103, 114, 111, 117, 112, 58, 101, 110, 103, 35, 109, 101, 109, 98, 101, 114]⟩] W fun e w' => e = .returned (.tuple #[.agg #[strV exA, strV exB, strV exC, strV exD, strV exE, strV exF], .bool true]) ∧ Below W.heap.size W w') :=
    Lib.hid (fun W => by have h := tuple_any exT W (by decide); rw [ex_tup] at h; exact h)
  have HT2 : Hid (∀ W, Calls Try.prog 17 #[.string ⟨#[100, 111, 99, 58, 49, 35, 64, 117, 115, 101, 114, 58, 97]⟩] W fun e w' => e = .returned (.tuple #[.agg #[strV [], strV [], strV [], strV [], strV [], strV []], .bool false]) ∧ Below W.heap.size W w') :=
    Lib.hid (fun W => by have h := tuple_any exU W (by decide); rw [ex_none] at h; exact h)
  have HO : Hid (∀ W, Calls Try.prog 13 #[.string ⟨#[68, 111, 99, 58, 49]⟩] W fun e w' => e = .returned (.tuple #[.agg #[strV [], strV []], .bool false]) ∧ Below W.heap.size W w') :=
    Lib.hid (fun W => by have h := object_any exO W (by decide); rw [ex_obj] at h; exact h)
  have HS : Hid (∀ W, Calls Try.prog 19 #[.agg #[strV exA, strV exB, strV exC, strV exD, strV exE, strV exF]] W fun e w' => e = .returned (strV exT) ∧ Below W.heap.size W w') :=
    Lib.hid (fun W => by have h := showTuple_any exA exB exC exD exE exF W (by decide) (by decide) (by decide) (by decide) (by decide) (by decide); rw [ex_show] at h; exact h)
  have HN1 : Hid (∀ W, Calls Try.prog 9 #[.string ⟨#[97]⟩] W fun e w' => e = .returned (.bool true) ∧ Below W.heap.size W w') :=
    Lib.hid (fun W => by have h := name_any [97] W (by decide); rw [show nameL [97] = true by decide] at h; exact h)
  have HN2 : Hid (∀ W, Calls Try.prog 9 #[.string ⟨#[116, 121, 112, 101]⟩] W fun e w' => e = .returned (.bool false) ∧ Below W.heap.size W w') :=
    Lib.hid (fun W => by have h := name_any [116, 121, 112, 101] W (by decide); rw [show nameL [116, 121, 112, 101] = false by decide] at h; exact h)
  have eC : (exC == [118, 105, 101, 119, 101, 114]) = true := by decide
  have eF : (exF == [109, 101, 109, 98, 101, 114]) = true := by decide
  have eT : (exT == [100, 111, 99, 58, 49, 35, 118, 105, 101, 119, 101, 114, 64, 103, 114, 111, 117, 112, 58, 101, 110, 103, 35, 109, 101, 109, 98, 101, 114]) = true := by decide
  go_enter Try.func8, Try.ntmps8
  go_wp2_with (first
    | (go_at_call 17; with_reducible refine (HT1.out _).mono ?_; rintro e w1 ⟨rfl, hb1⟩; have HB1 := Lib.hid hb1; clear hb1)
    | (go_at_call 17; with_reducible refine (HT2.out _).mono ?_; rintro e w2 ⟨rfl, hb2⟩; have HK2 := Lib.hid ((Blk.new w1 [strV exA, strV exB, strV exC, strV exD, strV exE, strV exF] 33).below hb2 (by simp)); have HB2 := Lib.hid (((HB1.out.alloc HB1.out.size _)).trans (hb2.mono (by simp; have := HB1.out.size; omega))); clear hb2)
    | (go_at_call 13; with_reducible refine (HO.out _).mono ?_; rintro e w3 ⟨rfl, hb3⟩; have HK3 := Lib.hid ((HK2.out.alloc (.cells #[strV [], strV [], strV [], strV [], strV [], strV []] 33)).below hb3 (by have := HK2.out.lt; simp; omega)); have HB3 := Lib.hid (((HB2.out.alloc HB2.out.size _)).trans (hb3.mono (by simp; have := HB2.out.size; omega))); have y0 := HK3.out.cell (i := 0) (by simp); have y1 := HK3.out.cell (i := 1) (by simp); have y2 := HK3.out.cell (i := 2) (by simp); have y3 := HK3.out.cell (i := 3) (by simp); have y4 := HK3.out.cell (i := 4) (by simp); have y5 := HK3.out.cell (i := 5) (by simp); have lt3 := HK3.out.lt; clear hb3)
    | (go_at_call 19; with_reducible refine (HS.out _).mono ?_; rintro e w4 ⟨rfl, hb4⟩; have HB4 := Lib.hid hb4; clear hb4)
    | (go_at_call 9; with_reducible refine (HN1.out _).mono ?_; rintro e w5 ⟨rfl, hb5⟩; have HB5 := Lib.hid hb5; clear hb5)
    | (go_at_call 9; with_reducible refine (HN2.out _).mono ?_; rintro e w6 ⟨rfl, hb6⟩; have HB6 := Lib.hid hb6; clear hb6))
  go_ret
  exact ⟨rfl, hop (hop (hop (HB3.out.alloc HB3.out.size _) HB4.out) HB5.out) HB6.out⟩
end Go.Proofs.Ytnbghhdbpjgcjaa
