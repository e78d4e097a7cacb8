/-
  What the program's ShowObject, ShowSubject and ShowTuple come to. Condition: a string's length fits an int.
  Whether a tuple has a text (isTuple), and where a row of Refs has one (slices.Index, slices.Contains), the program's. Conditions: the arguments are there.
  The tuple that six parts make: object, subject, and what Read and ReadBack hand to read. No conditions.
-/
import Derived.Test.YtehabjiacgibpaaGreatCNmShow
import Derived.Deep.RegionHeldLaw
import Derived.Test.YtehabjiacgibpaaGreatCTpL
import Derived.Test.YtehabjiacgibpaaGreatCTuE
import Derived.Test.YtehabjiacgibpaaGreatCNmSub
import Derived.Deep.QuietTactic
import Derived.BigQuiet
namespace Go.Proofs.YtehabjiacgibpaaGreat
open Go.RowKit
set_option maxHeartbeats 800000 in
theorem showObject_any (a b : Txt) (w : World) (ha : a.length ≤ 9223372036854775807) (hb : b.length ≤ 9223372036854775807) :
    Calls Tryz.prog 89 #[.agg #[strV a, strV b]] w fun e w' => e = .returned (strV (showO a b)) ∧ Below w.heap.size w w' := by
  have hN := fun W => name_any a W ha
  have hI := fun W => nid_any b W hb
  obtain ⟨v, hv⟩ : ∃ v, v = showO a b := ⟨_, rfl⟩
  rw [← hv]
  have HK0 := Lib.hid (Blk.new w [strV a, strV b] 24)
  have HB0 := Lib.hid ((Below.refl w.heap.size w).alloc (Nat.le_refl _) (.cells #[strV a, strV b] 24))
  cases g1 : nameL a
  · have e1 : v = [] := by rw [hv]; unfold showO; rw [g1]; rfl
    rw [g1] at hN
    subst e1
    have HN := Lib.hid hN
    clear hN hI hv g1
    go_enter Tryz.func89, Tryz.ntmps89
    go_wp2_with (first
      | (go_at_call 91; with_reducible refine (HN.out _).mono ?_; rintro e w1 ⟨rfl, hb1⟩; have HK1 := Lib.hid (HK0.out.below hb1 HK0.out.lt); have HB1 := Lib.hid (HB0.out.trans (hb1.mono (Nat.le_of_lt HK0.out.lt))); clear hb1))
    go_ret
    exact ⟨rfl, HB1.out⟩
  · cases g2 : idL b
    · have e1 : v = [] := by rw [hv]; unfold showO; rw [g1, g2]; rfl
      rw [g1] at hN
      rw [g2] at hI
      subst e1
      have HN := Lib.hid hN
      have HI := Lib.hid hI
      clear hN hI hv g1 g2
      go_enter Tryz.func89, Tryz.ntmps89
      go_wp2_with (first
        | (go_at_call 91; with_reducible refine (HN.out _).mono ?_; rintro e w1 ⟨rfl, hb1⟩; have HK1 := Lib.hid (HK0.out.below hb1 HK0.out.lt); have HB1 := Lib.hid (HB0.out.trans (hb1.mono (Nat.le_of_lt HK0.out.lt))); clear hb1; have y1_1 := HK1.out.cell (i := 1) (by simp))
        | (go_at_call 107; with_reducible refine (HI.out _).mono ?_; rintro e w2 ⟨rfl, hb2⟩; have HK2 := Lib.hid (HK1.out.below hb2 HK1.out.lt); have HB2 := Lib.hid (HB1.out.trans (hb2.mono (Nat.le_of_lt HK1.out.lt))); clear hb2))
      go_ret
      exact ⟨rfl, HB2.out⟩
    · have hA := (nameL_len g1).2
      have hB := (idL_len g2).2
      have e1 : v = (a ++ [58]) ++ b := by rw [hv]; unfold showO; rw [g1, g2]; simp
      obtain ⟨c, hc⟩ : ∃ c, c = a ++ [58] := ⟨_, rfl⟩
      rw [← hc] at e1
      have J1 : ∀ W, (Op.stringOp .add ⟨a.toArray⟩ ⟨#[58]⟩).run Tryz.prog W = .ok (strV c) W := fun W => by rw [hc]; exact plus a [58] (by omega) (by simp) W
      have J2 : ∀ W, (Op.stringOp .add ⟨c.toArray⟩ ⟨b.toArray⟩).run Tryz.prog W = .ok (strV v) W := fun W => by rw [e1]; exact plus c b (by rw [hc]; simp; omega) (by omega) W
      rw [g1] at hN
      rw [g2] at hI
      have HN := Lib.hid hN
      have HI := Lib.hid hI
      clear hN hI hv g1 g2 hA hB e1 hc
      go_enter Tryz.func89, Tryz.ntmps89
      go_wp2_with (first
        | (go_at_call 91; with_reducible refine (HN.out _).mono ?_; rintro e w1 ⟨rfl, hb1⟩; have HK1 := Lib.hid (HK0.out.below hb1 HK0.out.lt); have HB1 := Lib.hid (HB0.out.trans (hb1.mono (Nat.le_of_lt HK0.out.lt))); clear hb1; have y1_1 := HK1.out.cell (i := 1) (by simp))
        | (go_at_call 107; with_reducible refine (HI.out _).mono ?_; rintro e w2 ⟨rfl, hb2⟩; have HK2 := Lib.hid (HK1.out.below hb2 HK1.out.lt); have HB2 := Lib.hid (HB1.out.trans (hb2.mono (Nat.le_of_lt HK1.out.lt))); clear hb2; have y2_0 := HK2.out.cell (i := 0) (by simp); have y2_1 := HK2.out.cell (i := 1) (by simp)))
      go_ret
      exact ⟨rfl, HB2.out⟩
set_option maxHeartbeats 800000 in
theorem showSubject_any (a b r : Txt) (w : World) (ha : a.length ≤ 9223372036854775807) (hb : b.length ≤ 9223372036854775807) (hr : r.length ≤ 9223372036854775807) :
    Calls Tryz.prog 90 #[.agg #[strV a, strV b, strV r]] w fun e w' => e = .returned (strV (showS a b r)) ∧ Below w.heap.size w w' := by
  have hO := fun W => showObject_any a b W ha hb
  have hN := fun W => name_any r W hr
  have hT := showO_len a b
  obtain ⟨v, hv⟩ : ∃ v, v = showS a b r := ⟨_, rfl⟩
  rw [← hv]
  unfold showS at hv
  generalize showO a b = T at *
  have HK0 := Lib.hid (Blk.new w [strV a, strV b, strV r] 32)
  have HB0 := Lib.hid ((Below.refl w.heap.size w).alloc (Nat.le_refl _) (.cells #[strV a, strV b, strV r] 32))
  have HO := Lib.hid hO
  clear hO
  by_cases h1 : T = []
  · subst h1
    rw [if_pos (.inl rfl)] at hv
    subst hv
    clear hN
    go_enter Tryz.func90, Tryz.ntmps90
    go_wp2_with (first
      | (go_at_call 89; with_reducible refine (HO.out _).mono ?_; rintro e w1 ⟨rfl, hb1⟩; have HK1 := Lib.hid (HK0.out.below hb1 HK0.out.lt); have HB1 := Lib.hid (HB0.out.trans (hb1.mono (Nat.le_of_lt HK0.out.lt))); clear hb1))
    go_ret
    exact ⟨rfl, HB1.out⟩
  have n1 := nonempty h1
  by_cases h2 : r = []
  · rw [if_pos (.inr h2)] at hv
    subst hv h2
    clear hN
    go_enter Tryz.func90, Tryz.ntmps90
    go_wp2_with (first
      | (go_at_call 89; with_reducible refine (HO.out _).mono ?_; rintro e w1 ⟨rfl, hb1⟩; have HK1 := Lib.hid (HK0.out.below hb1 HK0.out.lt); have HB1 := Lib.hid (HB0.out.trans (hb1.mono (Nat.le_of_lt HK0.out.lt))); clear hb1; have y1_2 := HK1.out.cell (i := 2) (by simp)))
    go_ret
    exact ⟨rfl, HB1.out⟩
  have n2 := nonempty h2
  rw [if_neg (fun h => h.elim h1 h2)] at hv
  cases g : nameL r
  · rw [g] at hv hN
    have e1 : v = [] := hv
    subst e1
    have HN := Lib.hid hN
    clear hN hv g
    go_enter Tryz.func90, Tryz.ntmps90
    go_wp2_with (first
      | (go_at_call 89; with_reducible refine (HO.out _).mono ?_; rintro e w1 ⟨rfl, hb1⟩; have HK1 := Lib.hid (HK0.out.below hb1 HK0.out.lt); have HB1 := Lib.hid (HB0.out.trans (hb1.mono (Nat.le_of_lt HK0.out.lt))); clear hb1; have y1_2 := HK1.out.cell (i := 2) (by simp))
      | (go_at_call 91; with_reducible refine (HN.out _).mono ?_; rintro e w2 ⟨rfl, hb2⟩; have HK2 := Lib.hid (HK1.out.below hb2 HK1.out.lt); have HB2 := Lib.hid (HB1.out.trans (hb2.mono (Nat.le_of_lt HK1.out.lt))); clear hb2))
    go_ret
    exact ⟨rfl, HB2.out⟩
  · have hR := (nameL_len g).2
    rw [g, if_pos rfl] at hv
    rw [g] at hN
    obtain ⟨c, hc⟩ : ∃ c, c = T ++ [35] := ⟨_, rfl⟩
    have e1 : v = c ++ r := by rw [hv, hc, List.append_assoc]
    have J1 : ∀ W, (Op.stringOp .add ⟨T.toArray⟩ ⟨#[35]⟩).run Tryz.prog W = .ok (strV c) W := fun W => by rw [hc]; exact plus T [35] (by omega) (by simp) W
    have J2 : ∀ W, (Op.stringOp .add ⟨c.toArray⟩ ⟨r.toArray⟩).run Tryz.prog W = .ok (strV v) W := fun W => by rw [e1]; exact plus c r (by rw [hc]; simp; omega) (by omega) W
    have HN := Lib.hid hN
    clear hN hv g hR hc e1
    go_enter Tryz.func90, Tryz.ntmps90
    go_wp2_with (first
      | (go_at_call 89; with_reducible refine (HO.out _).mono ?_; rintro e w1 ⟨rfl, hb1⟩; have HK1 := Lib.hid (HK0.out.below hb1 HK0.out.lt); have HB1 := Lib.hid (HB0.out.trans (hb1.mono (Nat.le_of_lt HK0.out.lt))); clear hb1; have y1_2 := HK1.out.cell (i := 2) (by simp))
      | (go_at_call 91; with_reducible refine (HN.out _).mono ?_; rintro e w2 ⟨rfl, hb2⟩; have HK2 := Lib.hid (HK1.out.below hb2 HK1.out.lt); have HB2 := Lib.hid (HB1.out.trans (hb2.mono (Nat.le_of_lt HK1.out.lt))); clear hb2; have y2_2 := HK2.out.cell (i := 2) (by simp)))
    go_ret
    exact ⟨rfl, HB2.out⟩
set_option maxHeartbeats 1000000 in
theorem showTuple_any (a b c d f g : Txt) (w : World) (ha : a.length ≤ 9223372036854775807) (hb : b.length ≤ 9223372036854775807) (hc : c.length ≤ 9223372036854775807)
    (hd : d.length ≤ 9223372036854775807) (hf : f.length ≤ 9223372036854775807) (hg : g.length ≤ 9223372036854775807) :
    Calls Tryz.prog 56 #[.agg #[strV a, strV b, strV c, strV d, strV f, strV g]] w fun e w' => e = .returned (strV (showT (a, b, c, d, f, g))) ∧ Below w.heap.size w w' := by
  have hO := fun W => showObject_any a b W ha hb
  have hS := fun W => showSubject_any d f g W hd hf hg
  have hN := fun W => name_any c W hc
  have hT := showO_len a b
  have hU := showS_len d f g
  obtain ⟨v, hv⟩ : ∃ v, v = showT (a, b, c, d, f, g) := ⟨_, rfl⟩
  rw [← hv]
  have hv2 : v = if showO a b = [] ∨ showS d f g = [] ∨ nameL c = false then [] else (showO a b ++ [35]) ++ c ++ [64] ++ showS d f g := hv
  clear hv
  generalize showO a b = T at *
  generalize showS d f g = U at *
  have HK0 := Lib.hid (Blk.new w [strV a, strV b, strV c, strV d, strV f, strV g] 34)
  have HB0 := Lib.hid ((Below.refl w.heap.size w).alloc (Nat.le_refl _) (.cells #[strV a, strV b, strV c, strV d, strV f, strV g] 34))
  have HO := Lib.hid hO
  have HS := Lib.hid hS
  clear hO hS
  by_cases h1 : T = []
  · subst h1
    rw [if_pos (.inl rfl)] at hv2
    subst hv2
    clear hN
    go_enter Tryz.func56, Tryz.ntmps56
    go_wp2_with fail
    have hS0 : (w.alloc (.cells #[strV a, strV b, strV c, strV d, strV f, strV g] 34)).drew.cell? ⟨w.heap.size, 0, none⟩ = some (strV a) ∧ (w.alloc (.cells #[strV a, strV b, strV c, strV d, strV f, strV g] 34)).drew.cell? ⟨w.heap.size, 1, none⟩ = some (strV b) ∧ (w.alloc (.cells #[strV a, strV b, strV c, strV d, strV f, strV g] 34)).drew.cell? ⟨w.heap.size, 2, none⟩ = some (strV c) ∧ (w.alloc (.cells #[strV a, strV b, strV c, strV d, strV f, strV g] 34)).drew.cell? ⟨w.heap.size, 3, none⟩ = some (strV d) ∧ (w.alloc (.cells #[strV a, strV b, strV c, strV d, strV f, strV g] 34)).drew.cell? ⟨w.heap.size, 4, none⟩ = some (strV f) ∧ (w.alloc (.cells #[strV a, strV b, strV c, strV d, strV f, strV g] 34)).drew.cell? ⟨w.heap.size, 5, none⟩ = some (strV g) := ⟨HK0.out.cell (i := 0) (by simp), HK0.out.cell (i := 1) (by simp), HK0.out.cell (i := 2) (by simp), HK0.out.cell (i := 3) (by simp), HK0.out.cell (i := 4) (by simp), HK0.out.cell (i := 5) (by simp)⟩
    go_region_held_law (fun w' => w'.cell? ⟨w.heap.size, 0, none⟩ = some (strV a) ∧ w'.cell? ⟨w.heap.size, 1, none⟩ = some (strV b) ∧ w'.cell? ⟨w.heap.size, 2, none⟩ = some (strV c) ∧ w'.cell? ⟨w.heap.size, 3, none⟩ = some (strV d) ∧ w'.cell? ⟨w.heap.size, 4, none⟩ = some (strV f) ∧ w'.cell? ⟨w.heap.size, 5, none⟩ = some (strV g))
      (with_reducible assumption)
      (first
        | (go_at_call 89; with_reducible refine (HO.out _).mono ?_; rintro e w1 ⟨rfl, hb1⟩; have HK1 := Lib.hid (HK0.out.drew.below hb1 HK0.out.drew.lt); have HB1 := Lib.hid (HB0.out.drew.trans (hb1.mono (Nat.le_of_lt HK0.out.drew.lt))); clear hb1; have hS1 : w1.cell? ⟨w.heap.size, 0, none⟩ = some (strV a) ∧ w1.cell? ⟨w.heap.size, 1, none⟩ = some (strV b) ∧ w1.cell? ⟨w.heap.size, 2, none⟩ = some (strV c) ∧ w1.cell? ⟨w.heap.size, 3, none⟩ = some (strV d) ∧ w1.cell? ⟨w.heap.size, 4, none⟩ = some (strV f) ∧ w1.cell? ⟨w.heap.size, 5, none⟩ = some (strV g) := ⟨HK1.out.cell (i := 0) (by simp), HK1.out.cell (i := 1) (by simp), HK1.out.cell (i := 2) (by simp), HK1.out.cell (i := 3) (by simp), HK1.out.cell (i := 4) (by simp), HK1.out.cell (i := 5) (by simp)⟩)
        | (go_at_call 90; with_reducible refine (HS.out _).mono ?_; rintro e w2 ⟨rfl, hb2⟩; have HK2 := Lib.hid (HK1.out.below hb2 HK1.out.lt); have HB2 := Lib.hid (HB1.out.trans (hb2.mono (Nat.le_of_lt HK1.out.lt))); clear hb2; have y2_2 := HK2.out.cell (i := 2) (by simp); have hS2 : w2.cell? ⟨w.heap.size, 0, none⟩ = some (strV a) ∧ w2.cell? ⟨w.heap.size, 1, none⟩ = some (strV b) ∧ w2.cell? ⟨w.heap.size, 2, none⟩ = some (strV c) ∧ w2.cell? ⟨w.heap.size, 3, none⟩ = some (strV d) ∧ w2.cell? ⟨w.heap.size, 4, none⟩ = some (strV f) ∧ w2.cell? ⟨w.heap.size, 5, none⟩ = some (strV g) := ⟨HK2.out.cell (i := 0) (by simp), HK2.out.cell (i := 1) (by simp), HK2.out.cell (i := 2) (by simp), HK2.out.cell (i := 3) (by simp), HK2.out.cell (i := 4) (by simp), HK2.out.cell (i := 5) (by simp)⟩))
    go_wp2_with fail
    go_ret
    exact ⟨rfl, HB2.out⟩
  have n1 := nonempty h1
  cases gc : nameL c
  · rw [if_pos (.inr (.inr gc))] at hv2
    rw [gc] at hN
    subst hv2
    have HN := Lib.hid hN
    clear hN gc
    go_enter Tryz.func56, Tryz.ntmps56
    go_wp2_with fail
    have hS0 : (w.alloc (.cells #[strV a, strV b, strV c, strV d, strV f, strV g] 34)).drew.cell? ⟨w.heap.size, 0, none⟩ = some (strV a) ∧ (w.alloc (.cells #[strV a, strV b, strV c, strV d, strV f, strV g] 34)).drew.cell? ⟨w.heap.size, 1, none⟩ = some (strV b) ∧ (w.alloc (.cells #[strV a, strV b, strV c, strV d, strV f, strV g] 34)).drew.cell? ⟨w.heap.size, 2, none⟩ = some (strV c) ∧ (w.alloc (.cells #[strV a, strV b, strV c, strV d, strV f, strV g] 34)).drew.cell? ⟨w.heap.size, 3, none⟩ = some (strV d) ∧ (w.alloc (.cells #[strV a, strV b, strV c, strV d, strV f, strV g] 34)).drew.cell? ⟨w.heap.size, 4, none⟩ = some (strV f) ∧ (w.alloc (.cells #[strV a, strV b, strV c, strV d, strV f, strV g] 34)).drew.cell? ⟨w.heap.size, 5, none⟩ = some (strV g) := ⟨HK0.out.cell (i := 0) (by simp), HK0.out.cell (i := 1) (by simp), HK0.out.cell (i := 2) (by simp), HK0.out.cell (i := 3) (by simp), HK0.out.cell (i := 4) (by simp), HK0.out.cell (i := 5) (by simp)⟩
    go_region_held_law (fun w' => w'.cell? ⟨w.heap.size, 0, none⟩ = some (strV a) ∧ w'.cell? ⟨w.heap.size, 1, none⟩ = some (strV b) ∧ w'.cell? ⟨w.heap.size, 2, none⟩ = some (strV c) ∧ w'.cell? ⟨w.heap.size, 3, none⟩ = some (strV d) ∧ w'.cell? ⟨w.heap.size, 4, none⟩ = some (strV f) ∧ w'.cell? ⟨w.heap.size, 5, none⟩ = some (strV g))
      (with_reducible assumption)
      (first
        | (go_at_call 89; with_reducible refine (HO.out _).mono ?_; rintro e w1 ⟨rfl, hb1⟩; have HK1 := Lib.hid (HK0.out.drew.below hb1 HK0.out.drew.lt); have HB1 := Lib.hid (HB0.out.drew.trans (hb1.mono (Nat.le_of_lt HK0.out.drew.lt))); clear hb1; have hS1 : w1.cell? ⟨w.heap.size, 0, none⟩ = some (strV a) ∧ w1.cell? ⟨w.heap.size, 1, none⟩ = some (strV b) ∧ w1.cell? ⟨w.heap.size, 2, none⟩ = some (strV c) ∧ w1.cell? ⟨w.heap.size, 3, none⟩ = some (strV d) ∧ w1.cell? ⟨w.heap.size, 4, none⟩ = some (strV f) ∧ w1.cell? ⟨w.heap.size, 5, none⟩ = some (strV g) := ⟨HK1.out.cell (i := 0) (by simp), HK1.out.cell (i := 1) (by simp), HK1.out.cell (i := 2) (by simp), HK1.out.cell (i := 3) (by simp), HK1.out.cell (i := 4) (by simp), HK1.out.cell (i := 5) (by simp)⟩)
        | (go_at_call 90; with_reducible refine (HS.out _).mono ?_; rintro e w2 ⟨rfl, hb2⟩; have HK2 := Lib.hid (HK1.out.below hb2 HK1.out.lt); have HB2 := Lib.hid (HB1.out.trans (hb2.mono (Nat.le_of_lt HK1.out.lt))); clear hb2; have y2_2 := HK2.out.cell (i := 2) (by simp); have hS2 : w2.cell? ⟨w.heap.size, 0, none⟩ = some (strV a) ∧ w2.cell? ⟨w.heap.size, 1, none⟩ = some (strV b) ∧ w2.cell? ⟨w.heap.size, 2, none⟩ = some (strV c) ∧ w2.cell? ⟨w.heap.size, 3, none⟩ = some (strV d) ∧ w2.cell? ⟨w.heap.size, 4, none⟩ = some (strV f) ∧ w2.cell? ⟨w.heap.size, 5, none⟩ = some (strV g) := ⟨HK2.out.cell (i := 0) (by simp), HK2.out.cell (i := 1) (by simp), HK2.out.cell (i := 2) (by simp), HK2.out.cell (i := 3) (by simp), HK2.out.cell (i := 4) (by simp), HK2.out.cell (i := 5) (by simp)⟩))
    go_wp2_with (first
      | (go_at_call 91; with_reducible refine (HN.out _).mono ?_; rintro e w3 ⟨rfl, hb3⟩; have HK3 := Lib.hid (HK2.out.below hb3 HK2.out.lt); have HB3 := Lib.hid (HB2.out.trans (hb3.mono (Nat.le_of_lt HK2.out.lt))); clear hb3))
    go_ret
    exact ⟨rfl, HB3.out⟩
  have hC := (nameL_len gc).2
  rw [gc] at hN hv2
  have HN := Lib.hid hN
  clear hN gc
  by_cases h2 : U = []
  · rw [if_pos (.inr (.inl h2))] at hv2
    subst hv2 h2
    go_enter Tryz.func56, Tryz.ntmps56
    go_wp2_with fail
    have hS0 : (w.alloc (.cells #[strV a, strV b, strV c, strV d, strV f, strV g] 34)).drew.cell? ⟨w.heap.size, 0, none⟩ = some (strV a) ∧ (w.alloc (.cells #[strV a, strV b, strV c, strV d, strV f, strV g] 34)).drew.cell? ⟨w.heap.size, 1, none⟩ = some (strV b) ∧ (w.alloc (.cells #[strV a, strV b, strV c, strV d, strV f, strV g] 34)).drew.cell? ⟨w.heap.size, 2, none⟩ = some (strV c) ∧ (w.alloc (.cells #[strV a, strV b, strV c, strV d, strV f, strV g] 34)).drew.cell? ⟨w.heap.size, 3, none⟩ = some (strV d) ∧ (w.alloc (.cells #[strV a, strV b, strV c, strV d, strV f, strV g] 34)).drew.cell? ⟨w.heap.size, 4, none⟩ = some (strV f) ∧ (w.alloc (.cells #[strV a, strV b, strV c, strV d, strV f, strV g] 34)).drew.cell? ⟨w.heap.size, 5, none⟩ = some (strV g) := ⟨HK0.out.cell (i := 0) (by simp), HK0.out.cell (i := 1) (by simp), HK0.out.cell (i := 2) (by simp), HK0.out.cell (i := 3) (by simp), HK0.out.cell (i := 4) (by simp), HK0.out.cell (i := 5) (by simp)⟩
    go_region_held_law (fun w' => w'.cell? ⟨w.heap.size, 0, none⟩ = some (strV a) ∧ w'.cell? ⟨w.heap.size, 1, none⟩ = some (strV b) ∧ w'.cell? ⟨w.heap.size, 2, none⟩ = some (strV c) ∧ w'.cell? ⟨w.heap.size, 3, none⟩ = some (strV d) ∧ w'.cell? ⟨w.heap.size, 4, none⟩ = some (strV f) ∧ w'.cell? ⟨w.heap.size, 5, none⟩ = some (strV g))
      (with_reducible assumption)
      (first
        | (go_at_call 89; with_reducible refine (HO.out _).mono ?_; rintro e w1 ⟨rfl, hb1⟩; have HK1 := Lib.hid (HK0.out.drew.below hb1 HK0.out.drew.lt); have HB1 := Lib.hid (HB0.out.drew.trans (hb1.mono (Nat.le_of_lt HK0.out.drew.lt))); clear hb1; have hS1 : w1.cell? ⟨w.heap.size, 0, none⟩ = some (strV a) ∧ w1.cell? ⟨w.heap.size, 1, none⟩ = some (strV b) ∧ w1.cell? ⟨w.heap.size, 2, none⟩ = some (strV c) ∧ w1.cell? ⟨w.heap.size, 3, none⟩ = some (strV d) ∧ w1.cell? ⟨w.heap.size, 4, none⟩ = some (strV f) ∧ w1.cell? ⟨w.heap.size, 5, none⟩ = some (strV g) := ⟨HK1.out.cell (i := 0) (by simp), HK1.out.cell (i := 1) (by simp), HK1.out.cell (i := 2) (by simp), HK1.out.cell (i := 3) (by simp), HK1.out.cell (i := 4) (by simp), HK1.out.cell (i := 5) (by simp)⟩)
        | (go_at_call 90; with_reducible refine (HS.out _).mono ?_; rintro e w2 ⟨rfl, hb2⟩; have HK2 := Lib.hid (HK1.out.below hb2 HK1.out.lt); have HB2 := Lib.hid (HB1.out.trans (hb2.mono (Nat.le_of_lt HK1.out.lt))); clear hb2; have y2_2 := HK2.out.cell (i := 2) (by simp); have hS2 : w2.cell? ⟨w.heap.size, 0, none⟩ = some (strV a) ∧ w2.cell? ⟨w.heap.size, 1, none⟩ = some (strV b) ∧ w2.cell? ⟨w.heap.size, 2, none⟩ = some (strV c) ∧ w2.cell? ⟨w.heap.size, 3, none⟩ = some (strV d) ∧ w2.cell? ⟨w.heap.size, 4, none⟩ = some (strV f) ∧ w2.cell? ⟨w.heap.size, 5, none⟩ = some (strV g) := ⟨HK2.out.cell (i := 0) (by simp), HK2.out.cell (i := 1) (by simp), HK2.out.cell (i := 2) (by simp), HK2.out.cell (i := 3) (by simp), HK2.out.cell (i := 4) (by simp), HK2.out.cell (i := 5) (by simp)⟩))
    go_wp2_with (first
      | (go_at_call 91; with_reducible refine (HN.out _).mono ?_; rintro e w3 ⟨rfl, hb3⟩; have HK3 := Lib.hid (HK2.out.below hb3 HK2.out.lt); have HB3 := Lib.hid (HB2.out.trans (hb3.mono (Nat.le_of_lt HK2.out.lt))); clear hb3))
    go_ret
    exact ⟨rfl, HB3.out⟩
  have n2 := nonempty h2
  rw [if_neg (fun h => h.elim h1 (fun h => h.elim h2 (fun h => Bool.noConfusion h)))] at hv2
  obtain ⟨X1, hX1⟩ : ∃ X1, X1 = T ++ [35] := ⟨_, rfl⟩
  obtain ⟨X2, hX2⟩ : ∃ X2, X2 = X1 ++ c := ⟨_, rfl⟩
  obtain ⟨X3, hX3⟩ : ∃ X3, X3 = X2 ++ [64] := ⟨_, rfl⟩
  rw [← hX1, ← hX2, ← hX3] at hv2
  have l1 : X1.length ≤ 42 := by rw [hX1]; simp; omega
  have l2 : X2.length ≤ 58 := by rw [hX2]; simp; omega
  have l3 : X3.length ≤ 59 := by rw [hX3]; simp; omega
  have J1 : ∀ W, (Op.stringOp .add ⟨T.toArray⟩ ⟨#[35]⟩).run Tryz.prog W = .ok (strV X1) W := fun W => by rw [hX1]; exact plus T [35] (by omega) (by simp) W
  have J2 : ∀ W, (Op.stringOp .add ⟨X1.toArray⟩ ⟨c.toArray⟩).run Tryz.prog W = .ok (strV X2) W := fun W => by rw [hX2]; exact plus X1 c (by omega) (by omega) W
  have J3 : ∀ W, (Op.stringOp .add ⟨X2.toArray⟩ ⟨#[64]⟩).run Tryz.prog W = .ok (strV X3) W := fun W => by rw [hX3]; exact plus X2 [64] (by omega) (by simp) W
  have J4 : ∀ W, (Op.stringOp .add ⟨X3.toArray⟩ ⟨U.toArray⟩).run Tryz.prog W = .ok (strV v) W := fun W => by rw [hv2]; exact plus X3 U (by omega) (by omega) W
  clear hX1 hX2 hX3 hv2 l1 l2 l3 hC h1 h2
  go_enter Tryz.func56, Tryz.ntmps56
  go_wp2_with fail
  have hS0 : (w.alloc (.cells #[strV a, strV b, strV c, strV d, strV f, strV g] 34)).drew.cell? ⟨w.heap.size, 0, none⟩ = some (strV a) ∧ (w.alloc (.cells #[strV a, strV b, strV c, strV d, strV f, strV g] 34)).drew.cell? ⟨w.heap.size, 1, none⟩ = some (strV b) ∧ (w.alloc (.cells #[strV a, strV b, strV c, strV d, strV f, strV g] 34)).drew.cell? ⟨w.heap.size, 2, none⟩ = some (strV c) ∧ (w.alloc (.cells #[strV a, strV b, strV c, strV d, strV f, strV g] 34)).drew.cell? ⟨w.heap.size, 3, none⟩ = some (strV d) ∧ (w.alloc (.cells #[strV a, strV b, strV c, strV d, strV f, strV g] 34)).drew.cell? ⟨w.heap.size, 4, none⟩ = some (strV f) ∧ (w.alloc (.cells #[strV a, strV b, strV c, strV d, strV f, strV g] 34)).drew.cell? ⟨w.heap.size, 5, none⟩ = some (strV g) := ⟨HK0.out.cell (i := 0) (by simp), HK0.out.cell (i := 1) (by simp), HK0.out.cell (i := 2) (by simp), HK0.out.cell (i := 3) (by simp), HK0.out.cell (i := 4) (by simp), HK0.out.cell (i := 5) (by simp)⟩
  go_region_held_law (fun w' => w'.cell? ⟨w.heap.size, 0, none⟩ = some (strV a) ∧ w'.cell? ⟨w.heap.size, 1, none⟩ = some (strV b) ∧ w'.cell? ⟨w.heap.size, 2, none⟩ = some (strV c) ∧ w'.cell? ⟨w.heap.size, 3, none⟩ = some (strV d) ∧ w'.cell? ⟨w.heap.size, 4, none⟩ = some (strV f) ∧ w'.cell? ⟨w.heap.size, 5, none⟩ = some (strV g))
    (with_reducible assumption)
    (first
      | (go_at_call 89; with_reducible refine (HO.out _).mono ?_; rintro e w1 ⟨rfl, hb1⟩; have HK1 := Lib.hid (HK0.out.drew.below hb1 HK0.out.drew.lt); have HB1 := Lib.hid (HB0.out.drew.trans (hb1.mono (Nat.le_of_lt HK0.out.drew.lt))); clear hb1; have hS1 : w1.cell? ⟨w.heap.size, 0, none⟩ = some (strV a) ∧ w1.cell? ⟨w.heap.size, 1, none⟩ = some (strV b) ∧ w1.cell? ⟨w.heap.size, 2, none⟩ = some (strV c) ∧ w1.cell? ⟨w.heap.size, 3, none⟩ = some (strV d) ∧ w1.cell? ⟨w.heap.size, 4, none⟩ = some (strV f) ∧ w1.cell? ⟨w.heap.size, 5, none⟩ = some (strV g) := ⟨HK1.out.cell (i := 0) (by simp), HK1.out.cell (i := 1) (by simp), HK1.out.cell (i := 2) (by simp), HK1.out.cell (i := 3) (by simp), HK1.out.cell (i := 4) (by simp), HK1.out.cell (i := 5) (by simp)⟩)
      | (go_at_call 90; with_reducible refine (HS.out _).mono ?_; rintro e w2 ⟨rfl, hb2⟩; have HK2 := Lib.hid (HK1.out.below hb2 HK1.out.lt); have HB2 := Lib.hid (HB1.out.trans (hb2.mono (Nat.le_of_lt HK1.out.lt))); clear hb2; have y2_2 := HK2.out.cell (i := 2) (by simp); have hS2 : w2.cell? ⟨w.heap.size, 0, none⟩ = some (strV a) ∧ w2.cell? ⟨w.heap.size, 1, none⟩ = some (strV b) ∧ w2.cell? ⟨w.heap.size, 2, none⟩ = some (strV c) ∧ w2.cell? ⟨w.heap.size, 3, none⟩ = some (strV d) ∧ w2.cell? ⟨w.heap.size, 4, none⟩ = some (strV f) ∧ w2.cell? ⟨w.heap.size, 5, none⟩ = some (strV g) := ⟨HK2.out.cell (i := 0) (by simp), HK2.out.cell (i := 1) (by simp), HK2.out.cell (i := 2) (by simp), HK2.out.cell (i := 3) (by simp), HK2.out.cell (i := 4) (by simp), HK2.out.cell (i := 5) (by simp)⟩))
  go_wp2_with (first
    | (go_at_call 91; with_reducible refine (HN.out _).mono ?_; rintro e w3 ⟨rfl, hb3⟩; have HK3 := Lib.hid (HK2.out.below hb3 HK2.out.lt); have HB3 := Lib.hid (HB2.out.trans (hb3.mono (Nat.le_of_lt HK2.out.lt))); clear hb3; have y3_2 := HK3.out.cell (i := 2) (by simp)))
  go_ret
  exact ⟨rfl, HB3.out⟩
end Go.Proofs.YtehabjiacgibpaaGreat
namespace Go.Proofs.YtehabjiacgibpaaGreat
open Go.RowKit
set_option maxRecDepth 100000 in
set_option maxHeartbeats 1000000 in
theorem isTuple_any (t : Tup) (w : World) (ht : ∀ x ∈ six t, x.length ≤ 9223372036854775807) :
    Calls Tryz.prog 35 #[.agg ((six t).map strV).toArray] w fun e w' => e = .returned (.bool (decide (showT t ≠ []))) ∧ Below w.heap.size w w' := by
  obtain ⟨a, b, c, d, f, g⟩ := t
  show Calls _ _ #[.agg #[strV a, strV b, strV c, strV d, strV f, strV g]] _ _
  obtain ⟨w1, hw1⟩ : ∃ w1, w1 = w.alloc (.cells #[strV a, strV b, strV c, strV d, strV f, strV g] 34) := ⟨_, rfl⟩
  have hb1 : Below w.heap.size w w1 := by rw [hw1]; exact (Below.refl _ _).alloc (Nat.le_refl _) _
  have H := Lib.hid (showTuple_any a b c d f g w1 (ht a (by simp [six])) (ht b (by simp [six])) (ht c (by simp [six])) (ht d (by simp [six])) (ht f (by simp [six])) (ht g (by simp [six])))
  have HW := Lib.hid hw1
  have HB := Lib.hid hb1
  clear hw1 hb1 ht
  generalize showT (a, b, c, d, f, g) = s at *
  by_cases hs : s = []
  · subst hs
    go_enter Tryz.func35, Tryz.ntmps35
    go_wp2_with (go_at_call 56; rw [← HW.out]; refine H.out.mono ?_; rintro e w2 ⟨rfl, hb2⟩; have HB2 := Lib.hid (HB.out.trans (hb2.mono HB.out.size)); clear hb2)
    go_ret
    exact ⟨by simp, HB2.out⟩
  · have h2 : s.isEmpty = false := by cases s <;> simp_all
    go_enter Tryz.func35, Tryz.ntmps35
    go_wp2_with (go_at_call 56; rw [← HW.out]; refine H.out.mono ?_; rintro e w2 ⟨rfl, hb2⟩; have HB2 := Lib.hid (HB.out.trans (hb2.mono HB.out.size)); clear hb2)
    go_ret
    exact ⟨by simp [hs], HB2.out⟩
theorem ref_eql (x y : Rf) (w : World) : (binOp .eql 85 (.agg #[strV x.1, strV x.2]) (.agg #[strV y.1, strV y.2])).run Tryz.prog w = .ok (.bool (decide (x = y))) w := by
  obtain ⟨a, b⟩ := x
  obtain ⟨c, d⟩ := y
  simp [go_sem]
  by_cases h1 : a = c
  · by_cases h2 : b = d <;> simp [h1, h2]
  · simp [h1]
set_option maxRecDepth 100000 in
set_option maxHeartbeats 2000000 in
theorem indexRef_any (x : Rf) (l : List Rf) (c : Nat) (W : World) (F : Nat → Prop) (A : Option Addr) (h : RowAt 2 RfAt W F A l) (hl : l.length ≤ 9223372036854775807) :
    Calls Tryz.prog 60 #[.slice A l.length c, .agg #[strV x.1, strV x.2]] W fun e w' => e = .returned (.int .i64 (atN (fun r => decide (x = r)) l 0)) ∧ Below W.heap.size W w' := by
  obtain ⟨v, hv⟩ : ∃ v, v = atN (fun r => decide (x = r)) l 0 := ⟨_, rfl⟩
  rw [← hv]
  have HV := Lib.hid hv
  have HR := Lib.hid h
  have hbx := (Below.refl W.heap.size W).alloc (Nat.le_refl _) (.cells #[strV x.1, strV x.2] 85)
  have HBX := Lib.hid hbx
  have HKX := Lib.hid (Blk.new W [strV x.1, strV x.2] 85)
  clear hv h hbx
  go_enter Tryz.func60, Tryz.ntmps60
  go_wp2_with fail
  go_loopw [8] (fun i wr => ∃ j : Nat, j ≤ l.length ∧ i = .int .i64 (j : Int) ∧ Hid (v = atN (fun r => decide (x = r)) (l.drop j) j) ∧ Hid (Below (W.alloc (.cells #[strV x.1, strV x.2] 85)).heap.size (W.alloc (.cells #[strV x.1, strV x.2] 85)) wr)) (fun i _ => l.length - (intOf i).toNat)
  case atStart => exact ⟨0, by omega, rfl, HV.out, Below.refl _ _⟩
  case round =>
    clear HV
    obtain ⟨j, hj, rfl, HV, BW⟩ := hrel
    by_cases hlt : j < l.length
    · have hd := atN_drop (p := fun r => decide (x = r)) hlt
      have HD : Hid (v = if decide (x = l[j]) then (j : Int) else atN (fun r => decide (x = r)) (l.drop (j + 1)) (j + 1)) := Lib.hid (HV.out.trans hd)
      clear hd
      have hbe := HBX.out.trans (BW.out.mono HBX.out.size)
      have hk := HKX.out.below BW.out HKX.out.lt
      have z0 := hk.cell (i := 0) (by simp)
      have z1 := hk.cell (i := 1) (by simp)
      simp only [List.getElem_cons_succ, List.getElem_cons_zero] at z0 z1
      obtain ⟨b, off, rfl, hc⟩ := RowAt.pair HR.out hlt
      obtain ⟨y0, y1⟩ := hc wr hbe
      have he := ref_eql x l[j]
      generalize l[j] = y at *
      clear hbe hk hc
      cases hq : decide (x = y) with
      | true =>
        rw [hq] at he
        have HD2 : Hid (v = (j : Int)) := Lib.hid (by have := HD.out; rw [hq, if_pos rfl] at this; exact this)
        clear hq
        go_wp2_with fail
        go_quiet (fail)
        go_wp2_with fail
        go_ret
        exact ⟨by rw [HD2.out]; rfl, below_drewN (HBX.out.trans (BW.out.mono HBX.out.size)) _⟩
      | false =>
        rw [hq] at he
        have HD2 : Hid (v = atN (fun r => decide (x = r)) (l.drop (j + 1)) (j + 1)) := Lib.hid (by have := HD.out; rw [hq, if_neg (by decide)] at this; exact this)
        clear hq
        go_wp2_with fail
        go_quiet (fail)
        go_wp2_with fail
        go_roundw
        case rel => exact ⟨j + 1, by omega, by go_num, HD2, below_drewN BW.out _⟩
        case measure => simp [intOf]; omega
    · obtain rfl : j = l.length := by omega
      have HE : Hid (v = -1) := Lib.hid (by have := HV.out; rw [List.drop_length, atN] at this; exact this)
      go_wp2_with fail
      go_ret
      exact ⟨by rw [HE.out]; rfl, HBX.out.trans (BW.out.mono HBX.out.size)⟩
end Go.Proofs.YtehabjiacgibpaaGreat
namespace Go.Proofs.YtehabjiacgibpaaGreat
open Go.RowKit
set_option maxRecDepth 100000 in
set_option maxHeartbeats 1000000 in
theorem object_any (a b : Txt) (w : World) : Calls Tryz.prog 103 #[strV a, strV b] w fun e w' => e = .returned (.agg #[strV a, strV b]) ∧ Below w.heap.size w w' := by
  go_enter Tryz.func103, Tryz.ntmps103
  go_wp2_with fail
  refine bodyPost_ret (v := .agg #[strV a, strV b]) (by simp [results, Tryz.results103, go_sem]) rfl ?_
  exact ⟨rfl, (Below.refl _ _).alloc (Nat.le_refl _) _⟩
end Go.Proofs.YtehabjiacgibpaaGreat
