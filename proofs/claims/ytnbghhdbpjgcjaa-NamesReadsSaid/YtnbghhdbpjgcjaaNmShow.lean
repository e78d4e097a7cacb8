/-
  What the document's ShowObject, ShowSubject and ShowTuple come to. Condition: a string's length fits an int.
-/
import Derived.Test.YtnbghhdbpjgcjaaNmTup
namespace Go.Proofs.Ytnbghhdbpjgcjaa
open Go.RowKit

/-- s + t -/
theorem plus (a b : List UInt8) (ha : a.length ≤ 1000000) (hb : b.length ≤ 1000000) (w : World) :
    (Op.stringOp .add ⟨a.toArray⟩ ⟨b.toArray⟩).run Try.prog w = .ok (strV (a ++ b)) w := by
  have e : (⟨a.toArray⟩ : ByteArray) ++ ⟨b.toArray⟩ = ⟨(a ++ b).toArray⟩ := by
    apply ByteArray.ext
    simp
  have hs : ¬ ((((⟨a.toArray⟩ : ByteArray).size + (⟨b.toArray⟩ : ByteArray).size : Nat) : Int) > IntKind.i64.max) := by
    have h1 : (⟨a.toArray⟩ : ByteArray).size = a.length := by simp [ByteArray.size]
    have h2 : (⟨b.toArray⟩ : ByteArray).size = b.length := by simp [ByteArray.size]
    rw [h1, h2]
    have : IntKind.i64.max = 9223372036854775807 := by decide
    omega
  unfold Op.stringOp
  simp only [if_neg hs, e]
  rfl
theorem nonempty {l : Txt} (h : l ≠ []) : List.isEmpty l = false := by
  cases l
  · exact absurd rfl h
  · rfl
def showO (a b : Txt) : Txt := if nameL a && idL b then a ++ ([58] ++ b) else []
theorem nameL_len {l : Txt} (h : nameL l = true) : 0 < l.length ∧ l.length ≤ 16 := by
  unfold nameL at h
  simp only [Bool.and_eq_true, Bool.not_eq_true', decide_eq_false_iff_not] at h
  have h1 := h.1
  unfold nameBad at h1
  omega
theorem idL_len {l : Txt} (h : idL l = true) : 0 < l.length ∧ l.length ≤ 24 := by
  unfold idL at h
  simp only [Bool.and_eq_true, Bool.not_eq_true', decide_eq_false_iff_not] at h
  omega
set_option maxHeartbeats 800000 in
theorem refShowObject_any (a b : Txt) (w : World) (ha : a.length ≤ 9223372036854775807) (hb : b.length ≤ 9223372036854775807) :
    Calls Try.prog 24 #[.agg #[strV a, strV b]] w fun e w' =>
      e = .returned (strV (showO a b)) ∧ Below w.heap.size w w' := by
  have hN := fun W => refName_txt a W ha
  have hI := fun W => refID_txt b W hb
  by_cases hg : nameL a = true ∧ idL b = true
  · obtain ⟨g1, g2⟩ := hg
    have hA := (nameL_len g1).2
    have hB := (idL_len g2).2
    have e1 : showO a b = a ++ [58] ++ b := by unfold showO; rw [g1, g2]; simp
    obtain ⟨c, hc⟩ : ∃ c, c = a ++ [58] := ⟨_, rfl⟩
    obtain ⟨d, hd⟩ : ∃ d, d = c ++ b := ⟨_, rfl⟩
    have hJ1 := fun W => plus a [58] (by omega) (by simp) W
    have hJ2 := fun W => plus c b (by rw [hc]; simp; omega) (by omega) W
    rw [← hc] at e1
    simp only [← hc] at hJ1
    have J1 : ∀ W, (Op.stringOp .add ⟨a.toArray⟩ ⟨#[58]⟩).run Try.prog W = .ok (strV c) W := hJ1
    rw [← hd] at e1
    simp only [← hd] at hJ2
    rw [e1]
    rw [g1] at hN
    rw [g2] at hI
    have HN := Lib.hid hN
    have HI := Lib.hid hI
    clear hN hI g1 g2 e1 hc hd hA hB hJ1
    go_enter Try.func24, Try.ntmps24
    go_wp2_with (first
      | (go_at_call 10; with_reducible refine (HN.out _).mono ?_; rintro e w2 ⟨rfl, rfl⟩)
      | (go_at_call 12; with_reducible refine (HI.out _).mono ?_; rintro e w3 ⟨rfl, rfl⟩))
    go_ret
    exact ⟨rfl, (Below.refl w.heap.size w).alloc (Nat.le_refl _) _⟩
  · have e1 : showO a b = [] := by
      unfold showO; rw [if_neg (by simpa using hg)]
    rw [e1]
    have hcase : nameL a = false ∨ (nameL a = true ∧ idL b = false) := by
      cases h1 : nameL a
      · exact .inl rfl
      · refine .inr ⟨rfl, ?_⟩
        cases h2 : idL b
        · rfl
        · exact absurd ⟨h1, h2⟩ hg
    clear hg e1
    generalize nameL a = x at *
    generalize idL b = y at *
    have HN := Lib.hid hN
    have HI := Lib.hid hI
    clear hN hI
    rcases hcase with rfl | ⟨rfl, rfl⟩
    all_goals go_enter Try.func24, Try.ntmps24
    all_goals go_wp2_with (first
      | (go_at_call 10; with_reducible refine (HN.out _).mono ?_; rintro e w2 ⟨rfl, rfl⟩)
      | (go_at_call 12; with_reducible refine (HI.out _).mono ?_; rintro e w3 ⟨rfl, rfl⟩))
    all_goals go_ret
    all_goals exact ⟨rfl, (Below.refl w.heap.size w).alloc (Nat.le_refl _) _⟩

theorem showO_len (a b : Txt) : (showO a b).length ≤ 41 := by
  unfold showO
  by_cases h : (nameL a && idL b) = true
  · rw [if_pos h]
    rw [Bool.and_eq_true] at h
    have h1 := (nameL_len h.1).2
    have h2 := (idL_len h.2).2
    simp; omega
  · rw [if_neg h]; simp
def showS (a b r : Txt) : Txt := if showO a b = [] ∨ r = [] then showO a b else if nameL r then showO a b ++ ([35] ++ r) else []
set_option maxHeartbeats 800000 in
theorem refShowSubject_any (a b r : Txt) (w : World) (ha : a.length ≤ 9223372036854775807) (hb : b.length ≤ 9223372036854775807) (hr : r.length ≤ 9223372036854775807) :
    Calls Try.prog 23 #[.agg #[strV a, strV b, strV r]] w fun e w' =>
      e = .returned (strV (showS a b r)) ∧ Below w.heap.size w w' := by
  have hO := fun W => refShowObject_any a b W ha hb
  have hN := fun W => refName_txt r W hr
  have hT := showO_len a b
  unfold showS
  generalize showO a b = T at *
  obtain ⟨y, hyy⟩ : ∃ y, y = nameL r := ⟨_, rfl⟩
  have hy : y = true → nameL r = true := fun h => by rw [← hyy]; exact h
  rw [← hyy] at hN ⊢
  clear hyy
  by_cases h1 : T = []
  · subst h1
    rw [if_pos (.inl rfl)]
    have HO := Lib.hid hO
    have HN := Lib.hid hN
    clear hO hN
    go_enter Try.func23, Try.ntmps23
    go_wp2_with (first
      | (go_at_call 24; with_reducible refine (HO.out _).mono ?_; rintro e w1 ⟨rfl, hb1⟩; have hbk := (Blk.new w [strV a, strV b, strV r] 29).below hb1 (by simp); have y2 := hbk.cell (i := 2) (by simp); have HB1 := Lib.hid (((Below.refl w.heap.size w).alloc (Nat.le_refl _) _).trans (hb1.mono (by simp))); clear hb1 hbk)
      | (go_at_call 10; with_reducible refine (HN.out _).mono ?_; rintro e w2 ⟨rfl, rfl⟩))
    go_ret
    exact ⟨rfl, HB1.out⟩
  have e1 := nonempty h1
  by_cases h2 : r = []
  · have e2 : List.isEmpty r = true := by rw [h2]; rfl
    rw [if_pos (.inr h2)]
    have HO := Lib.hid hO
    have HN := Lib.hid hN
    clear hO hN hy h2
    go_enter Try.func23, Try.ntmps23
    go_wp2_with (first
      | (go_at_call 24; with_reducible refine (HO.out _).mono ?_; rintro e w1 ⟨rfl, hb1⟩; have hbk := (Blk.new w [strV a, strV b, strV r] 29).below hb1 (by simp); have y2 := hbk.cell (i := 2) (by simp); have HB1 := Lib.hid (((Below.refl w.heap.size w).alloc (Nat.le_refl _) _).trans (hb1.mono (by simp))); clear hb1 hbk)
      | (go_at_call 10; with_reducible refine (HN.out _).mono ?_; rintro e w2 ⟨rfl, rfl⟩))
    go_ret
    exact ⟨rfl, HB1.out⟩
  have e2 := nonempty h2
  rw [if_neg (fun h => h.elim h1 h2)]
  cases y
  · rw [if_neg (by decide)]
    have HO := Lib.hid hO
    have HN := Lib.hid hN
    clear hO hN hy
    go_enter Try.func23, Try.ntmps23
    go_wp2_with (first
      | (go_at_call 24; with_reducible refine (HO.out _).mono ?_; rintro e w1 ⟨rfl, hb1⟩; have hbk := (Blk.new w [strV a, strV b, strV r] 29).below hb1 (by simp); have y2 := hbk.cell (i := 2) (by simp); have HB1 := Lib.hid (((Below.refl w.heap.size w).alloc (Nat.le_refl _) _).trans (hb1.mono (by simp))); clear hb1 hbk)
      | (go_at_call 10; with_reducible refine (HN.out _).mono ?_; rintro e w2 ⟨rfl, rfl⟩))
    go_ret
    exact ⟨rfl, HB1.out⟩
  · rw [if_pos rfl]
    have hR := (nameL_len (hy rfl)).2
    obtain ⟨c, hc⟩ : ∃ c, c = T ++ [35] := ⟨_, rfl⟩
    obtain ⟨d, hd⟩ : ∃ d, d = c ++ r := ⟨_, rfl⟩
    have J1 : ∀ W, (Op.stringOp .add ⟨T.toArray⟩ ⟨#[35]⟩).run Try.prog W = .ok (strV c) W := fun W => by rw [hc]; exact plus T [35] (by omega) (by simp) W
    have J2 : ∀ W, (Op.stringOp .add ⟨c.toArray⟩ ⟨r.toArray⟩).run Try.prog W = .ok (strV d) W := fun W => by rw [hd]; exact plus c r (by rw [hc]; simp; omega) (by omega) W
    have e3 : T ++ ([35] ++ r) = d := by rw [hd, hc, List.append_assoc]
    rw [e3]
    have HO := Lib.hid hO
    have HN := Lib.hid hN
    clear hO hN hy hc hd e3 hR
    go_enter Try.func23, Try.ntmps23
    go_wp2_with (first
      | (go_at_call 24; with_reducible refine (HO.out _).mono ?_; rintro e w1 ⟨rfl, hb1⟩; have hbk := (Blk.new w [strV a, strV b, strV r] 29).below hb1 (by simp); have y2 := hbk.cell (i := 2) (by simp); have HB1 := Lib.hid (((Below.refl w.heap.size w).alloc (Nat.le_refl _) _).trans (hb1.mono (by simp))); clear hb1 hbk)
      | (go_at_call 10; with_reducible refine (HN.out _).mono ?_; rintro e w2 ⟨rfl, rfl⟩))
    go_ret
    exact ⟨rfl, HB1.out⟩

theorem showS_len (a b r : Txt) : (showS a b r).length ≤ 58 := by
  unfold showS
  have h1 := showO_len a b
  by_cases h : showO a b = [] ∨ r = []
  · rw [if_pos h]; omega
  · rw [if_neg h]
    by_cases h2 : nameL r = true
    · rw [if_pos h2]
      have h3 := (nameL_len h2).2
      simp; omega
    · rw [if_neg h2]; simp
def showT (t : Tup) : Txt := if showO t.1 t.2.1 = [] ∨ showS t.2.2.2.1 t.2.2.2.2.1 t.2.2.2.2.2 = [] ∨ nameL t.2.2.1 = false then [] else
  (showO t.1 t.2.1 ++ [35]) ++ t.2.2.1 ++ [64] ++ showS t.2.2.2.1 t.2.2.2.2.1 t.2.2.2.2.2
set_option maxHeartbeats 800000 in
theorem refShowTuple_any (a b c d f g : Txt) (w : World) (ha : a.length ≤ 9223372036854775807) (hb : b.length ≤ 9223372036854775807) (hc : c.length ≤ 9223372036854775807)
    (hd : d.length ≤ 9223372036854775807) (hf : f.length ≤ 9223372036854775807) (hg : g.length ≤ 9223372036854775807) :
    Calls Try.prog 22 #[.agg #[strV a, strV b, strV c, strV d, strV f, strV g]] w fun e w' =>
      e = .returned (strV (showT (a, b, c, d, f, g))) ∧ Below w.heap.size w w' := by
  have hO := fun W => refShowObject_any a b W ha hb
  have hS := fun W => refShowSubject_any d f g W hd hf hg
  have hN := fun W => refName_txt c W hc
  have hT := showO_len a b
  have hU := showS_len d f g
  unfold showT
  show Calls _ _ _ _ fun e w' => e = .returned (strV (if showO a b = [] ∨ showS d f g = [] ∨ nameL c = false then [] else (showO a b ++ [35]) ++ c ++ [64] ++ showS d f g)) ∧ _
  generalize showO a b = T at *
  generalize showS d f g = U at *
  obtain ⟨y, hyy⟩ : ∃ y, y = nameL c := ⟨_, rfl⟩
  have hy : y = true → nameL c = true := fun h => by rw [← hyy]; exact h
  rw [← hyy] at hN ⊢
  clear hyy
  have HO := Lib.hid hO
  have HN := Lib.hid hN
  have HS := Lib.hid hS
  clear hO hN hS
  by_cases h1 : T = []
  · subst h1
    rw [if_pos (.inl rfl)]
    clear hy
    go_enter Try.func22, Try.ntmps22
    go_wp2_with (first
      | (go_at_call 24; with_reducible refine (HO.out _).mono ?_; rintro e w1 ⟨rfl, hb1⟩; have HK1 := Lib.hid ((Blk.new w [strV a, strV b, strV c, strV d, strV f, strV g] 33).below hb1 (by simp)); have y3 := HK1.out.cell (i := 3) (by simp); have y4 := HK1.out.cell (i := 4) (by simp); have y5 := HK1.out.cell (i := 5) (by simp); have HB1 := Lib.hid (((Below.refl w.heap.size w).alloc (Nat.le_refl _) _).trans (hb1.mono (by simp))); clear hb1)
      | (go_at_call 23; with_reducible refine (HS.out _).mono ?_; rintro e w2 ⟨rfl, hb2⟩; clear y3 y4 y5; have HK2 := Lib.hid (HK1.out.below hb2 HK1.out.lt); have z2 := HK2.out.cell (i := 2) (by simp); have HB2 := Lib.hid (HB1.out.trans (hb2.mono (Nat.le_of_lt HK1.out.lt))); clear hb2 HB1 HK1)
      | (go_at_call 10; with_reducible refine (HN.out _).mono ?_; rintro e w3 ⟨rfl, rfl⟩))
    go_ret
    exact ⟨rfl, HB2.out⟩
  have e1 := nonempty h1
  by_cases h2 : U = []
  · rw [if_pos (.inr (.inl h2))]
    subst h2
    clear hy
    go_enter Try.func22, Try.ntmps22
    go_wp2_with (first
      | (go_at_call 24; with_reducible refine (HO.out _).mono ?_; rintro e w1 ⟨rfl, hb1⟩; have HK1 := Lib.hid ((Blk.new w [strV a, strV b, strV c, strV d, strV f, strV g] 33).below hb1 (by simp)); have y3 := HK1.out.cell (i := 3) (by simp); have y4 := HK1.out.cell (i := 4) (by simp); have y5 := HK1.out.cell (i := 5) (by simp); have HB1 := Lib.hid (((Below.refl w.heap.size w).alloc (Nat.le_refl _) _).trans (hb1.mono (by simp))); clear hb1)
      | (go_at_call 23; with_reducible refine (HS.out _).mono ?_; rintro e w2 ⟨rfl, hb2⟩; clear y3 y4 y5; have HK2 := Lib.hid (HK1.out.below hb2 HK1.out.lt); have z2 := HK2.out.cell (i := 2) (by simp); have HB2 := Lib.hid (HB1.out.trans (hb2.mono (Nat.le_of_lt HK1.out.lt))); clear hb2 HB1 HK1)
      | (go_at_call 10; with_reducible refine (HN.out _).mono ?_; rintro e w3 ⟨rfl, rfl⟩))
    go_ret
    exact ⟨rfl, HB2.out⟩
  have e2 := nonempty h2
  cases y
  · rw [if_pos (.inr (.inr rfl))]
    clear hy
    go_enter Try.func22, Try.ntmps22
    go_wp2_with (first
      | (go_at_call 24; with_reducible refine (HO.out _).mono ?_; rintro e w1 ⟨rfl, hb1⟩; have HK1 := Lib.hid ((Blk.new w [strV a, strV b, strV c, strV d, strV f, strV g] 33).below hb1 (by simp)); have y3 := HK1.out.cell (i := 3) (by simp); have y4 := HK1.out.cell (i := 4) (by simp); have y5 := HK1.out.cell (i := 5) (by simp); have HB1 := Lib.hid (((Below.refl w.heap.size w).alloc (Nat.le_refl _) _).trans (hb1.mono (by simp))); clear hb1)
      | (go_at_call 23; with_reducible refine (HS.out _).mono ?_; rintro e w2 ⟨rfl, hb2⟩; clear y3 y4 y5; have HK2 := Lib.hid (HK1.out.below hb2 HK1.out.lt); have z2 := HK2.out.cell (i := 2) (by simp); have HB2 := Lib.hid (HB1.out.trans (hb2.mono (Nat.le_of_lt HK1.out.lt))); clear hb2 HB1 HK1)
      | (go_at_call 10; with_reducible refine (HN.out _).mono ?_; rintro e w3 ⟨rfl, rfl⟩))
    go_ret
    exact ⟨rfl, HB2.out⟩
  · rw [if_neg (fun h => h.elim h1 (fun h => h.elim h2 (fun h => Bool.noConfusion h)))]
    have hC := (nameL_len (hy rfl)).2
    obtain ⟨X1, hX1⟩ : ∃ X1, X1 = T ++ [35] := ⟨_, rfl⟩
    obtain ⟨X2, hX2⟩ : ∃ X2, X2 = X1 ++ c := ⟨_, rfl⟩
    obtain ⟨X3, hX3⟩ : ∃ X3, X3 = X2 ++ [64] := ⟨_, rfl⟩
    obtain ⟨X4, hX4⟩ : ∃ X4, X4 = X3 ++ U := ⟨_, rfl⟩
    have l1 : X1.length ≤ 42 := by rw [hX1]; simp; omega
    have l2 : X2.length ≤ 58 := by rw [hX2]; simp; omega
    have l3 : X3.length ≤ 59 := by rw [hX3]; simp; omega
    have J1 : ∀ W, (Op.stringOp .add ⟨T.toArray⟩ ⟨#[35]⟩).run Try.prog W = .ok (strV X1) W := fun W => by rw [hX1]; exact plus T [35] (by omega) (by simp) W
    have J2 : ∀ W, (Op.stringOp .add ⟨X1.toArray⟩ ⟨c.toArray⟩).run Try.prog W = .ok (strV X2) W := fun W => by rw [hX2]; exact plus X1 c (by omega) (by omega) W
    have J3 : ∀ W, (Op.stringOp .add ⟨X2.toArray⟩ ⟨#[64]⟩).run Try.prog W = .ok (strV X3) W := fun W => by rw [hX3]; exact plus X2 [64] (by omega) (by simp) W
    have J4 : ∀ W, (Op.stringOp .add ⟨X3.toArray⟩ ⟨U.toArray⟩).run Try.prog W = .ok (strV X4) W := fun W => by rw [hX4]; exact plus X3 U (by omega) (by omega) W
    rw [← hX1, ← hX2, ← hX3, ← hX4]
    clear hy hC hX1 hX2 hX3 hX4 l1 l2 l3
    go_enter Try.func22, Try.ntmps22
    go_wp2_with (first
      | (go_at_call 24; with_reducible refine (HO.out _).mono ?_; rintro e w1 ⟨rfl, hb1⟩; have HK1 := Lib.hid ((Blk.new w [strV a, strV b, strV c, strV d, strV f, strV g] 33).below hb1 (by simp)); have y3 := HK1.out.cell (i := 3) (by simp); have y4 := HK1.out.cell (i := 4) (by simp); have y5 := HK1.out.cell (i := 5) (by simp); have HB1 := Lib.hid (((Below.refl w.heap.size w).alloc (Nat.le_refl _) _).trans (hb1.mono (by simp))); clear hb1)
      | (go_at_call 23; with_reducible refine (HS.out _).mono ?_; rintro e w2 ⟨rfl, hb2⟩; clear y3 y4 y5; have HK2 := Lib.hid (HK1.out.below hb2 HK1.out.lt); have z2 := HK2.out.cell (i := 2) (by simp); have HB2 := Lib.hid (HB1.out.trans (hb2.mono (Nat.le_of_lt HK1.out.lt))); clear hb2 HB1 HK1)
      | (go_at_call 10; with_reducible refine (HN.out _).mono ?_; rintro e w3 ⟨rfl, rfl⟩))
    go_ret
    exact ⟨rfl, HB2.out⟩
end Go.Proofs.Ytnbghhdbpjgcjaa
