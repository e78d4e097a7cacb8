/-
  LangPrints answers true: any schema is printed, may be printed, and any expression is, as the document says. Conditions: they are there.
-/
import Derived.Test.YtpiaiibobjlipaaCLaBack
namespace Go.Proofs.Ytpiaiibobjlipaa
open Go.RowKit
set_option maxRecDepth 100000 in
set_option maxHeartbeats 1000000 in
theorem print_if (s : Sc) (W : World) (F : Nat → Prop) (A : Option Addr) (c : Nat) (hs : ScAt W F A s) (hl : s.length ≤ 9223372036854775807) (hlen : mayS s = true → (scT s).length ≤ 500000) :
    Calls Try.prog 15 #[.agg #[.slice A s.length c]] W fun r w' => r = .returned (strV (printT s)) ∧ Below W.heap.size W w' := by
  by_cases hm : mayS s = true
  · exact print_any s W F A c hs hl (hlen hm)
  obtain ⟨W1, hW⟩ : ∃ W1, W1 = W.alloc (.cells #[.slice A s.length c] 25) := ⟨_, rfl⟩
  have HB0 : Hid (Below W.heap.size W W1) := by rw [hW]; exact Lib.hid ((Below.refl W.heap.size W).alloc (Nat.le_refl _) _)
  have HW := Lib.hid hW
  have HC1 := Lib.hid (may_any s W1 F A c (hs.below HB0.out) hl)
  unfold printT
  rw [if_neg hm]
  have hq : mayS s = false := Bool.eq_false_iff.2 hm
  rw [hq] at HC1
  clear hs hW hm hq hlen
  go_enter Try.func15, Try.ntmps15
  go_wp2_with (go_at_call 17; rw [← HW.out]; with_reducible refine HC1.out.mono ?_; rintro e w2 ⟨rfl, hb2⟩)
  go_ret
  exact ⟨rfl, HB0.out.trans (hb2.mono HB0.out.size)⟩
set_option maxRecDepth 100000 in
set_option maxHeartbeats 1000000 in
theorem pprint_if (s : Sc) (W : World) (F : Nat → Prop) (A : Option Addr) (c : Nat) (hs : ScAt W F A s) (hl : s.length ≤ 9223372036854775807) (hlen : mayS s = true → (scT s).length ≤ 500000) :
    Calls Try.prog 14 #[.agg #[.slice A s.length c]] W fun r w' => r = .returned (strV (printT s)) ∧ Below W.heap.size W w' := by
  by_cases hm : mayS s = true
  · exact pprint_any s W F A c hs hl (hlen hm)
  obtain ⟨W1, hW⟩ : ∃ W1, W1 = W.alloc (.cells #[.slice A s.length c] 25) := ⟨_, rfl⟩
  have HB0 : Hid (Below W.heap.size W W1) := by rw [hW]; exact Lib.hid ((Below.refl W.heap.size W).alloc (Nat.le_refl _) _)
  have HW := Lib.hid hW
  have HC1 := Lib.hid (pmay_any s W1 F A c (hs.below HB0.out) hl)
  unfold printT
  rw [if_neg hm]
  have hq : mayS s = false := Bool.eq_false_iff.2 hm
  rw [hq] at HC1
  clear hs hW hm hq hlen
  go_enter Try.func14, Try.ntmps14
  go_wp2_with (go_at_call 16; rw [← HW.out]; with_reducible refine HC1.out.mono ?_; rintro e w2 ⟨rfl, hb2⟩)
  go_ret
  exact ⟨rfl, HB0.out.trans (hb2.mono HB0.out.size)⟩
set_option maxRecDepth 100000 in
set_option maxHeartbeats 2000000 in
theorem langPrints_walk (s : Sc) (A : Option Addr) (c : Nat) (e : Ex) (cs : List Value) (W : World) (hs : ScAt W noF A s) (hl : s.length ≤ 9223372036854775807) (he : ExAt W noF e cs) :
    Calls Try.prog 4 #[.agg #[.slice A s.length c], .agg cs.toArray] W fun e w' => e = .returned (.bool true) ∧ Below W.heap.size W w' := by
  obtain ⟨k, n, o, ks⟩ := e
  have he' := he
  obtain ⟨E, m, rfl, ⟨_, hn, ho, hkl⟩, _⟩ := he'.row
  show Calls _ _ #[.agg #[.slice A s.length c], .agg #[.int .i64 k, strV n, strV o, .slice E ks.length m]] _ _
  obtain ⟨x, hx⟩ : ∃ x, x = Ex.mk k n o ks := ⟨_, rfl⟩
  rw [← hx] at he
  obtain ⟨W1, hW⟩ : ∃ W1, W1 = (W.alloc (.cells #[.slice A s.length c] 25)).alloc (.cells #[.int .i64 k, strV n, strV o, .slice E ks.length m] 35) := ⟨_, rfl⟩
  have HKA : Hid (Blk W1 W.heap.size [.slice A s.length c] 25) := by rw [hW]; exact Lib.hid ((Blk.new W _ _).alloc _)
  have HKE : Hid (Blk W1 (W.heap.size + 1) [.int .i64 k, strV n, strV o, .slice E ks.length m] 35) := by
    rw [hW]
    have := Blk.new (W.alloc (.cells #[.slice A s.length c] 25)) [.int .i64 k, strV n, strV o, .slice E ks.length m] 35
    rw [World.size_alloc] at this
    exact Lib.hid this
  have HB0 : Hid (Below W.heap.size W W1) := by rw [hW]; exact Lib.hid (((Below.refl _ _).alloc (Nat.le_refl _) _).alloc (by simp) _)
  have HW := Lib.hid hW
  have HX : Hid (∀ w, Below W1.heap.size W1 w → w.cell? ⟨W.heap.size, 0, none⟩ = some (.slice A s.length c) ∧ w.cell? ⟨W.heap.size + 1, 0, none⟩ = some (.int .i64 k) ∧ w.cell? ⟨W.heap.size + 1, 1, none⟩ = some (strV n) ∧ w.cell? ⟨W.heap.size + 1, 2, none⟩ = some (strV o) ∧ w.cell? ⟨W.heap.size + 1, 3, none⟩ = some (.slice E ks.length m)) := Lib.hid (fun w hw => by
    have h1 := HKA.out.below hw HKA.out.lt
    have h2 := HKE.out.below hw HKE.out.lt
    exact ⟨h1.cell (i := 0) (by simp), h2.cell (i := 0) (by simp), h2.cell (i := 1) (by simp), h2.cell (i := 2) (by simp), h2.cell (i := 3) (by simp)⟩)
  have HS : Hid (∀ w, Below W1.heap.size W1 w → ScAt w noF A s) := Lib.hid (fun w hw => hs.below (HB0.out.trans (hw.mono HB0.out.size)))
  have HE : Hid (∀ w, Below W1.heap.size W1 w → ExAt w noF x [.int .i64 k, strV n, strV o, .slice E ks.length m]) := Lib.hid (fun w hw => ExAt.below (HB0.out.trans (hw.mono HB0.out.size)) he)
  have HA := Lib.hid (awake_any W1)
  clear hW hs he he' hx
  go_enter Try.func4, Try.ntmps4
  go_wp2_with fail
  rw [← HW.out]
  refine HA.out.mono ?_
  rintro e w1 ⟨rfl, hb1⟩
  have HB1 := Lib.hid hb1
  obtain ⟨x1, _⟩ := HX.out w1 hb1
  have HF := Lib.hid (few_any s 300 w1 noF A c (HS.out w1 hb1) hl (by omega))
  obtain ⟨q, hq⟩ : ∃ q, fewS s 300 = q := ⟨_, rfl⟩
  rw [hq] at HF
  have HQ := Lib.hid hq
  clear hb1 hq HA
  cases q
  · go_wp2_with fail
    refine HF.out.mono ?_
    rintro e w2 ⟨rfl, hb2⟩
    go_wp2_with fail
    go_ret
    have hb := hop HB1.out hb2
    exact ⟨rfl, HB0.out.trans (hb.mono HB0.out.size)⟩
  go_wp2_with fail
  refine HF.out.mono ?_
  rintro e w2 ⟨rfl, hb2⟩
  have HB2 := Lib.hid (hop HB1.out hb2)
  obtain ⟨x2, y20, y21, y22, y23⟩ := HX.out w2 HB2.out
  have HWT := Lib.hid (weight_any x w2 noF _ 300 (HE.out w2 HB2.out) (by omega))
  have HWT : Hid (Calls Try.prog 13 #[.agg #[.int .i64 k, strV n, strV o, .slice E ks.length m], .int .i64 300] w2 fun e' w' => e' = .returned (.int .i64 (weightE x 300)) ∧ Below w2.heap.size w2 w') := HWT
  have HWH : Hid (weightE x 300 ≠ 0 → heightE x ≤ 1000000) := Lib.hid weight_height
  obtain ⟨p, hp⟩ : ∃ p, weightE x 300 = p := ⟨_, rfl⟩
  rw [hp] at HWT HWH
  clear hb2 hp HF x1
  by_cases hp0 : p = 0
  · subst hp0
    go_wp2_with fail
    refine HWT.out.mono ?_
    rintro e w3 ⟨rfl, hb3⟩
    go_wp2_with fail
    go_ret
    have hb := hop HB2.out hb3
    exact ⟨rfl, HB0.out.trans (hb.mono HB0.out.size)⟩
  have hpz : (p == 0) = false := beq_eq_false_iff_ne.2 hp0
  go_wp2_with fail
  refine HWT.out.mono ?_
  rintro e w3 ⟨rfl, hb3⟩
  have HB3 := Lib.hid (hop HB2.out hb3)
  obtain ⟨x3, y30, y31, y32, y33⟩ := HX.out w3 HB3.out
  clear hb3 x2 y20 y21 y22 y23 HWT
  by_cases hn1 : 100 < n.length
  · have hd : (100 : Int) < (n.length : Int) := by omega
    have hdd : decide (100 < n.length) = true := decide_eq_true hn1
    clear hn1
    go_wp2_with fail
    go_ret
    exact ⟨rfl, HB0.out.trans (HB3.out.mono HB0.out.size)⟩
  have hn2 : (n.length : Int) ≤ 100 := by omega
  have hn3 : decide (100 < n.length) = false := decide_eq_false hn1
  clear hn1
  by_cases ho1 : 100 < o.length
  · have hd : (100 : Int) < (o.length : Int) := by omega
    have hdd : decide (100 < o.length) = true := decide_eq_true ho1
    clear ho1
    go_wp2_with fail
    go_ret
    exact ⟨rfl, HB0.out.trans (HB3.out.mono HB0.out.size)⟩
  have ho2 : (o.length : Int) ≤ 100 := by omega
  have ho3 : decide (100 < o.length) = false := decide_eq_false ho1
  clear ho1
  go_wp2_with fail
  -- the last statement
  have HN : Hid (∀ w w', Below W1.heap.size W1 w → Below w.heap.size w w' → (Below W1.heap.size W1 w' ∧ w'.cell? ⟨W.heap.size, 0, none⟩ = some (.slice A s.length c) ∧ w'.cell? ⟨W.heap.size + 1, 0, none⟩ = some (.int .i64 k) ∧ w'.cell? ⟨W.heap.size + 1, 1, none⟩ = some (strV n) ∧ w'.cell? ⟨W.heap.size + 1, 2, none⟩ = some (strV o) ∧ w'.cell? ⟨W.heap.size + 1, 3, none⟩ = some (.slice E ks.length m))) := Lib.hid (fun w w' h1 h2 => ⟨hop h1 h2, HX.out w' (hop h1 h2)⟩)
  have HC1 : Hid (∀ w, (Below W1.heap.size W1 w ∧ w.cell? ⟨W.heap.size, 0, none⟩ = some (.slice A s.length c) ∧ w.cell? ⟨W.heap.size + 1, 0, none⟩ = some (.int .i64 k) ∧ w.cell? ⟨W.heap.size + 1, 1, none⟩ = some (strV n) ∧ w.cell? ⟨W.heap.size + 1, 2, none⟩ = some (strV o) ∧ w.cell? ⟨W.heap.size + 1, 3, none⟩ = some (.slice E ks.length m)) → Calls Try.prog 14 #[.agg #[.slice A s.length c]] w fun r w' => r = .returned (strV (printT s)) ∧ (Below W1.heap.size W1 w' ∧ w'.cell? ⟨W.heap.size, 0, none⟩ = some (.slice A s.length c) ∧ w'.cell? ⟨W.heap.size + 1, 0, none⟩ = some (.int .i64 k) ∧ w'.cell? ⟨W.heap.size + 1, 1, none⟩ = some (strV n) ∧ w'.cell? ⟨W.heap.size + 1, 2, none⟩ = some (strV o) ∧ w'.cell? ⟨W.heap.size + 1, 3, none⟩ = some (.slice E ks.length m))) := Lib.hid (fun w hw => (pprint_if s w noF A c (HS.out w hw.1) hl (few_text HQ.out)).mono (fun r w' h => ⟨h.1, HN.out w w' hw.1 h.2⟩))
  have HC2 : Hid (∀ w, (Below W1.heap.size W1 w ∧ w.cell? ⟨W.heap.size, 0, none⟩ = some (.slice A s.length c) ∧ w.cell? ⟨W.heap.size + 1, 0, none⟩ = some (.int .i64 k) ∧ w.cell? ⟨W.heap.size + 1, 1, none⟩ = some (strV n) ∧ w.cell? ⟨W.heap.size + 1, 2, none⟩ = some (strV o) ∧ w.cell? ⟨W.heap.size + 1, 3, none⟩ = some (.slice E ks.length m)) → Calls Try.prog 15 #[.agg #[.slice A s.length c]] w fun r w' => r = .returned (strV (printT s)) ∧ (Below W1.heap.size W1 w' ∧ w'.cell? ⟨W.heap.size, 0, none⟩ = some (.slice A s.length c) ∧ w'.cell? ⟨W.heap.size + 1, 0, none⟩ = some (.int .i64 k) ∧ w'.cell? ⟨W.heap.size + 1, 1, none⟩ = some (strV n) ∧ w'.cell? ⟨W.heap.size + 1, 2, none⟩ = some (strV o) ∧ w'.cell? ⟨W.heap.size + 1, 3, none⟩ = some (.slice E ks.length m))) := Lib.hid (fun w hw => (print_if s w noF A c (HS.out w hw.1) hl (few_text HQ.out)).mono (fun r w' h => ⟨h.1, HN.out w w' hw.1 h.2⟩))
  have HC3 : Hid (∀ w, (Below W1.heap.size W1 w ∧ w.cell? ⟨W.heap.size, 0, none⟩ = some (.slice A s.length c) ∧ w.cell? ⟨W.heap.size + 1, 0, none⟩ = some (.int .i64 k) ∧ w.cell? ⟨W.heap.size + 1, 1, none⟩ = some (strV n) ∧ w.cell? ⟨W.heap.size + 1, 2, none⟩ = some (strV o) ∧ w.cell? ⟨W.heap.size + 1, 3, none⟩ = some (.slice E ks.length m)) → Calls Try.prog 16 #[.agg #[.slice A s.length c]] w fun r w' => r = .returned (.bool (mayS s)) ∧ (Below W1.heap.size W1 w' ∧ w'.cell? ⟨W.heap.size, 0, none⟩ = some (.slice A s.length c) ∧ w'.cell? ⟨W.heap.size + 1, 0, none⟩ = some (.int .i64 k) ∧ w'.cell? ⟨W.heap.size + 1, 1, none⟩ = some (strV n) ∧ w'.cell? ⟨W.heap.size + 1, 2, none⟩ = some (strV o) ∧ w'.cell? ⟨W.heap.size + 1, 3, none⟩ = some (.slice E ks.length m))) := Lib.hid (fun w hw => (pmay_any s w noF A c (HS.out w hw.1) hl).mono (fun r w' h => ⟨h.1, HN.out w w' hw.1 h.2⟩))
  have HC4 : Hid (∀ w, (Below W1.heap.size W1 w ∧ w.cell? ⟨W.heap.size, 0, none⟩ = some (.slice A s.length c) ∧ w.cell? ⟨W.heap.size + 1, 0, none⟩ = some (.int .i64 k) ∧ w.cell? ⟨W.heap.size + 1, 1, none⟩ = some (strV n) ∧ w.cell? ⟨W.heap.size + 1, 2, none⟩ = some (strV o) ∧ w.cell? ⟨W.heap.size + 1, 3, none⟩ = some (.slice E ks.length m)) → Calls Try.prog 17 #[.agg #[.slice A s.length c]] w fun r w' => r = .returned (.bool (mayS s)) ∧ (Below W1.heap.size W1 w' ∧ w'.cell? ⟨W.heap.size, 0, none⟩ = some (.slice A s.length c) ∧ w'.cell? ⟨W.heap.size + 1, 0, none⟩ = some (.int .i64 k) ∧ w'.cell? ⟨W.heap.size + 1, 1, none⟩ = some (strV n) ∧ w'.cell? ⟨W.heap.size + 1, 2, none⟩ = some (strV o) ∧ w'.cell? ⟨W.heap.size + 1, 3, none⟩ = some (.slice E ks.length m))) := Lib.hid (fun w hw => (may_any s w noF A c (HS.out w hw.1) hl).mono (fun r w' h => ⟨h.1, HN.out w w' hw.1 h.2⟩))
  have HC5 : Hid (∀ w, (Below W1.heap.size W1 w ∧ w.cell? ⟨W.heap.size, 0, none⟩ = some (.slice A s.length c) ∧ w.cell? ⟨W.heap.size + 1, 0, none⟩ = some (.int .i64 k) ∧ w.cell? ⟨W.heap.size + 1, 1, none⟩ = some (strV n) ∧ w.cell? ⟨W.heap.size + 1, 2, none⟩ = some (strV o) ∧ w.cell? ⟨W.heap.size + 1, 3, none⟩ = some (.slice E ks.length m)) → Calls Try.prog 18 #[.agg #[.int .i64 k, strV n, strV o, .slice E ks.length m]] w fun r w' => r = .returned (strV (exprT x)) ∧ (Below W1.heap.size W1 w' ∧ w'.cell? ⟨W.heap.size, 0, none⟩ = some (.slice A s.length c) ∧ w'.cell? ⟨W.heap.size + 1, 0, none⟩ = some (.int .i64 k) ∧ w'.cell? ⟨W.heap.size + 1, 1, none⟩ = some (strV n) ∧ w'.cell? ⟨W.heap.size + 1, 2, none⟩ = some (strV o) ∧ w'.cell? ⟨W.heap.size + 1, 3, none⟩ = some (.slice E ks.length m))) := Lib.hid (fun w hw => (pexprT_any x w noF _ (HE.out w hw.1)).mono (fun r w' h => ⟨h.1, HN.out w w' hw.1 h.2⟩))
  have HC6 : Hid (∀ w, (Below W1.heap.size W1 w ∧ w.cell? ⟨W.heap.size, 0, none⟩ = some (.slice A s.length c) ∧ w.cell? ⟨W.heap.size + 1, 0, none⟩ = some (.int .i64 k) ∧ w.cell? ⟨W.heap.size + 1, 1, none⟩ = some (strV n) ∧ w.cell? ⟨W.heap.size + 1, 2, none⟩ = some (strV o) ∧ w.cell? ⟨W.heap.size + 1, 3, none⟩ = some (.slice E ks.length m)) → Calls Try.prog 19 #[.agg #[.int .i64 k, strV n, strV o, .slice E ks.length m]] w fun r w' => r = .returned (strV (exprT x)) ∧ (Below W1.heap.size W1 w' ∧ w'.cell? ⟨W.heap.size, 0, none⟩ = some (.slice A s.length c) ∧ w'.cell? ⟨W.heap.size + 1, 0, none⟩ = some (.int .i64 k) ∧ w'.cell? ⟨W.heap.size + 1, 1, none⟩ = some (strV n) ∧ w'.cell? ⟨W.heap.size + 1, 2, none⟩ = some (strV o) ∧ w'.cell? ⟨W.heap.size + 1, 3, none⟩ = some (.slice E ks.length m))) := Lib.hid (fun w hw => (expr_any x w noF _ (HE.out w hw.1)).mono (fun r w' h => ⟨h.1, HN.out w w' hw.1 h.2⟩))
  have HC7 : Hid (∀ w, (Below W1.heap.size W1 w ∧ w.cell? ⟨W.heap.size, 0, none⟩ = some (.slice A s.length c) ∧ w.cell? ⟨W.heap.size + 1, 0, none⟩ = some (.int .i64 k) ∧ w.cell? ⟨W.heap.size + 1, 1, none⟩ = some (strV n) ∧ w.cell? ⟨W.heap.size + 1, 2, none⟩ = some (strV o) ∧ w.cell? ⟨W.heap.size + 1, 3, none⟩ = some (.slice E ks.length m)) → Calls Try.prog 20 #[.agg #[.int .i64 k, strV n, strV o, .slice E ks.length m]] w fun r w' => r = .returned (.int .i64 (heightE x)) ∧ (Below W1.heap.size W1 w' ∧ w'.cell? ⟨W.heap.size, 0, none⟩ = some (.slice A s.length c) ∧ w'.cell? ⟨W.heap.size + 1, 0, none⟩ = some (.int .i64 k) ∧ w'.cell? ⟨W.heap.size + 1, 1, none⟩ = some (strV n) ∧ w'.cell? ⟨W.heap.size + 1, 2, none⟩ = some (strV o) ∧ w'.cell? ⟨W.heap.size + 1, 3, none⟩ = some (.slice E ks.length m))) := Lib.hid (fun w hw => (pheight_any x w noF _ (HE.out w hw.1) (HWH.out hp0)).mono (fun r w' h => ⟨h.1, HN.out w w' hw.1 h.2⟩))
  have HC8 : Hid (∀ w, (Below W1.heap.size W1 w ∧ w.cell? ⟨W.heap.size, 0, none⟩ = some (.slice A s.length c) ∧ w.cell? ⟨W.heap.size + 1, 0, none⟩ = some (.int .i64 k) ∧ w.cell? ⟨W.heap.size + 1, 1, none⟩ = some (strV n) ∧ w.cell? ⟨W.heap.size + 1, 2, none⟩ = some (strV o) ∧ w.cell? ⟨W.heap.size + 1, 3, none⟩ = some (.slice E ks.length m)) → Calls Try.prog 21 #[.agg #[.int .i64 k, strV n, strV o, .slice E ks.length m]] w fun r w' => r = .returned (.int .i64 (heightE x)) ∧ (Below W1.heap.size W1 w' ∧ w'.cell? ⟨W.heap.size, 0, none⟩ = some (.slice A s.length c) ∧ w'.cell? ⟨W.heap.size + 1, 0, none⟩ = some (.int .i64 k) ∧ w'.cell? ⟨W.heap.size + 1, 1, none⟩ = some (strV n) ∧ w'.cell? ⟨W.heap.size + 1, 2, none⟩ = some (strV o) ∧ w'.cell? ⟨W.heap.size + 1, 3, none⟩ = some (.slice E ks.length m))) := Lib.hid (fun w hw => (height_any x w noF _ (HE.out w hw.1) (HWH.out hp0)).mono (fun r w' h => ⟨h.1, HN.out w w' hw.1 h.2⟩))
  have hS0 : (Below W1.heap.size W1 w3.drew ∧ w3.drew.cell? ⟨W.heap.size, 0, none⟩ = some (.slice A s.length c) ∧ w3.drew.cell? ⟨W.heap.size + 1, 0, none⟩ = some (.int .i64 k) ∧ w3.drew.cell? ⟨W.heap.size + 1, 1, none⟩ = some (strV n) ∧ w3.drew.cell? ⟨W.heap.size + 1, 2, none⟩ = some (strV o) ∧ w3.drew.cell? ⟨W.heap.size + 1, 3, none⟩ = some (.slice E ks.length m)) := HN.out w3 w3.drew HB3.out (Below.refl _ _).drew
  generalize printT s = T at *
  generalize mayS s = q at *
  generalize exprT x = X at *
  generalize heightE x = hh at *
  clear x3 y30 y31 y32 y33 HS HE HN HKA HKE HX HB1 HB2 HWH
  go_region_held_law (fun w' => (Below W1.heap.size W1 w' ∧ w'.cell? ⟨W.heap.size, 0, none⟩ = some (.slice A s.length c) ∧ w'.cell? ⟨W.heap.size + 1, 0, none⟩ = some (.int .i64 k) ∧ w'.cell? ⟨W.heap.size + 1, 1, none⟩ = some (strV n) ∧ w'.cell? ⟨W.heap.size + 1, 2, none⟩ = some (strV o) ∧ w'.cell? ⟨W.heap.size + 1, 3, none⟩ = some (.slice E ks.length m)))
    (assumption)
    (first
      | (go_at_call 14; with_reducible refine (HC1.out _ (by assumption)).mono ?_; rintro e w' ⟨rfl, hS'⟩)
      | (go_at_call 15; with_reducible refine (HC2.out _ (by assumption)).mono ?_; rintro e w' ⟨rfl, hS'⟩)
      | (go_at_call 16; with_reducible refine (HC3.out _ (by assumption)).mono ?_; rintro e w' ⟨rfl, hS'⟩)
      | (go_at_call 17; with_reducible refine (HC4.out _ (by assumption)).mono ?_; rintro e w' ⟨rfl, hS'⟩)
      | (go_at_call 18; with_reducible refine (HC5.out _ (by assumption)).mono ?_; rintro e w' ⟨rfl, hS'⟩)
      | (go_at_call 19; with_reducible refine (HC6.out _ (by assumption)).mono ?_; rintro e w' ⟨rfl, hS'⟩)
      | (go_at_call 20; with_reducible refine (HC7.out _ (by assumption)).mono ?_; rintro e w' ⟨rfl, hS'⟩)
      | (go_at_call 21; with_reducible refine (HC8.out _ (by assumption)).mono ?_; rintro e w' ⟨rfl, hS'⟩))
  go_wp2_with fail
  go_ret
  exact ⟨rfl, HB0.out.trans (hS'.1.mono HB0.out.size)⟩
end Go.Proofs.Ytpiaiibobjlipaa
