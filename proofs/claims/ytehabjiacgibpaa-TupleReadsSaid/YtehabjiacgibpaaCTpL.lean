/-
  A relation by its names (the program's Find). Conditions: the schema is there; what is found can be copied.
  What the program's typeOf comes to: the first type of a name. Condition: the schema is there.
  What the program's Allowed looks up, as lists: a type by its name, and its relations without their expressions. No program is named.
-/
import Derived.Test.YtehabjiacgibpaaCRoO
import Derived.Test.YtehabjiacgibpaaCRuF0
namespace Go.Proofs.Ytehabjiacgibpaa
open Go.RowKit
set_option maxRecDepth 100000 in
theorem enter_findT (args : Array Value) (w : World) : (callFunc 71 args).run Try.prog w = .ok (.enter 71 args) w := rfl
set_option maxRecDepth 100000 in
set_option maxHeartbeats 1000000 in
theorem findT_any (n : Txt) (F : Nat → Prop) (W : World) {b : Nat} (hb : b < W.heap.size ∧ W.cell? ⟨b, 0, none⟩ = some (strV n)) (x : Ty) (cs : List Value) (hx : TyAt W F x cs) :
    Calls Try.prog 71 #[.agg cs.toArray, .pointer (some ⟨b, 0, none⟩)] W fun r w' => r = .returned (.bool (decide (x.name = n))) ∧ Below W.heap.size W w' := by
  obtain ⟨B, d, rfl, _, _⟩ := hx
  show Calls _ _ #[.agg #[strV x.name, .slice B x.rels.length d], _] _ _
  obtain ⟨v, hv⟩ : ∃ v, v = decide (x.name = n) := ⟨_, rfl⟩
  rw [← hv]
  have hb0 := (Below.refl W.heap.size W).alloc (Nat.le_refl _) (.cells #[strV x.name, .slice B x.rels.length d] 52)
  have y0 := (hb0.cell (p := ⟨b, 0, none⟩) hb.1).trans hb.2
  have HV := Lib.hid hv
  have HB0 := Lib.hid hb0
  clear hv hb hb0
  generalize x.name = xn at *
  generalize x.rels.length = xl at *
  by_cases he : xn = n
  · have HV2 : Hid (v = true) := Lib.hid (by rw [HV.out]; exact decide_eq_true he)
    subst he
    go_enter Try.func71, Try.ntmps71
    go_wp2_with fail
    go_ret
    exact ⟨by rw [HV2.out]; (first | rfl | simp), HB0.out⟩
  · have HV2 : Hid (v = false) := Lib.hid (by rw [HV.out]; exact decide_eq_false he)
    go_enter Try.func71, Try.ntmps71
    go_wp2_with fail
    go_ret
    exact ⟨by rw [HV2.out]; (first | rfl | simp [he]), HB0.out⟩
set_option maxRecDepth 100000 in
theorem enter_findR (args : Array Value) (w : World) : (callFunc 73 args).run Try.prog w = .ok (.enter 73 args) w := rfl
set_option maxRecDepth 100000 in
set_option maxHeartbeats 1000000 in
theorem findR_any (n : Txt) (F : Nat → Prop) (W : World) {b : Nat} (hb : b < W.heap.size ∧ W.cell? ⟨b, 0, none⟩ = some (strV n)) (x : Rl) (cs : List Value) (hx : RlAt W F x cs) :
    Calls Try.prog 73 #[.agg cs.toArray, .pointer (some ⟨b, 0, none⟩)] W fun r w' => r = .returned (.bool (decide (x.name = n))) ∧ Below W.heap.size W w' := by
  obtain ⟨B, m, k, p, q, E, me, ce, rfl, _, _, _⟩ := hx.six
  show Calls _ _ #[.agg #[strV x.name, .slice B x.refs.length m, .int .i64 k, strV p, strV q, .slice E me ce], _] _ _
  obtain ⟨v, hv⟩ : ∃ v, v = decide (x.name = n) := ⟨_, rfl⟩
  rw [← hv]
  have hb0 := (Below.refl W.heap.size W).alloc (Nat.le_refl _) (.cells #[strV x.name, .slice B x.refs.length m, .int .i64 k, strV p, strV q, .slice E me ce] 58)
  have y0 := (hb0.cell (p := ⟨b, 0, none⟩) hb.1).trans hb.2
  have HV := Lib.hid hv
  have HB0 := Lib.hid hb0
  clear hv hb hb0
  generalize x.name = xn at *
  generalize x.refs.length = xl at *
  by_cases he : xn = n
  · have HV2 : Hid (v = true) := Lib.hid (by rw [HV.out]; exact decide_eq_true he)
    subst he
    go_enter Try.func73, Try.ntmps73
    go_wp2_with fail
    go_ret
    exact ⟨by rw [HV2.out]; (first | rfl | simp), HB0.out⟩
  · have HV2 : Hid (v = false) := Lib.hid (by rw [HV.out]; exact decide_eq_false he)
    go_enter Try.func73, Try.ntmps73
    go_wp2_with fail
    go_ret
    exact ⟨by rw [HV2.out]; (first | rfl | simp [he]), HB0.out⟩
def FoundP (W : World) (R : Rl × Bool) (e : Ending) (w' : World) : Prop := ∃ cs : List Value, e = .returned (.tuple #[.agg cs.toArray, .bool R.2]) ∧ RlAt w' (fun _ => False) R.1 cs ∧ Below W.heap.size W w'
set_option maxRecDepth 100000 in
set_option maxHeartbeats 4000000 in
theorem find_any (s : Sc) (t n : Txt) (W : World) (F : Nat → Prop) (A : Option Addr) (c : Nat) (hs : ScAt W F A s) (hl : s.length ≤ 9223372036854775807) (hcp : (findR s t n).2 = true → cpR (findR s t n).1) :
    Calls Try.prog 49 #[.agg #[.slice A s.length c], strV t, strV n] W (FoundP W (findR s t n)) := by
  obtain ⟨R, hR⟩ : ∃ R, R = findR s t n := ⟨_, rfl⟩
  rw [← hR] at hcp ⊢
  unfold findR at hR
  dsimp only at hR
  obtain ⟨W1, hW⟩ : ∃ W1, W1 = (((W.alloc (.cells #[.slice A s.length c] 24)).alloc (.cells #[strV t] 9)).alloc (.cells #[strV n] 9)).alloc (.cells #[.string ⟨#[]⟩, .slice none 0 0, .int .i64 0, .string ⟨#[]⟩, .string ⟨#[]⟩, .slice none 0 0] 58) := ⟨_, rfl⟩
  have HKA : Hid (Blk W1 W.heap.size [.slice A s.length c] 24) := by rw [hW]; exact Lib.hid ((((Blk.new W _ _).alloc _).alloc _).alloc _)
  have HKT : Hid (Blk W1 (W.heap.size + 1) [strV t] 9) := by
    rw [hW]
    have := Blk.new (W.alloc (.cells #[.slice A s.length c] 24)) [strV t] 9
    rw [World.size_alloc] at this
    exact Lib.hid ((this.alloc _).alloc _)
  have HKN : Hid (Blk W1 (W.heap.size + 2) [strV n] 9) := by
    rw [hW]
    have := Blk.new ((W.alloc (.cells #[.slice A s.length c] 24)).alloc (.cells #[strV t] 9)) [strV n] 9
    rw [World.size_alloc, World.size_alloc] at this
    exact Lib.hid (this.alloc _)
  have HKE : Hid (Blk W1 (W.heap.size + 3) [.string ⟨#[]⟩, .slice none 0 0, .int .i64 0, .string ⟨#[]⟩, .string ⟨#[]⟩, .slice none 0 0] 58) := by
    rw [hW]
    have := Blk.new (((W.alloc (.cells #[.slice A s.length c] 24)).alloc (.cells #[strV t] 9)).alloc (.cells #[strV n] 9)) [.string ⟨#[]⟩, .slice none 0 0, .int .i64 0, .string ⟨#[]⟩, .string ⟨#[]⟩, .slice none 0 0] 58
    rw [World.size_alloc, World.size_alloc, World.size_alloc] at this
    exact Lib.hid this
  have HB0 : Hid (Below W.heap.size W W1) := by rw [hW]; exact Lib.hid (((((Below.refl _ _).alloc (Nat.le_refl _) _).alloc (by simp) _).alloc (by simp; omega) _).alloc (by simp; omega) _)
  have HW := Lib.hid hW
  have HRV := Lib.hid hR
  have HX : Hid (∀ w, Below W1.heap.size W1 w → w.cell? ⟨W.heap.size, 0, none⟩ = some (.slice A s.length c)) := Lib.hid (fun w hw => (HKA.out.below hw HKA.out.lt).cell (i := 0) (by simp))
  have HZ : Hid (∀ w, Below W1.heap.size W1 w → Blk w (W.heap.size + 3) [.string ⟨#[]⟩, .slice none 0 0, .int .i64 0, .string ⟨#[]⟩, .string ⟨#[]⟩, .slice none 0 0] 58) := Lib.hid (fun w hw => HKE.out.below hw HKE.out.lt)
  have HF : Hid (∀ w, Below W1.heap.size W1 w → Below W.heap.size W w) := Lib.hid (fun w hw => HB0.out.trans (hw.mono HB0.out.size))
  have HSR : Hid (RowAt 2 TyAt W F A s) := Lib.hid hs
  have hs1 : RowAt 2 TyAt W1 F A s := ScAt.moved (Spared.of_below HB0.out F) (fun _ h => .inl h) hs
  have hask : EAskC 2 71 (fun v => #[v, .pointer (some ⟨W.heap.size + 1, 0, none⟩)]) ShType (fun (x : Ty) => decide (x.name = t)) W1 A s :=
    RowAt.asksC hs1 TyAt.sh2 (fun x _ cs hcs w hw => findT_any t F w ⟨(HKT.out.below hw HKT.out.lt).lt, (HKT.out.below hw HKT.out.lt).cell (i := 0) (by simp)⟩ x cs (hcs.moved (Spared.of_below hw F) (fun _ h => .inl h)))
  have HT : Hid (Calls Try.prog 50 #[.slice A s.length c, .func (.func 71) #[] #[.pointer (some ⟨W.heap.size + 1, 0, none⟩)]] W1 fun e w' => e = .returned (.int .i64 (typN s t)) ∧ Below W1.heap.size W1 w') := Lib.hid (indexC_Type1 enter_findT c hask hl)
  have HTI := Lib.hid (typN_is s t)
  have HRN : Hid (relN s (typN s t) n = relsN (ofT s (typN s t)) n) := Lib.hid rfl
  have x0 := HX.out W1 (Below.refl _ _)
  rw [HW.out] at x0
  clear hs1 hask hs hR hW
  unfold relAt at HRV
  generalize typN s t = ty at *
  by_cases hty : ty < 0
  · have HR2 : Hid (R = (noRel, false)) := Lib.hid (by rw [HRV.out, HRN.out, ofT_neg hty]; rfl)
    go_enter Try.func49, Try.ntmps49
    go_wp2_with (go_at_call 50; rw [← HW.out]; (refine HT.out.mono ?_); rintro r w2 ⟨rfl, hb2⟩; have HB2 := Lib.hid hb2; clear x0; have x2 := HX.out w2 hb2; have hz := HZ.out w2 hb2; have v0 := hz.cell (i := 0) (by simp); have v1 := hz.cell (i := 1) (by simp); have v2 := hz.cell (i := 2) (by simp); have v3 := hz.cell (i := 3) (by simp); have v4 := hz.cell (i := 4) (by simp); have v5 := hz.cell (i := 5) (by simp); simp only [List.getElem_cons_succ, List.getElem_cons_zero] at v0 v1 v2 v3 v4 v5; have f0 := hz.free 0; have f1 := hz.free 1; have f2 := hz.free 2; have f3 := hz.free 3; have f4 := hz.free 4; have f5 := hz.free 5; clear hz hb2)
    refine bodyPost_ret (v := .tuple #[.agg #[.string ⟨#[]⟩, .slice none 0 0, .int .i64 0, .string ⟨#[]⟩, .string ⟨#[]⟩, .slice none 0 0], .bool false]) (by simp [results, Try.results49, go_sem, v0, v1, v2, v3, v4, v5]) rfl ?_
    rw [HR2.out]
    exact ⟨[.string ⟨#[]⟩, .slice none 0 0, .int .i64 0, .string ⟨#[]⟩, .string ⟨#[]⟩, .slice none 0 0], rfl, noRel_at _ _, (((((((HF.out w2 HB2.out).setCell (p := ⟨W.heap.size + 3, 0, none⟩) (by show W.heap.size ≤ W.heap.size + 3; omega) _).setCell (p := ⟨W.heap.size + 3, 1, none⟩) (by show W.heap.size ≤ W.heap.size + 3; omega) _).setCell (p := ⟨W.heap.size + 3, 2, none⟩) (by show W.heap.size ≤ W.heap.size + 3; omega) _).setCell (p := ⟨W.heap.size + 3, 3, none⟩) (by show W.heap.size ≤ W.heap.size + 3; omega) _).setCell (p := ⟨W.heap.size + 3, 4, none⟩) (by show W.heap.size ≤ W.heap.size + 3; omega) _).setCell (p := ⟨W.heap.size + 3, 5, none⟩) (by show W.heap.size ≤ W.heap.size + 3; omega) _)⟩
  obtain ⟨y, hy, rfl⟩ : ∃ y, y < s.length ∧ ty = (y : Int) := by
    rcases HTI.out with h | h
    · omega
    · exact h
  have hyn : ¬ ((y : Int) < 0) := by omega
  have hof := ofT_at hy
  rw [hof] at HRN
  obtain ⟨b, off, B, d, rfl, ⟨_, hrl⟩, hr, hc⟩ := HSR.out.ty hy
  have HCT := Lib.hid (fun w hw => (hc w hw).2)
  have HRI := Lib.hid (relsN_is s[y].rels n)
  have hr1 : RowAt 6 RlAt W F B s[y].rels := hr
  have HRC : Hid (∀ w, Below W1.heap.size W1 w → Calls Try.prog 72 #[.slice B s[y].rels.length d, .func (.func 73) #[] #[.pointer (some ⟨W.heap.size + 2, 0, none⟩)]] w fun e w' => e = .returned (.int .i64 (relsN s[y].rels n)) ∧ Below w.heap.size w w') := Lib.hid (fun w hw => by
    have hsp := Spared.of_below (HF.out w hw) F
    have hr2 : RowAt 6 RlAt w F B s[y].rels := hr1.moved hsp (fun _ h => .inl h) (fun _ _ _ h => h.moved hsp (fun _ h => .inl h))
    have hask : EAskC 6 73 (fun v => #[v, .pointer (some ⟨W.heap.size + 2, 0, none⟩)]) ShRel (fun (x : Rl) => decide (x.name = n)) w B s[y].rels :=
      RowAt.asksC hr2 RlAt.shC (fun x _ cs hcs w' hw' => findR_any n F w' ⟨(HKN.out.below (hop hw hw') HKN.out.lt).lt, (HKN.out.below (hop hw hw') HKN.out.lt).cell (i := 0) (by simp)⟩ x cs (hcs.moved (Spared.of_below hw' F) (fun _ h => .inl h)))
    exact indexC_Rel1 enter_findR d hask (by omega))
  by_cases hneg : relsN s[y].rels n < 0
  · have HR2 : Hid (R = (noRel, false)) := Lib.hid (by rw [HRV.out, HRN.out, if_pos hneg])
    generalize relsN s[y].rels n = rk at *
    generalize s[y].rels = rs at *
    clear hc hr hr1 hof
    go_enter Try.func49, Try.ntmps49
    go_wp2_with (first
      | (go_at_call 50; rw [← HW.out]; (refine HT.out.mono ?_); rintro r w2 ⟨rfl, hb2⟩; have HB2 := Lib.hid hb2; clear x0; have x2 := HX.out w2 hb2; have z2 := HCT.out w2 (HF.out w2 hb2); clear hb2)
      | (go_at_call 72; (with_reducible refine (HRC.out w2 HB2.out).mono ?_); rintro r w3 ⟨rfl, hb3⟩; have HB3 := Lib.hid (hop HB2.out hb3); clear hb3; have hz := HZ.out w3 HB3.out; have v0 := hz.cell (i := 0) (by simp); have v1 := hz.cell (i := 1) (by simp); have v2 := hz.cell (i := 2) (by simp); have v3 := hz.cell (i := 3) (by simp); have v4 := hz.cell (i := 4) (by simp); have v5 := hz.cell (i := 5) (by simp); simp only [List.getElem_cons_succ, List.getElem_cons_zero] at v0 v1 v2 v3 v4 v5; have f0 := hz.free 0; have f1 := hz.free 1; have f2 := hz.free 2; have f3 := hz.free 3; have f4 := hz.free 4; have f5 := hz.free 5; clear hz))
    refine bodyPost_ret (v := .tuple #[.agg #[.string ⟨#[]⟩, .slice none 0 0, .int .i64 0, .string ⟨#[]⟩, .string ⟨#[]⟩, .slice none 0 0], .bool false]) (by simp [results, Try.results49, go_sem, v0, v1, v2, v3, v4, v5]) rfl ?_
    rw [HR2.out]
    exact ⟨[.string ⟨#[]⟩, .slice none 0 0, .int .i64 0, .string ⟨#[]⟩, .string ⟨#[]⟩, .slice none 0 0], rfl, noRel_at _ _, (((((((HF.out w3 HB3.out).setCell (p := ⟨W.heap.size + 3, 0, none⟩) (by show W.heap.size ≤ W.heap.size + 3; omega) _).setCell (p := ⟨W.heap.size + 3, 1, none⟩) (by show W.heap.size ≤ W.heap.size + 3; omega) _).setCell (p := ⟨W.heap.size + 3, 2, none⟩) (by show W.heap.size ≤ W.heap.size + 3; omega) _).setCell (p := ⟨W.heap.size + 3, 3, none⟩) (by show W.heap.size ≤ W.heap.size + 3; omega) _).setCell (p := ⟨W.heap.size + 3, 4, none⟩) (by show W.heap.size ≤ W.heap.size + 3; omega) _).setCell (p := ⟨W.heap.size + 3, 5, none⟩) (by show W.heap.size ≤ W.heap.size + 3; omega) _)⟩
  obtain ⟨k, hk, hkr⟩ : ∃ k, k < s[y].rels.length ∧ relsN s[y].rels n = (k : Int) := by
    rcases HRI.out with h | h
    · omega
    · exact h
  have HR2 : Hid (R = (s[y].rels[k], true)) := Lib.hid (by rw [HRV.out, HRN.out, if_neg hneg, hof, hkr, Int.toNat_natCast, List.getElem?_eq_getElem hk]; rfl)
  have hcp2 : cpR s[y].rels[k] := by rw [HR2.out] at hcp; exact hcp rfl
  rw [hkr] at HRC
  obtain ⟨g, og, n1, B1, m1, c1, k1, p1, q1, E1, m2, c2, rfl, hE, hcells⟩ := RowAt.rel hr hk
  have HCE := Lib.hid hcells
  have HCR : Hid (∀ w, Below W1.heap.size W1 w → Calls Try.prog 74 #[.agg #[strV n1, .slice B1 m1 c1, .int .i64 k1, strV p1, strV q1, .slice E1 m2 c2]] w (CopyR w s[y].rels[k])) := Lib.hid (fun w hw => copyR_any _ w F _ hcp2 (hE.below (HF.out w hw)))
  have hknn : ¬ ((k : Int) < 0) := by omega
  clear hneg hkr
  generalize s[y].rels[k] = x at *
  generalize s[y].rels = rs at *
  clear hc hr hr1 hof hcells hE hcp hcp2
  go_enter Try.func49, Try.ntmps49
  go_wp2_with (first
    | (go_at_call 50; rw [← HW.out]; (refine HT.out.mono ?_); rintro r w2 ⟨rfl, hb2⟩; have HB2 := Lib.hid hb2; clear x0; have x2 := HX.out w2 hb2; have z2 := HCT.out w2 (HF.out w2 hb2); clear hb2)
    | (go_at_call 72; (with_reducible refine (HRC.out w2 HB2.out).mono ?_); rintro r w3 ⟨rfl, hb3⟩; have HB3 := Lib.hid (hop HB2.out hb3); clear hb3; have zz2 := z2; clear z2; obtain ⟨e0, e1, e2, e3, e4, e5⟩ := HCE.out w3 (HF.out w3 HB3.out))
    | (go_at_call 74; (with_reducible refine (HCR.out w3 HB3.out).mono ?_); rintro r w4 ⟨cs4, rfl, hx4, hb4⟩; have HX4 := Lib.hid hx4; obtain ⟨B4, m4, k4, n4, o4, E4, me4, ce4, rfl, _, _, _⟩ := HX4.out.six; have HB4 := Lib.hid (hop HB3.out hb4); have hz := HZ.out w4 HB4.out; have v0 := hz.cell (i := 0) (by simp); have v1 := hz.cell (i := 1) (by simp); have v2 := hz.cell (i := 2) (by simp); have v3 := hz.cell (i := 3) (by simp); have v4 := hz.cell (i := 4) (by simp); have v5 := hz.cell (i := 5) (by simp); simp only [List.getElem_cons_succ, List.getElem_cons_zero] at v0 v1 v2 v3 v4 v5; have f0 := hz.free 0; have f1 := hz.free 1; have f2 := hz.free 2; have f3 := hz.free 3; have f4 := hz.free 4; have f5 := hz.free 5; clear hz hb4 hx4))
  refine bodyPost_ret (v := .tuple #[.agg #[strV x.name, .slice B4 x.refs.length m4, .int .i64 k4, strV n4, strV o4, .slice E4 me4 ce4], .bool true]) (by simp [results, Try.results49, go_sem, v0, v1, v2, v3, v4, v5]) rfl ?_
  rw [HR2.out]
  have hsp : Spared w4 ((((((w4.setCell ⟨W.heap.size + 3, 0, none⟩ (strV x.name)).setCell ⟨W.heap.size + 3, 1, none⟩ (.slice B4 x.refs.length m4)).setCell ⟨W.heap.size + 3, 2, none⟩ (.int .i64 k4)).setCell ⟨W.heap.size + 3, 3, none⟩ (strV n4)).setCell ⟨W.heap.size + 3, 4, none⟩ (strV o4)).setCell ⟨W.heap.size + 3, 5, none⟩ (.slice E4 me4 ce4)) (fun b => b < w3.heap.size) := by
    have hF : (fun b => b < w3.heap.size) (W.heap.size + 3) := by
      have h1 := HKE.out.lt
      have h2 := HB3.out.size
      show W.heap.size + 3 < w3.heap.size
      omega
    exact ((((((Spared.refl w4 (fun b => b < w3.heap.size)).setCell hF _ _).setCell hF _ _).setCell hF _ _).setCell hF _ _).setCell hF _ _).setCell hF _ _
  exact ⟨_, rfl, HX4.out.moved hsp (fun _ h => h.elim), (((((((HF.out w4 HB4.out).setCell (p := ⟨W.heap.size + 3, 0, none⟩) (by show W.heap.size ≤ W.heap.size + 3; omega) _).setCell (p := ⟨W.heap.size + 3, 1, none⟩) (by show W.heap.size ≤ W.heap.size + 3; omega) _).setCell (p := ⟨W.heap.size + 3, 2, none⟩) (by show W.heap.size ≤ W.heap.size + 3; omega) _).setCell (p := ⟨W.heap.size + 3, 3, none⟩) (by show W.heap.size ≤ W.heap.size + 3; omega) _).setCell (p := ⟨W.heap.size + 3, 4, none⟩) (by show W.heap.size ≤ W.heap.size + 3; omega) _).setCell (p := ⟨W.heap.size + 3, 5, none⟩) (by show W.heap.size ≤ W.heap.size + 3; omega) _)⟩
end Go.Proofs.Ytehabjiacgibpaa
namespace Go.Proofs.Ytehabjiacgibpaa
open Go.RowKit
set_option maxRecDepth 100000 in
theorem enter_typeOfT (args : Array Value) (w : World) : (callFunc 51 args).run Try.prog w = .ok (.enter 51 args) w := rfl
set_option maxRecDepth 100000 in
set_option maxHeartbeats 1000000 in
theorem typeOfT_any (n : Txt) (F : Nat → Prop) (W : World) {b : Nat} (hb : b < W.heap.size ∧ W.cell? ⟨b, 0, none⟩ = some (strV n)) (x : Ty) (cs : List Value) (hx : TyAt W F x cs) :
    Calls Try.prog 51 #[.agg cs.toArray, .pointer (some ⟨b, 0, none⟩)] W fun r w' => r = .returned (.bool (decide (x.name = n))) ∧ Below W.heap.size W w' := by
  obtain ⟨B, d, rfl, _, _⟩ := hx
  show Calls _ _ #[.agg #[strV x.name, .slice B x.rels.length d], _] _ _
  obtain ⟨v, hv⟩ : ∃ v, v = decide (x.name = n) := ⟨_, rfl⟩
  rw [← hv]
  have hb0 := (Below.refl W.heap.size W).alloc (Nat.le_refl _) (.cells #[strV x.name, .slice B x.rels.length d] 52)
  have y0 := (hb0.cell (p := ⟨b, 0, none⟩) hb.1).trans hb.2
  have HV := Lib.hid hv
  have HB0 := Lib.hid hb0
  clear hv hb hb0
  generalize x.name = xn at *
  generalize x.rels.length = xl at *
  by_cases he : xn = n
  · have HV2 : Hid (v = true) := Lib.hid (by rw [HV.out]; exact decide_eq_true he)
    subst he
    go_enter Try.func51, Try.ntmps51
    go_wp2_with fail
    go_ret
    exact ⟨by rw [HV2.out]; (first | rfl | simp), HB0.out⟩
  · have HV2 : Hid (v = false) := Lib.hid (by rw [HV.out]; exact decide_eq_false he)
    go_enter Try.func51, Try.ntmps51
    go_wp2_with fail
    go_ret
    exact ⟨by rw [HV2.out]; (first | rfl | simp [he]), HB0.out⟩
def noTy : Ty := ⟨[], []⟩
def typeT (s : Sc) (n : Txt) : Ty := if typN s n < 0 then noTy else (s[(typN s n).toNat]?).getD noTy
theorem noTy_at (W : World) (F : Nat → Prop) : TyAt W F noTy [.string ⟨#[]⟩, .slice none 0 0] :=
  ⟨none, 0, rfl, ⟨⟨by unfold small noTy; simp, Nat.le_refl _⟩, by simp [noTy]⟩, .inl rfl⟩
def TypeP (W : World) (F : Nat → Prop) (s : Sc) (n : Txt) (e : Ending) (w' : World) : Prop := ∃ (B : Option Addr) (d : Nat), e = .returned (.tuple #[.agg #[strV (typeT s n).name, .slice B (typeT s n).rels.length d], .bool (decide (0 ≤ typN s n))]) ∧ TyAt w' F (typeT s n) [strV (typeT s n).name, .slice B (typeT s n).rels.length d] ∧ Below W.heap.size W w'
set_option maxRecDepth 100000 in
set_option maxHeartbeats 4000000 in
theorem typeOf_any (s : Sc) (n : Txt) (W : World) (F : Nat → Prop) (A : Option Addr) (c : Nat) (hs : ScAt W F A s) (hl : s.length ≤ 9223372036854775807) :
    Calls Try.prog 27 #[.agg #[.slice A s.length c], strV n] W (TypeP W F s n) := by
  unfold TypeP
  obtain ⟨T, hT⟩ : ∃ T, T = typeT s n := ⟨_, rfl⟩
  rw [← hT]
  obtain ⟨W1, hW⟩ : ∃ W1, W1 = ((W.alloc (.cells #[.slice A s.length c] 24)).alloc (.cells #[strV n] 9)).alloc (.cells #[.string ⟨#[]⟩, .slice none 0 0] 52) := ⟨_, rfl⟩
  have HKA : Hid (Blk W1 W.heap.size [.slice A s.length c] 24) := by rw [hW]; exact Lib.hid (((Blk.new W _ _).alloc _).alloc _)
  have HKT : Hid (Blk W1 (W.heap.size + 1) [strV n] 9) := by
    rw [hW]
    have := Blk.new (W.alloc (.cells #[.slice A s.length c] 24)) [strV n] 9
    rw [World.size_alloc] at this
    exact Lib.hid (this.alloc _)
  have HKE : Hid (Blk W1 (W.heap.size + 2) [.string ⟨#[]⟩, .slice none 0 0] 52) := by
    rw [hW]
    have := Blk.new ((W.alloc (.cells #[.slice A s.length c] 24)).alloc (.cells #[strV n] 9)) [.string ⟨#[]⟩, .slice none 0 0] 52
    rw [World.size_alloc, World.size_alloc] at this
    exact Lib.hid this
  have HB0 : Hid (Below W.heap.size W W1) := by rw [hW]; exact Lib.hid ((((Below.refl _ _).alloc (Nat.le_refl _) _).alloc (by simp) _).alloc (by simp; omega) _)
  have HW := Lib.hid hW
  have HX : Hid (∀ w, Below W1.heap.size W1 w → w.cell? ⟨W.heap.size, 0, none⟩ = some (.slice A s.length c)) := Lib.hid (fun w hw => (HKA.out.below hw HKA.out.lt).cell (i := 0) (by simp))
  have HZ : Hid (∀ w, Below W1.heap.size W1 w → Blk w (W.heap.size + 2) [.string ⟨#[]⟩, .slice none 0 0] 52) := Lib.hid (fun w hw => HKE.out.below hw HKE.out.lt)
  have HF : Hid (∀ w, Below W1.heap.size W1 w → Below W.heap.size W w) := Lib.hid (fun w hw => HB0.out.trans (hw.mono HB0.out.size))
  have HSR : Hid (RowAt 2 TyAt W F A s) := Lib.hid hs
  have hs1 : RowAt 2 TyAt W1 F A s := ScAt.moved (Spared.of_below HB0.out F) (fun _ h => .inl h) hs
  have hask : EAskC 2 51 (fun v => #[v, .pointer (some ⟨W.heap.size + 1, 0, none⟩)]) ShType (fun (x : Ty) => decide (x.name = n)) W1 A s :=
    RowAt.asksC hs1 TyAt.sh2 (fun x _ cs hcs w hw => typeOfT_any n F w ⟨(HKT.out.below hw HKT.out.lt).lt, (HKT.out.below hw HKT.out.lt).cell (i := 0) (by simp)⟩ x cs (hcs.moved (Spared.of_below hw F) (fun _ h => .inl h)))
  have HT : Hid (Calls Try.prog 50 #[.slice A s.length c, .func (.func 51) #[] #[.pointer (some ⟨W.heap.size + 1, 0, none⟩)]] W1 fun e w' => e = .returned (.int .i64 (typN s n)) ∧ Below W1.heap.size W1 w') := Lib.hid (indexC_Type1 enter_typeOfT c hask hl)
  have HTI := Lib.hid (typN_is s n)
  have HTT := Lib.hid hT
  unfold typeT at HTT
  have x0 := HX.out W1 (Below.refl _ _)
  rw [HW.out] at x0
  clear hs1 hask hs hW hT
  generalize typN s n = ty at *
  by_cases hty : ty < 0
  · have HR2 : Hid (T = noTy) := Lib.hid (by rw [HTT.out, if_pos hty])
    go_enter Try.func27, Try.ntmps27
    go_wp2_with (go_at_call 50; rw [← HW.out]; (refine HT.out.mono ?_); rintro r w2 ⟨rfl, hb2⟩; have HB2 := Lib.hid hb2; clear x0; have x2 := HX.out w2 hb2; have hz := HZ.out w2 hb2; have v0 := hz.cell (i := 0) (by simp); have v1 := hz.cell (i := 1) (by simp); simp only [List.getElem_cons_succ, List.getElem_cons_zero] at v0 v1; have f0 := hz.free 0; have f1 := hz.free 1; clear hz hb2)
    refine bodyPost_ret (v := .tuple #[.agg #[.string ⟨#[]⟩, .slice none 0 0], .bool false]) (by simp [results, Try.results27, go_sem, v0, v1]) rfl ?_
    rw [HR2.out, decide_eq_false (show ¬ (0 ≤ ty) by omega)]
    exact ⟨none, 0, rfl, noTy_at _ _, (((HF.out w2 HB2.out).setCell (p := ⟨W.heap.size + 2, 0, none⟩) (by show W.heap.size ≤ W.heap.size + 2; omega) _).setCell (p := ⟨W.heap.size + 2, 1, none⟩) (by show W.heap.size ≤ W.heap.size + 2; omega) _)⟩
  obtain ⟨y, hy, rfl⟩ : ∃ y, y < s.length ∧ ty = (y : Int) := by
    rcases HTI.out with h | h
    · omega
    · exact h
  have hyn : ¬ ((y : Int) < 0) := by omega
  have HR2 : Hid (T = s[y]) := Lib.hid (by rw [HTT.out, if_neg hyn, Int.toNat_natCast, List.getElem?_eq_getElem hy]; rfl)
  obtain ⟨b, off, B, d, rfl, hsm, hr, hc⟩ := HSR.out.tyc hy
  have HAT : Hid (TyAt W F s[y] [strV s[y].name, .slice B s[y].rels.length d]) := Lib.hid ⟨B, d, rfl, hsm, hr⟩
  have HC := Lib.hid (fun w hw => hc w hw)
  rw [HR2.out]
  clear HTT HSR
  generalize s[y] = x at *
  clear hc hr hsm HTI
  go_enter Try.func27, Try.ntmps27
  go_wp2_with (go_at_call 50; rw [← HW.out]; (refine HT.out.mono ?_); rintro r w2 ⟨rfl, hb2⟩; have HB2 := Lib.hid hb2; clear x0; have x2 := HX.out w2 hb2; obtain ⟨e0, e1⟩ := HC.out w2 (HF.out w2 hb2); have hz := HZ.out w2 hb2; have v0 := hz.cell (i := 0) (by simp); have v1 := hz.cell (i := 1) (by simp); simp only [List.getElem_cons_succ, List.getElem_cons_zero] at v0 v1; have f0 := hz.free 0; have f1 := hz.free 1; clear hz hb2)
  refine bodyPost_ret (v := .tuple #[.agg #[strV x.name, .slice B x.rels.length d], .bool true]) (by simp [results, Try.results27, go_sem, v0, v1]) rfl ?_
  have hb3 : Below W.heap.size W ((w2.setCell ⟨W.heap.size + 2, 0, none⟩ (strV x.name)).setCell ⟨W.heap.size + 2, 1, none⟩ (.slice B x.rels.length d)) :=
    ((HF.out w2 HB2.out).setCell (p := ⟨W.heap.size + 2, 0, none⟩) (by show W.heap.size ≤ W.heap.size + 2; omega) _).setCell (p := ⟨W.heap.size + 2, 1, none⟩) (by show W.heap.size ≤ W.heap.size + 2; omega) _
  exact ⟨B, d, by rw [decide_eq_true (show (0 : Int) ≤ (y : Int) by omega)], HAT.out.below hb3, hb3⟩
end Go.Proofs.Ytehabjiacgibpaa
namespace Go.Proofs.Ytehabjiacgibpaa
open Go.RowKit
def bareR (x : Rl) : Rl := ⟨x.name, x.refs, .mk 0 [] [] []⟩
theorem atN_map {α β : Type} (f : α → β) (p : β → Bool) : ∀ (l : List α) (i : Nat), atN p (l.map f) i = atN (fun x => p (f x)) l i
  | [], _ => rfl
  | x :: r, i => by rw [List.map_cons, atN, atN, atN_map f p r (i + 1)]
theorem relsN_bare (rs : List Rl) (n : Txt) : relsN (rs.map bareR) n = relsN rs n := by unfold relsN; rw [atN_map]; rfl
theorem find_bare (rs : List Rl) (t n : Txt) : findR [⟨t, rs.map bareR⟩] t n = if relsN rs n < 0 then (noRel, false) else (bareR ((rs[(relsN rs n).toNat]?).getD noRel), true) := by
  have h1 : typN [(⟨t, rs.map bareR⟩ : Ty)] t = 0 := by unfold typN; rw [atN, if_pos (by simp)]; rfl
  have h2 : ofT [(⟨t, rs.map bareR⟩ : Ty)] 0 = rs.map bareR := by unfold ofT; rw [if_neg (by decide)]; rfl
  unfold findR
  dsimp only
  rw [h1]
  unfold relN relAt
  rw [h2, relsN_bare]
  by_cases h : relsN rs n < 0
  · rw [if_pos h, if_pos h]
  rw [if_neg h, if_neg h, List.getElem?_map]
  congr 1
  cases rs[(relsN rs n).toNat]? <;> rfl
theorem set6_get (M : List Value) (k : Nat) (c0 c1 c2 c3 c4 c5 : Value) (h : (k + 1) * 6 ≤ M.length) :
    (∀ q, q < 6 → ((((((M.set (k * 6) c0).set (k * 6 + 1) c1).set (k * 6 + 2) c2).set (k * 6 + 3) c3).set (k * 6 + 4) c4).set (k * 6 + 5) c5)[k * 6 + q]? = [c0, c1, c2, c3, c4, c5][q]?) ∧
    ∀ i, (i < k * 6 ∨ k * 6 + 6 ≤ i) → ((((((M.set (k * 6) c0).set (k * 6 + 1) c1).set (k * 6 + 2) c2).set (k * 6 + 3) c3).set (k * 6 + 4) c4).set (k * 6 + 5) c5)[i]? = M[i]? := by
  constructor
  · intro q hq
    have l : ∀ q, q < 6 → k * 6 + q < M.length := fun q hq => by omega
    match q, hq with
    | 0, _ => simp [show k * 6 < M.length by omega]
    | 1, _ => simp [l 1 (by decide)]
    | 2, _ => simp [l 2 (by decide)]
    | 3, _ => simp [l 3 (by decide)]
    | 4, _ => simp [l 4 (by decide)]
    | 5, _ => simp [l 5 (by decide)]
  · intro i hi
    rw [List.getElem?_set_ne (by omega), List.getElem?_set_ne (by omega), List.getElem?_set_ne (by omega), List.getElem?_set_ne (by omega), List.getElem?_set_ne (by omega), List.getElem?_set_ne (by omega)]
def cpS (s : Sc) : Prop := ∀ t ∈ s, t.rels.length ≤ 1000000 ∧ ∀ r ∈ t.rels, (r.name.length ≤ 281474976710656 ∧ r.refs.length ≤ 1000000) ∧ ∀ f ∈ r.refs, f.1.length ≤ 281474976710656 ∧ f.2.length ≤ 281474976710656
end Go.Proofs.Ytehabjiacgibpaa
