/-
  A relation by its names (the program's Find). Conditions: the schema is there; what is found can be copied.
  What the program's typeOf comes to: the first type of a name. Condition: the schema is there.
  What the program's refsOf comes to: the Refs of the first relation of a name of the first type of a name. Conditions: the schema is there, and can be copied.
-/
import Derived.Test.YtehabjiacgibpaaGreatCRoCr
import Derived.Test.YtehabjiacgibpaaGreatCRuF0
import Derived.Test.YtehabjiacgibpaaGreatCTpL
namespace Go.Proofs.YtehabjiacgibpaaGreat
open Go.RowKit
set_option maxRecDepth 100000 in
theorem enter_findT (args : Array Value) (w : World) : (callFunc 92 args).run Tryz.prog w = .ok (.enter 92 args) w := rfl
set_option maxRecDepth 100000 in
set_option maxHeartbeats 1000000 in
theorem findT_any (n : Txt) (F : Nat → Prop) (W : World) {b : Nat} (hb : b < W.heap.size ∧ W.cell? ⟨b, 0, none⟩ = some (strV n)) (x : Ty) (cs : List Value) (hx : TyAt W F x cs) :
    Calls Tryz.prog 92 #[.agg cs.toArray, .pointer (some ⟨b, 0, none⟩)] W fun r w' => r = .returned (.bool (decide (x.name = n))) ∧ Below W.heap.size W w' := by
  obtain ⟨B, d, rfl, _, _⟩ := hx
  show Calls _ _ #[.agg #[strV x.name, .slice B x.rels.length d], _] _ _
  obtain ⟨v, hv⟩ : ∃ v, v = decide (x.name = n) := ⟨_, rfl⟩
  rw [← hv]
  have hb0 := (Below.refl W.heap.size W).alloc (Nat.le_refl _) (.cells #[strV x.name, .slice B x.rels.length d] 65)
  have y0 := (hb0.cell (p := ⟨b, 0, none⟩) hb.1).trans hb.2
  have HV := Lib.hid hv
  have HB0 := Lib.hid hb0
  clear hv hb hb0
  generalize x.name = xn at *
  generalize x.rels.length = xl at *
  by_cases he : xn = n
  · have HV2 : Hid (v = true) := Lib.hid (by rw [HV.out]; exact decide_eq_true he)
    subst he
    go_enter Tryz.func92, Tryz.ntmps92
    go_wp2_with fail
    go_ret
    exact ⟨by rw [HV2.out]; (first | rfl | simp), HB0.out⟩
  · have HV2 : Hid (v = false) := Lib.hid (by rw [HV.out]; exact decide_eq_false he)
    go_enter Tryz.func92, Tryz.ntmps92
    go_wp2_with fail
    go_ret
    exact ⟨by rw [HV2.out]; (first | rfl | simp [he]), HB0.out⟩
set_option maxRecDepth 100000 in
theorem enter_findR (args : Array Value) (w : World) : (callFunc 94 args).run Tryz.prog w = .ok (.enter 94 args) w := rfl
set_option maxRecDepth 100000 in
set_option maxHeartbeats 1000000 in
theorem findR_any (n : Txt) (F : Nat → Prop) (W : World) {b : Nat} (hb : b < W.heap.size ∧ W.cell? ⟨b, 0, none⟩ = some (strV n)) (x : Rl) (cs : List Value) (hx : RlAt W F x cs) :
    Calls Tryz.prog 94 #[.agg cs.toArray, .pointer (some ⟨b, 0, none⟩)] W fun r w' => r = .returned (.bool (decide (x.name = n))) ∧ Below W.heap.size W w' := by
  obtain ⟨B, m, k, p, q, E, me, ce, rfl, _, _, _⟩ := hx.six
  show Calls _ _ #[.agg #[strV x.name, .slice B x.refs.length m, .int .i64 k, strV p, strV q, .slice E me ce], _] _ _
  obtain ⟨v, hv⟩ : ∃ v, v = decide (x.name = n) := ⟨_, rfl⟩
  rw [← hv]
  have hb0 := (Below.refl W.heap.size W).alloc (Nat.le_refl _) (.cells #[strV x.name, .slice B x.refs.length m, .int .i64 k, strV p, strV q, .slice E me ce] 71)
  have y0 := (hb0.cell (p := ⟨b, 0, none⟩) hb.1).trans hb.2
  have HV := Lib.hid hv
  have HB0 := Lib.hid hb0
  clear hv hb hb0
  generalize x.name = xn at *
  generalize x.refs.length = xl at *
  by_cases he : xn = n
  · have HV2 : Hid (v = true) := Lib.hid (by rw [HV.out]; exact decide_eq_true he)
    subst he
    go_enter Tryz.func94, Tryz.ntmps94
    go_wp2_with fail
    go_ret
    exact ⟨by rw [HV2.out]; (first | rfl | simp), HB0.out⟩
  · have HV2 : Hid (v = false) := Lib.hid (by rw [HV.out]; exact decide_eq_false he)
    go_enter Tryz.func94, Tryz.ntmps94
    go_wp2_with fail
    go_ret
    exact ⟨by rw [HV2.out]; (first | rfl | simp [he]), HB0.out⟩
def FoundP (W : World) (R : Rl × Bool) (e : Ending) (w' : World) : Prop := ∃ cs : List Value, e = .returned (.tuple #[.agg cs.toArray, .bool R.2]) ∧ RlAt w' (fun _ => False) R.1 cs ∧ Below W.heap.size W w'
set_option maxRecDepth 100000 in
set_option maxHeartbeats 4000000 in
theorem find_any (s : Sc) (t n : Txt) (W : World) (F : Nat → Prop) (A : Option Addr) (c : Nat) (hs : ScAt W F A s) (hl : s.length ≤ 9223372036854775807) (hcp : (findR s t n).2 = true → cpR (findR s t n).1) :
    Calls Tryz.prog 57 #[.agg #[.slice A s.length c], strV t, strV n] W (FoundP W (findR s t n)) := by
  obtain ⟨R, hR⟩ : ∃ R, R = findR s t n := ⟨_, rfl⟩
  rw [← hR] at hcp ⊢
  unfold findR at hR
  dsimp only at hR
  obtain ⟨W1, hW⟩ : ∃ W1, W1 = (((W.alloc (.cells #[.slice A s.length c] 39)).alloc (.cells #[strV t] 9)).alloc (.cells #[strV n] 9)).alloc (.cells #[.string ⟨#[]⟩, .slice none 0 0, .int .i64 0, .string ⟨#[]⟩, .string ⟨#[]⟩, .slice none 0 0] 71) := ⟨_, rfl⟩
  have HKA : Hid (Blk W1 W.heap.size [.slice A s.length c] 39) := by rw [hW]; exact Lib.hid ((((Blk.new W _ _).alloc _).alloc _).alloc _)
  have HKT : Hid (Blk W1 (W.heap.size + 1) [strV t] 9) := by
    rw [hW]
    have := Blk.new (W.alloc (.cells #[.slice A s.length c] 39)) [strV t] 9
    rw [World.size_alloc] at this
    exact Lib.hid ((this.alloc _).alloc _)
  have HKN : Hid (Blk W1 (W.heap.size + 2) [strV n] 9) := by
    rw [hW]
    have := Blk.new ((W.alloc (.cells #[.slice A s.length c] 39)).alloc (.cells #[strV t] 9)) [strV n] 9
    rw [World.size_alloc, World.size_alloc] at this
    exact Lib.hid (this.alloc _)
  have HKE : Hid (Blk W1 (W.heap.size + 3) [.string ⟨#[]⟩, .slice none 0 0, .int .i64 0, .string ⟨#[]⟩, .string ⟨#[]⟩, .slice none 0 0] 71) := by
    rw [hW]
    have := Blk.new (((W.alloc (.cells #[.slice A s.length c] 39)).alloc (.cells #[strV t] 9)).alloc (.cells #[strV n] 9)) [.string ⟨#[]⟩, .slice none 0 0, .int .i64 0, .string ⟨#[]⟩, .string ⟨#[]⟩, .slice none 0 0] 71
    rw [World.size_alloc, World.size_alloc, World.size_alloc] at this
    exact Lib.hid this
  have HB0 : Hid (Below W.heap.size W W1) := by rw [hW]; exact Lib.hid (((((Below.refl _ _).alloc (Nat.le_refl _) _).alloc (by simp) _).alloc (by simp; omega) _).alloc (by simp; omega) _)
  have HW := Lib.hid hW
  have HRV := Lib.hid hR
  have HX : Hid (∀ w, Below W1.heap.size W1 w → w.cell? ⟨W.heap.size, 0, none⟩ = some (.slice A s.length c)) := Lib.hid (fun w hw => (HKA.out.below hw HKA.out.lt).cell (i := 0) (by simp))
  have HZ : Hid (∀ w, Below W1.heap.size W1 w → Blk w (W.heap.size + 3) [.string ⟨#[]⟩, .slice none 0 0, .int .i64 0, .string ⟨#[]⟩, .string ⟨#[]⟩, .slice none 0 0] 71) := Lib.hid (fun w hw => HKE.out.below hw HKE.out.lt)
  have HF : Hid (∀ w, Below W1.heap.size W1 w → Below W.heap.size W w) := Lib.hid (fun w hw => HB0.out.trans (hw.mono HB0.out.size))
  have HSR : Hid (RowAt 2 TyAt W F A s) := Lib.hid hs
  have hs1 : RowAt 2 TyAt W1 F A s := ScAt.moved (Spared.of_below HB0.out F) (fun _ h => .inl h) hs
  have hask : EAskC 2 92 (fun v => #[v, .pointer (some ⟨W.heap.size + 1, 0, none⟩)]) ShType (fun (x : Ty) => decide (x.name = t)) W1 A s :=
    RowAt.asksC hs1 TyAt.sh2 (fun x _ cs hcs w hw => findT_any t F w ⟨(HKT.out.below hw HKT.out.lt).lt, (HKT.out.below hw HKT.out.lt).cell (i := 0) (by simp)⟩ x cs (hcs.moved (Spared.of_below hw F) (fun _ h => .inl h)))
  have HT : Hid (Calls Tryz.prog 58 #[.slice A s.length c, .func (.func 92) #[] #[.pointer (some ⟨W.heap.size + 1, 0, none⟩)]] W1 fun e w' => e = .returned (.int .i64 (typN s t)) ∧ Below W1.heap.size W1 w') := Lib.hid (indexC_Type1 enter_findT c hask hl)
  have HTI := Lib.hid (typN_is s t)
  have HRN : Hid (relN s (typN s t) n = relsN (ofT s (typN s t)) n) := Lib.hid rfl
  have x0 := HX.out W1 (Below.refl _ _)
  rw [HW.out] at x0
  clear hs1 hask hs hR hW
  unfold relAt at HRV
  generalize typN s t = ty at *
  by_cases hty : ty < 0
  · have HR2 : Hid (R = (noRel, false)) := Lib.hid (by rw [HRV.out, HRN.out, ofT_neg hty]; rfl)
    go_enter Tryz.func57, Tryz.ntmps57
    go_wp2_with (go_at_call 58; rw [← HW.out]; (refine HT.out.mono ?_); rintro r w2 ⟨rfl, hb2⟩; have HB2 := Lib.hid hb2; clear x0; have x2 := HX.out w2 hb2; have hz := HZ.out w2 hb2; have v0 := hz.cell (i := 0) (by simp); have v1 := hz.cell (i := 1) (by simp); have v2 := hz.cell (i := 2) (by simp); have v3 := hz.cell (i := 3) (by simp); have v4 := hz.cell (i := 4) (by simp); have v5 := hz.cell (i := 5) (by simp); simp only [List.getElem_cons_succ, List.getElem_cons_zero] at v0 v1 v2 v3 v4 v5; have f0 := hz.free 0; have f1 := hz.free 1; have f2 := hz.free 2; have f3 := hz.free 3; have f4 := hz.free 4; have f5 := hz.free 5; clear hz hb2)
    refine bodyPost_ret (v := .tuple #[.agg #[.string ⟨#[]⟩, .slice none 0 0, .int .i64 0, .string ⟨#[]⟩, .string ⟨#[]⟩, .slice none 0 0], .bool false]) (by simp [results, Tryz.results57, go_sem, v0, v1, v2, v3, v4, v5]) rfl ?_
    rw [HR2.out]
    exact ⟨[.string ⟨#[]⟩, .slice none 0 0, .int .i64 0, .string ⟨#[]⟩, .string ⟨#[]⟩, .slice none 0 0], rfl, noRel_at _ _, (((((((HF.out w2 HB2.out).setCell (p := ⟨W.heap.size + 3, 0, none⟩) (by show W.heap.size ≤ W.heap.size + 3; omega) _).setCell (p := ⟨W.heap.size + 3, 1, none⟩) (by show W.heap.size ≤ W.heap.size + 3; omega) _).setCell (p := ⟨W.heap.size + 3, 2, none⟩) (by show W.heap.size ≤ W.heap.size + 3; omega) _).setCell (p := ⟨W.heap.size + 3, 3, none⟩) (by show W.heap.size ≤ W.heap.size + 3; omega) _).setCell (p := ⟨W.heap.size + 3, 4, none⟩) (by show W.heap.size ≤ W.heap.size + 3; omega) _).setCell (p := ⟨W.heap.size + 3, 5, none⟩) (by show W.heap.size ≤ W.heap.size + 3; omega) _)⟩
  obtain ⟨y, hy, rfl⟩ : ∃ y, y < s.length ∧ ty = (y : Int) := by
    rcases HTI.out with h | h
    · omega
    · exact h
  have hyn : ¬ ((y : Int) < 0) := by omega
  have hof := ofT_at hy
  rw [hof] at HRN
  obtain ⟨b, off, B, d, rfl, ⟨_, hrl⟩, hr, hc⟩ := HSR.out.ty hy
  have HCT := Lib.hid (fun w hw => (hc w hw).2)
  have HRI := Lib.hid (relsN_is s[y].rels n)
  have hr1 : RowAt 6 RlAt W F B s[y].rels := hr
  have HRC : Hid (∀ w, Below W1.heap.size W1 w → Calls Tryz.prog 93 #[.slice B s[y].rels.length d, .func (.func 94) #[] #[.pointer (some ⟨W.heap.size + 2, 0, none⟩)]] w fun e w' => e = .returned (.int .i64 (relsN s[y].rels n)) ∧ Below w.heap.size w w') := Lib.hid (fun w hw => by
    have hsp := Spared.of_below (HF.out w hw) F
    have hr2 : RowAt 6 RlAt w F B s[y].rels := hr1.moved hsp (fun _ h => .inl h) (fun _ _ _ h => h.moved hsp (fun _ h => .inl h))
    have hask : EAskC 6 94 (fun v => #[v, .pointer (some ⟨W.heap.size + 2, 0, none⟩)]) ShRel (fun (x : Rl) => decide (x.name = n)) w B s[y].rels :=
      RowAt.asksC hr2 RlAt.shC (fun x _ cs hcs w' hw' => findR_any n F w' ⟨(HKN.out.below (hop hw hw') HKN.out.lt).lt, (HKN.out.below (hop hw hw') HKN.out.lt).cell (i := 0) (by simp)⟩ x cs (hcs.moved (Spared.of_below hw' F) (fun _ h => .inl h)))
    exact indexC_Rel1 enter_findR d hask (by omega))
  by_cases hneg : relsN s[y].rels n < 0
  · have HR2 : Hid (R = (noRel, false)) := Lib.hid (by rw [HRV.out, HRN.out, if_pos hneg])
    generalize relsN s[y].rels n = rk at *
    generalize s[y].rels = rs at *
    clear hc hr hr1 hof
    go_enter Tryz.func57, Tryz.ntmps57
    go_wp2_with (first
      | (go_at_call 58; rw [← HW.out]; (refine HT.out.mono ?_); rintro r w2 ⟨rfl, hb2⟩; have HB2 := Lib.hid hb2; clear x0; have x2 := HX.out w2 hb2; have z2 := HCT.out w2 (HF.out w2 hb2); clear hb2)
      | (go_at_call 93; (with_reducible refine (HRC.out w2 HB2.out).mono ?_); rintro r w3 ⟨rfl, hb3⟩; have HB3 := Lib.hid (hop HB2.out hb3); clear hb3; have hz := HZ.out w3 HB3.out; have v0 := hz.cell (i := 0) (by simp); have v1 := hz.cell (i := 1) (by simp); have v2 := hz.cell (i := 2) (by simp); have v3 := hz.cell (i := 3) (by simp); have v4 := hz.cell (i := 4) (by simp); have v5 := hz.cell (i := 5) (by simp); simp only [List.getElem_cons_succ, List.getElem_cons_zero] at v0 v1 v2 v3 v4 v5; have f0 := hz.free 0; have f1 := hz.free 1; have f2 := hz.free 2; have f3 := hz.free 3; have f4 := hz.free 4; have f5 := hz.free 5; clear hz))
    refine bodyPost_ret (v := .tuple #[.agg #[.string ⟨#[]⟩, .slice none 0 0, .int .i64 0, .string ⟨#[]⟩, .string ⟨#[]⟩, .slice none 0 0], .bool false]) (by simp [results, Tryz.results57, go_sem, v0, v1, v2, v3, v4, v5]) rfl ?_
    rw [HR2.out]
    exact ⟨[.string ⟨#[]⟩, .slice none 0 0, .int .i64 0, .string ⟨#[]⟩, .string ⟨#[]⟩, .slice none 0 0], rfl, noRel_at _ _, (((((((HF.out w3 HB3.out).setCell (p := ⟨W.heap.size + 3, 0, none⟩) (by show W.heap.size ≤ W.heap.size + 3; omega) _).setCell (p := ⟨W.heap.size + 3, 1, none⟩) (by show W.heap.size ≤ W.heap.size + 3; omega) _).setCell (p := ⟨W.heap.size + 3, 2, none⟩) (by show W.heap.size ≤ W.heap.size + 3; omega) _).setCell (p := ⟨W.heap.size + 3, 3, none⟩) (by show W.heap.size ≤ W.heap.size + 3; omega) _).setCell (p := ⟨W.heap.size + 3, 4, none⟩) (by show W.heap.size ≤ W.heap.size + 3; omega) _).setCell (p := ⟨W.heap.size + 3, 5, none⟩) (by show W.heap.size ≤ W.heap.size + 3; omega) _)⟩
  obtain ⟨k, hk, hkr⟩ : ∃ k, k < s[y].rels.length ∧ relsN s[y].rels n = (k : Int) := by
    rcases HRI.out with h | h
    · omega
    · exact h
  have HR2 : Hid (R = (s[y].rels[k], true)) := Lib.hid (by rw [HRV.out, HRN.out, if_neg hneg, hof, hkr, Int.toNat_natCast, List.getElem?_eq_getElem hk]; rfl)
  have hcp2 : cpR s[y].rels[k] := by rw [HR2.out] at hcp; exact hcp rfl
  rw [hkr] at HRC
  obtain ⟨g, og, n1, B1, m1, c1, k1, p1, q1, E1, m2, c2, rfl, hE, hcells⟩ := RowAt.rel hr hk
  have HCE := Lib.hid hcells
  have HCR : Hid (∀ w, Below W1.heap.size W1 w → Calls Tryz.prog 95 #[.agg #[strV n1, .slice B1 m1 c1, .int .i64 k1, strV p1, strV q1, .slice E1 m2 c2]] w (CopyR w s[y].rels[k])) := Lib.hid (fun w hw => copyR_any _ w F _ hcp2 (hE.below (HF.out w hw)))
  have hknn : ¬ ((k : Int) < 0) := by omega
  clear hneg hkr
  generalize s[y].rels[k] = x at *
  generalize s[y].rels = rs at *
  clear hc hr hr1 hof hcells hE hcp hcp2
  go_enter Tryz.func57, Tryz.ntmps57
  go_wp2_with (first
    | (go_at_call 58; rw [← HW.out]; (refine HT.out.mono ?_); rintro r w2 ⟨rfl, hb2⟩; have HB2 := Lib.hid hb2; clear x0; have x2 := HX.out w2 hb2; have z2 := HCT.out w2 (HF.out w2 hb2); clear hb2)
    | (go_at_call 93; (with_reducible refine (HRC.out w2 HB2.out).mono ?_); rintro r w3 ⟨rfl, hb3⟩; have HB3 := Lib.hid (hop HB2.out hb3); clear hb3; have zz2 := z2; clear z2; obtain ⟨e0, e1, e2, e3, e4, e5⟩ := HCE.out w3 (HF.out w3 HB3.out))
    | (go_at_call 95; (with_reducible refine (HCR.out w3 HB3.out).mono ?_); rintro r w4 ⟨cs4, rfl, hx4, hb4⟩; have HX4 := Lib.hid hx4; obtain ⟨B4, m4, k4, n4, o4, E4, me4, ce4, rfl, _, _, _⟩ := HX4.out.six; have HB4 := Lib.hid (hop HB3.out hb4); have hz := HZ.out w4 HB4.out; have v0 := hz.cell (i := 0) (by simp); have v1 := hz.cell (i := 1) (by simp); have v2 := hz.cell (i := 2) (by simp); have v3 := hz.cell (i := 3) (by simp); have v4 := hz.cell (i := 4) (by simp); have v5 := hz.cell (i := 5) (by simp); simp only [List.getElem_cons_succ, List.getElem_cons_zero] at v0 v1 v2 v3 v4 v5; have f0 := hz.free 0; have f1 := hz.free 1; have f2 := hz.free 2; have f3 := hz.free 3; have f4 := hz.free 4; have f5 := hz.free 5; clear hz hb4 hx4))
  refine bodyPost_ret (v := .tuple #[.agg #[strV x.name, .slice B4 x.refs.length m4, .int .i64 k4, strV n4, strV o4, .slice E4 me4 ce4], .bool true]) (by simp [results, Tryz.results57, go_sem, v0, v1, v2, v3, v4, v5]) rfl ?_
  rw [HR2.out]
  have hsp : Spared w4 ((((((w4.setCell ⟨W.heap.size + 3, 0, none⟩ (strV x.name)).setCell ⟨W.heap.size + 3, 1, none⟩ (.slice B4 x.refs.length m4)).setCell ⟨W.heap.size + 3, 2, none⟩ (.int .i64 k4)).setCell ⟨W.heap.size + 3, 3, none⟩ (strV n4)).setCell ⟨W.heap.size + 3, 4, none⟩ (strV o4)).setCell ⟨W.heap.size + 3, 5, none⟩ (.slice E4 me4 ce4)) (fun b => b < w3.heap.size) := by
    have hF : (fun b => b < w3.heap.size) (W.heap.size + 3) := by
      have h1 := HKE.out.lt
      have h2 := HB3.out.size
      show W.heap.size + 3 < w3.heap.size
      omega
    exact ((((((Spared.refl w4 (fun b => b < w3.heap.size)).setCell hF _ _).setCell hF _ _).setCell hF _ _).setCell hF _ _).setCell hF _ _).setCell hF _ _
  exact ⟨_, rfl, HX4.out.moved hsp (fun _ h => h.elim), (((((((HF.out w4 HB4.out).setCell (p := ⟨W.heap.size + 3, 0, none⟩) (by show W.heap.size ≤ W.heap.size + 3; omega) _).setCell (p := ⟨W.heap.size + 3, 1, none⟩) (by show W.heap.size ≤ W.heap.size + 3; omega) _).setCell (p := ⟨W.heap.size + 3, 2, none⟩) (by show W.heap.size ≤ W.heap.size + 3; omega) _).setCell (p := ⟨W.heap.size + 3, 3, none⟩) (by show W.heap.size ≤ W.heap.size + 3; omega) _).setCell (p := ⟨W.heap.size + 3, 4, none⟩) (by show W.heap.size ≤ W.heap.size + 3; omega) _).setCell (p := ⟨W.heap.size + 3, 5, none⟩) (by show W.heap.size ≤ W.heap.size + 3; omega) _)⟩
end Go.Proofs.YtehabjiacgibpaaGreat
namespace Go.Proofs.YtehabjiacgibpaaGreat
open Go.RowKit
set_option maxRecDepth 100000 in
theorem enter_typeOfT (args : Array Value) (w : World) : (callFunc 59 args).run Tryz.prog w = .ok (.enter 59 args) w := rfl
set_option maxRecDepth 100000 in
set_option maxHeartbeats 1000000 in
theorem typeOfT_any (n : Txt) (F : Nat → Prop) (W : World) {b : Nat} (hb : b < W.heap.size ∧ W.cell? ⟨b, 0, none⟩ = some (strV n)) (x : Ty) (cs : List Value) (hx : TyAt W F x cs) :
    Calls Tryz.prog 59 #[.agg cs.toArray, .pointer (some ⟨b, 0, none⟩)] W fun r w' => r = .returned (.bool (decide (x.name = n))) ∧ Below W.heap.size W w' := by
  obtain ⟨B, d, rfl, _, _⟩ := hx
  show Calls _ _ #[.agg #[strV x.name, .slice B x.rels.length d], _] _ _
  obtain ⟨v, hv⟩ : ∃ v, v = decide (x.name = n) := ⟨_, rfl⟩
  rw [← hv]
  have hb0 := (Below.refl W.heap.size W).alloc (Nat.le_refl _) (.cells #[strV x.name, .slice B x.rels.length d] 65)
  have y0 := (hb0.cell (p := ⟨b, 0, none⟩) hb.1).trans hb.2
  have HV := Lib.hid hv
  have HB0 := Lib.hid hb0
  clear hv hb hb0
  generalize x.name = xn at *
  generalize x.rels.length = xl at *
  by_cases he : xn = n
  · have HV2 : Hid (v = true) := Lib.hid (by rw [HV.out]; exact decide_eq_true he)
    subst he
    go_enter Tryz.func59, Tryz.ntmps59
    go_wp2_with fail
    go_ret
    exact ⟨by rw [HV2.out]; (first | rfl | simp), HB0.out⟩
  · have HV2 : Hid (v = false) := Lib.hid (by rw [HV.out]; exact decide_eq_false he)
    go_enter Tryz.func59, Tryz.ntmps59
    go_wp2_with fail
    go_ret
    exact ⟨by rw [HV2.out]; (first | rfl | simp [he]), HB0.out⟩
def noTy : Ty := ⟨[], []⟩
def typeT (s : Sc) (n : Txt) : Ty := if typN s n < 0 then noTy else (s[(typN s n).toNat]?).getD noTy
theorem noTy_at (W : World) (F : Nat → Prop) : TyAt W F noTy [.string ⟨#[]⟩, .slice none 0 0] :=
  ⟨none, 0, rfl, ⟨⟨by unfold small noTy; simp, Nat.le_refl _⟩, by simp [noTy]⟩, .inl rfl⟩
def TypeP (W : World) (F : Nat → Prop) (s : Sc) (n : Txt) (e : Ending) (w' : World) : Prop := ∃ (B : Option Addr) (d : Nat), e = .returned (.tuple #[.agg #[strV (typeT s n).name, .slice B (typeT s n).rels.length d], .bool (decide (0 ≤ typN s n))]) ∧ TyAt w' F (typeT s n) [strV (typeT s n).name, .slice B (typeT s n).rels.length d] ∧ Below W.heap.size W w'
set_option maxRecDepth 100000 in
set_option maxHeartbeats 4000000 in
theorem typeOf_any (s : Sc) (n : Txt) (W : World) (F : Nat → Prop) (A : Option Addr) (c : Nat) (hs : ScAt W F A s) (hl : s.length ≤ 9223372036854775807) :
    Calls Tryz.prog 37 #[.agg #[.slice A s.length c], strV n] W (TypeP W F s n) := by
  unfold TypeP
  obtain ⟨T, hT⟩ : ∃ T, T = typeT s n := ⟨_, rfl⟩
  rw [← hT]
  obtain ⟨W1, hW⟩ : ∃ W1, W1 = ((W.alloc (.cells #[.slice A s.length c] 39)).alloc (.cells #[strV n] 9)).alloc (.cells #[.string ⟨#[]⟩, .slice none 0 0] 65) := ⟨_, rfl⟩
  have HKA : Hid (Blk W1 W.heap.size [.slice A s.length c] 39) := by rw [hW]; exact Lib.hid (((Blk.new W _ _).alloc _).alloc _)
  have HKT : Hid (Blk W1 (W.heap.size + 1) [strV n] 9) := by
    rw [hW]
    have := Blk.new (W.alloc (.cells #[.slice A s.length c] 39)) [strV n] 9
    rw [World.size_alloc] at this
    exact Lib.hid (this.alloc _)
  have HKE : Hid (Blk W1 (W.heap.size + 2) [.string ⟨#[]⟩, .slice none 0 0] 65) := by
    rw [hW]
    have := Blk.new ((W.alloc (.cells #[.slice A s.length c] 39)).alloc (.cells #[strV n] 9)) [.string ⟨#[]⟩, .slice none 0 0] 65
    rw [World.size_alloc, World.size_alloc] at this
    exact Lib.hid this
  have HB0 : Hid (Below W.heap.size W W1) := by rw [hW]; exact Lib.hid ((((Below.refl _ _).alloc (Nat.le_refl _) _).alloc (by simp) _).alloc (by simp; omega) _)
  have HW := Lib.hid hW
  have HX : Hid (∀ w, Below W1.heap.size W1 w → w.cell? ⟨W.heap.size, 0, none⟩ = some (.slice A s.length c)) := Lib.hid (fun w hw => (HKA.out.below hw HKA.out.lt).cell (i := 0) (by simp))
  have HZ : Hid (∀ w, Below W1.heap.size W1 w → Blk w (W.heap.size + 2) [.string ⟨#[]⟩, .slice none 0 0] 65) := Lib.hid (fun w hw => HKE.out.below hw HKE.out.lt)
  have HF : Hid (∀ w, Below W1.heap.size W1 w → Below W.heap.size W w) := Lib.hid (fun w hw => HB0.out.trans (hw.mono HB0.out.size))
  have HSR : Hid (RowAt 2 TyAt W F A s) := Lib.hid hs
  have hs1 : RowAt 2 TyAt W1 F A s := ScAt.moved (Spared.of_below HB0.out F) (fun _ h => .inl h) hs
  have hask : EAskC 2 59 (fun v => #[v, .pointer (some ⟨W.heap.size + 1, 0, none⟩)]) ShType (fun (x : Ty) => decide (x.name = n)) W1 A s :=
    RowAt.asksC hs1 TyAt.sh2 (fun x _ cs hcs w hw => typeOfT_any n F w ⟨(HKT.out.below hw HKT.out.lt).lt, (HKT.out.below hw HKT.out.lt).cell (i := 0) (by simp)⟩ x cs (hcs.moved (Spared.of_below hw F) (fun _ h => .inl h)))
  have HT : Hid (Calls Tryz.prog 58 #[.slice A s.length c, .func (.func 59) #[] #[.pointer (some ⟨W.heap.size + 1, 0, none⟩)]] W1 fun e w' => e = .returned (.int .i64 (typN s n)) ∧ Below W1.heap.size W1 w') := Lib.hid (indexC_Type1 enter_typeOfT c hask hl)
  have HTI := Lib.hid (typN_is s n)
  have HTT := Lib.hid hT
  unfold typeT at HTT
  have x0 := HX.out W1 (Below.refl _ _)
  rw [HW.out] at x0
  clear hs1 hask hs hW hT
  generalize typN s n = ty at *
  by_cases hty : ty < 0
  · have HR2 : Hid (T = noTy) := Lib.hid (by rw [HTT.out, if_pos hty])
    go_enter Tryz.func37, Tryz.ntmps37
    go_wp2_with (go_at_call 58; rw [← HW.out]; (refine HT.out.mono ?_); rintro r w2 ⟨rfl, hb2⟩; have HB2 := Lib.hid hb2; clear x0; have x2 := HX.out w2 hb2; have hz := HZ.out w2 hb2; have v0 := hz.cell (i := 0) (by simp); have v1 := hz.cell (i := 1) (by simp); simp only [List.getElem_cons_succ, List.getElem_cons_zero] at v0 v1; have f0 := hz.free 0; have f1 := hz.free 1; clear hz hb2)
    refine bodyPost_ret (v := .tuple #[.agg #[.string ⟨#[]⟩, .slice none 0 0], .bool false]) (by simp [results, Tryz.results37, go_sem, v0, v1]) rfl ?_
    rw [HR2.out, decide_eq_false (show ¬ (0 ≤ ty) by omega)]
    exact ⟨none, 0, rfl, noTy_at _ _, (((HF.out w2 HB2.out).setCell (p := ⟨W.heap.size + 2, 0, none⟩) (by show W.heap.size ≤ W.heap.size + 2; omega) _).setCell (p := ⟨W.heap.size + 2, 1, none⟩) (by show W.heap.size ≤ W.heap.size + 2; omega) _)⟩
  obtain ⟨y, hy, rfl⟩ : ∃ y, y < s.length ∧ ty = (y : Int) := by
    rcases HTI.out with h | h
    · omega
    · exact h
  have hyn : ¬ ((y : Int) < 0) := by omega
  have HR2 : Hid (T = s[y]) := Lib.hid (by rw [HTT.out, if_neg hyn, Int.toNat_natCast, List.getElem?_eq_getElem hy]; rfl)
  obtain ⟨b, off, B, d, rfl, hsm, hr, hc⟩ := HSR.out.tyc hy
  have HAT : Hid (TyAt W F s[y] [strV s[y].name, .slice B s[y].rels.length d]) := Lib.hid ⟨B, d, rfl, hsm, hr⟩
  have HC := Lib.hid (fun w hw => hc w hw)
  rw [HR2.out]
  clear HTT HSR
  generalize s[y] = x at *
  clear hc hr hsm HTI
  go_enter Tryz.func37, Tryz.ntmps37
  go_wp2_with (go_at_call 58; rw [← HW.out]; (refine HT.out.mono ?_); rintro r w2 ⟨rfl, hb2⟩; have HB2 := Lib.hid hb2; clear x0; have x2 := HX.out w2 hb2; obtain ⟨e0, e1⟩ := HC.out w2 (HF.out w2 hb2); have hz := HZ.out w2 hb2; have v0 := hz.cell (i := 0) (by simp); have v1 := hz.cell (i := 1) (by simp); simp only [List.getElem_cons_succ, List.getElem_cons_zero] at v0 v1; have f0 := hz.free 0; have f1 := hz.free 1; clear hz hb2)
  refine bodyPost_ret (v := .tuple #[.agg #[strV x.name, .slice B x.rels.length d], .bool true]) (by simp [results, Tryz.results37, go_sem, v0, v1]) rfl ?_
  have hb3 : Below W.heap.size W ((w2.setCell ⟨W.heap.size + 2, 0, none⟩ (strV x.name)).setCell ⟨W.heap.size + 2, 1, none⟩ (.slice B x.rels.length d)) :=
    ((HF.out w2 HB2.out).setCell (p := ⟨W.heap.size + 2, 0, none⟩) (by show W.heap.size ≤ W.heap.size + 2; omega) _).setCell (p := ⟨W.heap.size + 2, 1, none⟩) (by show W.heap.size ≤ W.heap.size + 2; omega) _
  exact ⟨B, d, by rw [decide_eq_true (show (0 : Int) ≤ (y : Int) by omega)], HAT.out.below hb3, hb3⟩
end Go.Proofs.YtehabjiacgibpaaGreat
namespace Go.Proofs.YtehabjiacgibpaaGreat
open Go.RowKit
theorem make_rels (n : Nat) (h : n ≤ 1000000) : ∃ M : List Value, M.length = n * 6 ∧ ∀ w, (Instr.makeSlice 63 (.int .i64 (n : Int)) (.int .i64 (n : Int))).run Tryz.prog w = .ok (.slice (some ⟨w.heap.size, 0, none⟩) n n) (w.alloc (.cells M.toArray 71)) := by
  have hf : (Tryz.prog.info? 71).map (fun i => (i.zero, i.size, i.bytes)) = some (some (.agg #[.string ⟨#[]⟩, .slice none 0 0, .int .i64 0, .string ⟨#[]⟩, .string ⟨#[]⟩, .slice none 0 0]), 6, 104) := by kernel_rfl
  obtain ⟨i, hi, he⟩ := Option.map_eq_some_iff.1 hf
  injection he with h1 h2
  injection h2 with h2 h3
  refine ⟨(madeCells (Value.agg #[.string ⟨#[]⟩, .slice none 0 0, .int .i64 0, .string ⟨#[]⟩, .string ⟨#[]⟩, .slice none 0 0]).cells (n * 6)).toList, by simp [madeCells], fun w => ?_⟩
  have hr := run_make (P := Tryz.prog) w 63 71 i _ Tryz.underlying63 hi h1 .i64 .i64 (n : Int) (n : Int) (by omega) (Int.le_refl _) (by rw [h3]; omega) (by omega)
  rw [Int.toNat_natCast, h2] at hr
  rw [hr, Array.toArray_toList]
def RefsP (W : World) (R : Rl × Bool) (e : Ending) (w' : World) : Prop := ∃ (B : Option Addr) (d : Nat), e = .returned (.tuple #[.slice B R.1.refs.length d, .bool R.2]) ∧ RowAt 2 RfAt w' (fun _ => False) B R.1.refs ∧ R.1.refs.length ≤ 9223372036854775807 ∧ Below W.heap.size W w'
def BareTo (W : World) (rs : List Rl) (k : Nat) (M : List Value) : Prop := M.length = rs.length * 6 ∧ ∀ j (h : j < rs.length), j < k → ∃ cs, RlAt W (fun _ => False) (bareR rs[j]) cs ∧ ∀ q, q < 6 → M[j * 6 + q]? = cs[q]?
theorem BareTo.push {W : World} {rs : List Rl} {k : Nat} {M : List Value} (h : BareTo W rs k M) (hk : k < rs.length) {c0 c1 c2 c3 c4 c5 : Value} (hc : RlAt W (fun _ => False) (bareR rs[k]) [c0, c1, c2, c3, c4, c5]) :
    BareTo W rs (k + 1) ((((((M.set (k * 6) c0).set (k * 6 + 1) c1).set (k * 6 + 2) c2).set (k * 6 + 3) c3).set (k * 6 + 4) c4).set (k * 6 + 5) c5) := by
  obtain ⟨h1, h2⟩ := set6_get M k c0 c1 c2 c3 c4 c5 (by rw [h.1]; omega)
  refine ⟨by simp [h.1], fun j hj hjk => ?_⟩
  rcases Nat.lt_or_ge j k with hlt | hge
  · obtain ⟨cs, a, b⟩ := h.2 j hj hlt
    exact ⟨cs, a, fun q hq => by rw [h2 _ (by omega)]; exact b q hq⟩
  · obtain rfl : j = k := by omega
    exact ⟨_, hc, h1⟩
theorem BareTo.row {W w : World} {rs : List Rl} {M : List Value} {g : Nat} (h : BareTo W rs rs.length M) (hB : Blk w g M 71) (hb : Below W.heap.size W w) : RowAt 6 RlAt w (fun _ => False) (some ⟨g, 0, none⟩) (rs.map bareR) := by
  refine .inr ⟨g, 0, rfl, hB.lt, fun h => h, fun j hj => ?_⟩
  rw [List.length_map] at hj
  obtain ⟨cs, a, b⟩ := h.2 j hj hj
  rw [List.getElem_map]
  refine ⟨cs, a.below hb, fun i hi => ?_⟩
  have hlt : j * 6 + i < M.length := by rw [h.1]; omega
  rw [← b i hi, List.getElem?_eq_getElem hlt, Nat.zero_add]
  exact hB.cell hlt
theorem bare_at {W : World} {x : Rl} {A : Option Addr} {c : Nat} (hn : small x.name ∧ x.refs.length ≤ 9223372036854775807) (hr : RowAt 2 RfAt W (fun _ => False) A x.refs) :
    RlAt W (fun _ => False) (bareR x) [strV x.name, .slice A x.refs.length c, .int .i64 0, .string ⟨#[]⟩, .string ⟨#[]⟩, .slice none 0 0] :=
  ⟨A, c, _, rfl, hn, hr, by
    show ExAt W _ (.mk 0 [] [] []) _
    unfold ExAt
    exact ⟨none, 0, rfl, ⟨by unfold fitsI; omega, by unfold small; simp, by unfold small; simp, by simp⟩, .inl rfl⟩⟩
theorem bare_cp {rs : List Rl} (h : ∀ r ∈ rs, (r.name.length ≤ 281474976710656 ∧ r.refs.length ≤ 1000000) ∧ ∀ f ∈ r.refs, f.1.length ≤ 281474976710656 ∧ f.2.length ≤ 281474976710656) (t n : Txt) (hf : (findR [⟨t, rs.map bareR⟩] t n).2 = true) : cpR (findR [⟨t, rs.map bareR⟩] t n).1 := by
  rw [find_bare] at hf ⊢
  by_cases hk : relsN rs n < 0
  · rw [if_pos hk] at hf; cases hf
  rw [if_neg hk]
  rcases relsN_is rs n with h1 | ⟨j, hj, h1⟩
  · omega
  rw [h1, Int.toNat_natCast, List.getElem?_eq_getElem hj]
  show cpR (bareR rs[j])
  obtain ⟨a, b⟩ := h rs[j] (List.getElem_mem hj)
  refine ⟨a, b, ?_⟩
  show cpE (.mk 0 [] [] [])
  unfold cpE
  refine ⟨by simp, by simp, by simp, ?_⟩
  unfold cpL
  trivial
theorem typeT_mem {s : Sc} {n : Txt} : typeT s n = noTy ∨ typeT s n ∈ s := by
  unfold typeT
  split
  · exact .inl rfl
  cases h : s[(typN s n).toNat]? with
  | none => exact .inl rfl
  | some x => exact .inr (List.mem_of_getElem? h)
theorem ofT_typeT (s : Sc) (n : Txt) : ofT s (typN s n) = (typeT s n).rels := by
  unfold ofT typeT
  split
  · rfl
  cases s[(typN s n).toNat]? <;> rfl
theorem find_of (s : Sc) (t n : Txt) : (findR [⟨t, (typeT s t).rels.map bareR⟩] t n).1.refs = (findR s t n).1.refs ∧ (findR [⟨t, (typeT s t).rels.map bareR⟩] t n).2 = (findR s t n).2 := by
  rw [find_bare]
  unfold findR
  dsimp only
  unfold relN relAt
  rw [ofT_typeT]
  split <;> exact ⟨rfl, rfl⟩
set_option maxRecDepth 100000 in
set_option maxHeartbeats 4000000 in
theorem refsOf_any (s : Sc) (t n : Txt) (W : World) (F : Nat → Prop) (A : Option Addr) (c : Nat) (hs : ScAt W F A s) (hl : s.length ≤ 9223372036854775807) (hcp : cpS s) (ht : small t) :
    Calls Tryz.prog 36 #[.agg #[.slice A s.length c], strV t, strV n] W (RefsP W (findR s t n)) := by
  have hs0 : ScAt W (fun _ => False) A s := hs.moved (Spared.refl W F) (fun _ h => h.elim)
  obtain ⟨w0, hw0⟩ : ∃ w0, w0 = W.alloc (.cells #[.slice A s.length c] 39) := ⟨_, rfl⟩
  have hb0 : Below W.heap.size W w0 := by rw [hw0]; exact (Below.refl _ _).alloc (Nat.le_refl _) _
  have HT := Lib.hid (typeOf_any s t w0 (fun _ => False) A c (hs0.below hb0) hl)
  have hrl : (typeT s t).rels.length ≤ 1000000 ∧ ∀ r ∈ (typeT s t).rels, (r.name.length ≤ 281474976710656 ∧ r.refs.length ≤ 1000000) ∧ ∀ f ∈ r.refs, f.1.length ≤ 281474976710656 ∧ f.2.length ≤ 281474976710656 := by
    rcases typeT_mem (s := s) (n := t) with h | h
    · rw [h]; exact ⟨by simp [noTy], fun r hr => by simp [noTy] at hr⟩
    · exact hcp _ h
  obtain ⟨hf1, hf2⟩ := find_of s t n
  have HFN : Hid (∃ R, R = findR [⟨t, (typeT s t).rels.map bareR⟩] t n ∧ R.1.refs = (findR s t n).1.refs ∧ R.2 = (findR s t n).2) := ⟨_, rfl, hf1, hf2⟩
  have HCP := Lib.hid (bare_cp hrl.2 t n)
  have hrn := hrl.1
  have HB0 := Lib.hid hb0
  have HW0 := Lib.hid hw0
  unfold RefsP
  obtain ⟨R, hR⟩ : ∃ R, R = findR s t n := ⟨_, rfl⟩
  rw [← hR] at HFN ⊢
  unfold TypeP at HT
  generalize typeT s t = T at *
  obtain ⟨tn, rs⟩ := T
  generalize decide (0 ≤ typN s t) = ok at *
  dsimp only at HT HCP hrn HFN
  have hst := ht
  clear hf1 hf2 hrl hs hs0 hcp hb0 hw0 hR ht
  go_enter Tryz.func36, Tryz.ntmps36
  go_wp2_with (go_at_call 37; rw [← HW0.out]; (refine HT.out.mono ?_); rintro r w2 ⟨B, d, rfl, hT, hb2⟩; have HTA := Lib.hid hT; have HB2 := Lib.hid (HB0.out.trans (hb2.mono HB0.out.size)); obtain ⟨M0, hM0, hmk⟩ := make_rels rs.length hrn; have HM0 := Lib.hid hM0; clear hT hb2 hM0)
  have HTR : Hid (RowAt 6 RlAt w2 (fun _ => False) B rs) := by
    obtain ⟨B', d', he, _, hr⟩ := HTA.out
    injection he with e1 e2
    injection e2 with e2 _
    injection e2 with e3 _ _
    subst e3
    exact hr
  clear HTA HT
  go_loopw [28] (fun i wr => ∃ (k : Nat) (M : List Value), i = .int .i64 (k : Int) ∧ k ≤ rs.length ∧ Hid (Blk wr (w2.heap.size + 1) M 71) ∧ Hid (BareTo w2 rs k M) ∧ Hid (Below w2.heap.size w2 wr) ∧ Hid (Blk wr w2.heap.size [strV tn, .slice B rs.length d] 65)) (fun i _ => rs.length - (intOf i).toNat)
  case atStart =>
    refine ⟨0, M0, rfl, Nat.zero_le _, ?_, ⟨HM0.out, fun j _ h => absurd h (Nat.not_lt_zero _)⟩, ?_, ?_⟩
    · have := Blk.new (w2.alloc (.cells #[strV tn, .slice B rs.length d] 65)) M0 71
      rw [World.size_alloc] at this
      exact this
    · exact ((Below.refl _ _).alloc (Nat.le_refl _) _).alloc (by simp) _
    · exact (Blk.new w2 [strV tn, .slice B rs.length d] 65).alloc _
  case round =>
    clear hmk HM0
    obtain ⟨k, M, rfl, hk, HK, HD, HB, HY⟩ := hrel
    by_cases hlt : k < rs.length
    · obtain ⟨b, off, n1, A1, m1, c1, k1, p1, q1, E1, m2, c2, rfl, hRl, hcells⟩ := HTR.out.rel hlt
      obtain ⟨e0, e1, e2, e3, e4, e5⟩ := hcells wr HB.out
      have hbr : RlAt w2 (fun _ => False) (bareR rs[k]) [strV n1, .slice A1 m1 c1, .int .i64 0, .string ⟨#[]⟩, .string ⟨#[]⟩, .slice none 0 0] := by
        obtain ⟨A', c', es, he, hsm, hrr, _⟩ := hRl
        injection he with h1 h2
        injection h2 with h2 _
        injection h2 with h3 h4 h5
        subst h3 h4 h5
        rw [h1]
        exact bare_at hsm hrr
      have HD2 := Lib.hid (HD.out.push hlt hbr)
      have hlen := HD.out.1
      have l6 : k * 6 + 5 < M.length := by rw [hlen]; omega
      have z0 := HK.out.cell (i := k * 6) (by omega)
      have z1 := HK.out.cell (i := k * 6 + 1) (by omega)
      have z2 := HK.out.cell (i := k * 6 + 2) (by omega)
      have z3 := HK.out.cell (i := k * 6 + 3) (by omega)
      have z4 := HK.out.cell (i := k * 6 + 4) (by omega)
      have z5 := HK.out.cell (i := k * 6 + 5) (by omega)
      generalize M[k * 6] = y0 at z0
      generalize M[k * 6 + 1] = y1 at z1
      generalize M[k * 6 + 2] = y2 at z2
      generalize M[k * 6 + 3] = y3 at z3
      generalize M[k * 6 + 4] = y4 at z4
      generalize M[k * 6 + 5] = y5 at z5
      have f0 := HK.out.free (k * 6)
      have f1 := HK.out.free (k * 6 + 1)
      have f2 := HK.out.free (k * 6 + 2)
      have f3 := HK.out.free (k * 6 + 3)
      have f4 := HK.out.free (k * 6 + 4)
      have f5 := HK.out.free (k * 6 + 5)
      have hgo : w2.heap.size + 1 < wr.heap.size := HK.out.lt
      clear hRl hcells hbr hlen l6
      go_wp2_with fail
      go_roundw
      case rel =>
        refine ⟨k + 1, _, by go_num, by omega, Lib.hid (((((((HK.out.set _ _).set _ _).set _ _).set _ _).set _ _).set _ _).alloc _), HD2, ?_, ?_⟩
        · have hb1 := ((((((HB.out.setCell (p := ⟨w2.heap.size + 1, k * 6, none⟩) (by show w2.heap.size ≤ w2.heap.size + 1; omega) (strV n1)).setCell (p := ⟨w2.heap.size + 1, k * 6 + 1, none⟩) (by show w2.heap.size ≤ w2.heap.size + 1; omega) (.slice A1 m1 c1)).setCell (p := ⟨w2.heap.size + 1, k * 6 + 2, none⟩) (by show w2.heap.size ≤ w2.heap.size + 1; omega) (.int .i64 0)).setCell (p := ⟨w2.heap.size + 1, k * 6 + 3, none⟩) (by show w2.heap.size ≤ w2.heap.size + 1; omega) (.string ⟨#[]⟩)).setCell (p := ⟨w2.heap.size + 1, k * 6 + 4, none⟩) (by show w2.heap.size ≤ w2.heap.size + 1; omega) (.string ⟨#[]⟩)).setCell (p := ⟨w2.heap.size + 1, k * 6 + 5, none⟩) (by show w2.heap.size ≤ w2.heap.size + 1; omega) (.slice none 0 0))
          exact Lib.hid (hb1.alloc hb1.size _)
        · have ho : w2.heap.size ≠ w2.heap.size + 1 := by omega
          exact Lib.hid (((((((HY.out.other _ _ ho).other _ _ ho).other _ _ ho).other _ _ ho).other _ _ ho).other _ _ ho).alloc _)
      case measure => simp [intOf]; omega
    · obtain rfl : k = rs.length := by omega
      have HRW := Lib.hid (HD.out.row HK.out HB.out)
      obtain ⟨R2, hR2, g1, g2⟩ := HFN.out
      have HFD : Hid (Calls Tryz.prog 57 #[.agg #[.slice (some ⟨wr.heap.size, 0, none⟩) 1 1], strV t, strV n] (wr.alloc (.cells #[strV t, .slice (some ⟨w2.heap.size + 1, 0, none⟩) rs.length rs.length] 65)) (FoundP (wr.alloc (.cells #[strV t, .slice (some ⟨w2.heap.size + 1, 0, none⟩) rs.length rs.length] 65)) R2)) := by
        have hbw := (Below.refl wr.heap.size wr).alloc (Nat.le_refl _) (.cells #[strV t, .slice (some ⟨w2.heap.size + 1, 0, none⟩) rs.length rs.length] 65)
        have hrow : RowAt 6 RlAt (wr.alloc (.cells #[strV t, .slice (some ⟨w2.heap.size + 1, 0, none⟩) rs.length rs.length] 65)) (fun _ => False) (some ⟨w2.heap.size + 1, 0, none⟩) (rs.map bareR) :=
          HRW.out.moved (Spared.of_below hbw _) (fun _ h => .inl h) (fun _ _ _ h => h.below hbw)
        have hty : TyAt (wr.alloc (.cells #[strV t, .slice (some ⟨w2.heap.size + 1, 0, none⟩) rs.length rs.length] 65)) (fun _ => False) ⟨t, rs.map bareR⟩ [strV t, .slice (some ⟨w2.heap.size + 1, 0, none⟩) rs.length rs.length] :=
          ⟨_, _, by rw [List.length_map], ⟨⟨hst, by rw [List.length_map]; exact Nat.le_refl _⟩, by rw [List.length_map]; omega⟩, hrow⟩
        have hsc : ScAt (wr.alloc (.cells #[strV t, .slice (some ⟨w2.heap.size + 1, 0, none⟩) rs.length rs.length] 65)) (fun _ => False) (some ⟨wr.heap.size, 0, none⟩) [⟨t, rs.map bareR⟩] := by
          refine .inr ⟨wr.heap.size, 0, rfl, by simp, fun h => h, fun j hj => ?_⟩
          have hj0 : j = 0 := by simp at hj; omega
          subst hj0
          refine ⟨_, hty, fun i hi => ?_⟩
          have hBn := Blk.new wr [strV t, .slice (some ⟨w2.heap.size + 1, 0, none⟩) rs.length rs.length] 65
          rw [show 0 + 0 * 2 + i = i from by omega, List.getElem?_eq_getElem (show i < [strV t, Value.slice (some ⟨w2.heap.size + 1, 0, none⟩) rs.length rs.length].length from hi)]
          exact hBn.cell hi
        rw [hR2]
        exact find_any [⟨t, rs.map bareR⟩] t n _ _ _ 1 hsc (by simp) HCP.out
      have HB6 := Lib.hid (HB2.out.trans (HB.out.mono HB2.out.size))
      clear HRW hR2 HD HCP HFN HK
      go_wp2_with (go_at_call 57; (refine HFD.out.mono ?_); rintro r w6 ⟨cs, rfl, hR6, hb6⟩; obtain ⟨B7, c7, k7, n7, o7, E7, m7, d7, rfl, ⟨_, hl7⟩, hr7, _⟩ := hR6.six; have HR7 := Lib.hid hr7; have HL7 := Lib.hid hl7; have HB7 := Lib.hid (hop (HB6.out.alloc HB6.out.size _) hb6); clear hR6 hr7 hl7 hb6)
      go_ret2
      rw [← g1, ← g2]
      have hb8 := HB7.out.alloc HB7.out.size (.cells #[strV R2.1.name, .slice B7 R2.1.refs.length c7, .int .i64 k7, strV n7, strV o7, .slice E7 m7 d7] 71)
      have hb9 := (Below.refl w6.heap.size w6).alloc (Nat.le_refl _) (.cells #[strV R2.1.name, .slice B7 R2.1.refs.length c7, .int .i64 k7, strV n7, strV o7, .slice E7 m7 d7] 71)
      exact ⟨B7, c7, rfl, HR7.out.moved (Spared.of_below hb9 _) (fun _ h => .inl h) (fun _ _ _ h => h), HL7.out, hb8⟩
end Go.Proofs.YtehabjiacgibpaaGreat
