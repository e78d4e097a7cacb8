/-
  A relation by its names (the program's Find). Conditions: the schema is there; what is found can be copied.
  Check and Levels: as examine answers. Condition: the schema is there.
  The chapter's examples of layer 12 hold. No condition.
  How many parts a schema has: as Few counts them; as the tokens it is parsed from bound them. No program is named.
  Few parts are few of each kind. No program is named.
-/
import Derived.Test.YtdnhbledndgbcaaGreatCRoCr
import Derived.Test.YtdnhbledndgbcaaGreatCRoR
import Derived.Test.YtdnhbledndgbcaaGreatCRuF0
import Derived.Test.YtdnhbledndgbcaaGreatCRoXm
import Derived.Test.YtdnhbledndgbcaaGreatCLpTm
import Derived.Test.YtdnhbledndgbcaaGreatCRkRd
import Derived.Test.YtdnhbledndgbcaaGreatCLpPa
import Derived.Test.YtdnhbledndgbcaaGreatCLaF
namespace Go.Proofs.YtdnhbledndgbcaaGreat
open Go.RowKit
set_option maxRecDepth 100000 in
theorem enter_findT (args : Array Value) (w : World) : (callFunc 21 args).run Tryz.prog w = .ok (.enter 21 args) w := rfl
set_option maxRecDepth 100000 in
set_option maxHeartbeats 1000000 in
theorem findT_any (n : Txt) (F : Nat → Prop) (W : World) {b : Nat} (hb : b < W.heap.size ∧ W.cell? ⟨b, 0, none⟩ = some (strV n)) (x : Ty) (cs : List Value) (hx : TyAt W F x cs) :
    Calls Tryz.prog 21 #[.agg cs.toArray, .pointer (some ⟨b, 0, none⟩)] W fun r w' => r = .returned (.bool (decide (x.name = n))) ∧ Below W.heap.size W w' := by
  obtain ⟨B, d, rfl, _, _⟩ := hx
  show Calls _ _ #[.agg #[strV x.name, .slice B x.rels.length d], _] _ _
  obtain ⟨v, hv⟩ : ∃ v, v = decide (x.name = n) := ⟨_, rfl⟩
  rw [← hv]
  have hb0 := (Below.refl W.heap.size W).alloc (Nat.le_refl _) (.cells #[strV x.name, .slice B x.rels.length d] 38)
  have y0 := (hb0.cell (p := ⟨b, 0, none⟩) hb.1).trans hb.2
  have HV := Lib.hid hv
  have HB0 := Lib.hid hb0
  clear hv hb hb0
  generalize x.name = xn at *
  generalize x.rels.length = xl at *
  by_cases he : xn = n
  · have HV2 : Hid (v = true) := Lib.hid (by rw [HV.out]; exact decide_eq_true he)
    subst he
    go_enter Tryz.func21, Tryz.ntmps21
    go_wp2_with fail
    go_ret
    exact ⟨by rw [HV2.out]; (first | rfl | simp), HB0.out⟩
  · have HV2 : Hid (v = false) := Lib.hid (by rw [HV.out]; exact decide_eq_false he)
    go_enter Tryz.func21, Tryz.ntmps21
    go_wp2_with fail
    go_ret
    exact ⟨by rw [HV2.out]; (first | rfl | simp [he]), HB0.out⟩
set_option maxRecDepth 100000 in
theorem enter_findR (args : Array Value) (w : World) : (callFunc 23 args).run Tryz.prog w = .ok (.enter 23 args) w := rfl
set_option maxRecDepth 100000 in
set_option maxHeartbeats 1000000 in
theorem findR_any (n : Txt) (F : Nat → Prop) (W : World) {b : Nat} (hb : b < W.heap.size ∧ W.cell? ⟨b, 0, none⟩ = some (strV n)) (x : Rl) (cs : List Value) (hx : RlAt W F x cs) :
    Calls Tryz.prog 23 #[.agg cs.toArray, .pointer (some ⟨b, 0, none⟩)] W fun r w' => r = .returned (.bool (decide (x.name = n))) ∧ Below W.heap.size W w' := by
  obtain ⟨B, m, k, p, q, E, me, ce, rfl, _, _, _⟩ := hx.six
  show Calls _ _ #[.agg #[strV x.name, .slice B x.refs.length m, .int .i64 k, strV p, strV q, .slice E me ce], _] _ _
  obtain ⟨v, hv⟩ : ∃ v, v = decide (x.name = n) := ⟨_, rfl⟩
  rw [← hv]
  have hb0 := (Below.refl W.heap.size W).alloc (Nat.le_refl _) (.cells #[strV x.name, .slice B x.refs.length m, .int .i64 k, strV p, strV q, .slice E me ce] 46)
  have y0 := (hb0.cell (p := ⟨b, 0, none⟩) hb.1).trans hb.2
  have HV := Lib.hid hv
  have HB0 := Lib.hid hb0
  clear hv hb hb0
  generalize x.name = xn at *
  generalize x.refs.length = xl at *
  by_cases he : xn = n
  · have HV2 : Hid (v = true) := Lib.hid (by rw [HV.out]; exact decide_eq_true he)
    subst he
    go_enter Tryz.func23, Tryz.ntmps23
    go_wp2_with fail
    go_ret
    exact ⟨by rw [HV2.out]; (first | rfl | simp), HB0.out⟩
  · have HV2 : Hid (v = false) := Lib.hid (by rw [HV.out]; exact decide_eq_false he)
    go_enter Tryz.func23, Tryz.ntmps23
    go_wp2_with fail
    go_ret
    exact ⟨by rw [HV2.out]; (first | rfl | simp [he]), HB0.out⟩
def FoundP (W : World) (R : Rl × Bool) (e : Ending) (w' : World) : Prop := ∃ cs : List Value, e = .returned (.tuple #[.agg cs.toArray, .bool R.2]) ∧ RlAt w' (fun _ => False) R.1 cs ∧ Below W.heap.size W w'
set_option maxRecDepth 100000 in
set_option maxHeartbeats 4000000 in
theorem find_any (s : Sc) (t n : Txt) (W : World) (F : Nat → Prop) (A : Option Addr) (c : Nat) (hs : ScAt W F A s) (hl : s.length ≤ 9223372036854775807) (hcp : (findR s t n).2 = true → cpR (findR s t n).1) :
    Calls Tryz.prog 13 #[.agg #[.slice A s.length c], strV t, strV n] W (FoundP W (findR s t n)) := by
  obtain ⟨R, hR⟩ : ∃ R, R = findR s t n := ⟨_, rfl⟩
  rw [← hR] at hcp ⊢
  unfold findR at hR
  dsimp only at hR
  obtain ⟨W1, hW⟩ : ∃ W1, W1 = (((W.alloc (.cells #[.slice A s.length c] 24)).alloc (.cells #[strV t] 9)).alloc (.cells #[strV n] 9)).alloc (.cells #[.string ⟨#[]⟩, .slice none 0 0, .int .i64 0, .string ⟨#[]⟩, .string ⟨#[]⟩, .slice none 0 0] 46) := ⟨_, rfl⟩
  have HKA : Hid (Blk W1 W.heap.size [.slice A s.length c] 24) := by rw [hW]; exact Lib.hid ((((Blk.new W _ _).alloc _).alloc _).alloc _)
  have HKT : Hid (Blk W1 (W.heap.size + 1) [strV t] 9) := by
    rw [hW]
    have := Blk.new (W.alloc (.cells #[.slice A s.length c] 24)) [strV t] 9
    rw [World.size_alloc] at this
    exact Lib.hid ((this.alloc _).alloc _)
  have HKN : Hid (Blk W1 (W.heap.size + 2) [strV n] 9) := by
    rw [hW]
    have := Blk.new ((W.alloc (.cells #[.slice A s.length c] 24)).alloc (.cells #[strV t] 9)) [strV n] 9
    rw [World.size_alloc, World.size_alloc] at this
    exact Lib.hid (this.alloc _)
  have HKE : Hid (Blk W1 (W.heap.size + 3) [.string ⟨#[]⟩, .slice none 0 0, .int .i64 0, .string ⟨#[]⟩, .string ⟨#[]⟩, .slice none 0 0] 46) := by
    rw [hW]
    have := Blk.new (((W.alloc (.cells #[.slice A s.length c] 24)).alloc (.cells #[strV t] 9)).alloc (.cells #[strV n] 9)) [.string ⟨#[]⟩, .slice none 0 0, .int .i64 0, .string ⟨#[]⟩, .string ⟨#[]⟩, .slice none 0 0] 46
    rw [World.size_alloc, World.size_alloc, World.size_alloc] at this
    exact Lib.hid this
  have HB0 : Hid (Below W.heap.size W W1) := by rw [hW]; exact Lib.hid (((((Below.refl _ _).alloc (Nat.le_refl _) _).alloc (by simp) _).alloc (by simp; omega) _).alloc (by simp; omega) _)
  have HW := Lib.hid hW
  have HRV := Lib.hid hR
  have HX : Hid (∀ w, Below W1.heap.size W1 w → w.cell? ⟨W.heap.size, 0, none⟩ = some (.slice A s.length c)) := Lib.hid (fun w hw => (HKA.out.below hw HKA.out.lt).cell (i := 0) (by simp))
  have HZ : Hid (∀ w, Below W1.heap.size W1 w → Blk w (W.heap.size + 3) [.string ⟨#[]⟩, .slice none 0 0, .int .i64 0, .string ⟨#[]⟩, .string ⟨#[]⟩, .slice none 0 0] 46) := Lib.hid (fun w hw => HKE.out.below hw HKE.out.lt)
  have HF : Hid (∀ w, Below W1.heap.size W1 w → Below W.heap.size W w) := Lib.hid (fun w hw => HB0.out.trans (hw.mono HB0.out.size))
  have HSR : Hid (RowAt 2 TyAt W F A s) := Lib.hid hs
  have hs1 : RowAt 2 TyAt W1 F A s := ScAt.moved (Spared.of_below HB0.out F) (fun _ h => .inl h) hs
  have hask : EAskC 2 21 (fun v => #[v, .pointer (some ⟨W.heap.size + 1, 0, none⟩)]) ShType (fun (x : Ty) => decide (x.name = t)) W1 A s :=
    RowAt.asksC hs1 TyAt.sh2 (fun x _ cs hcs w hw => findT_any t F w ⟨(HKT.out.below hw HKT.out.lt).lt, (HKT.out.below hw HKT.out.lt).cell (i := 0) (by simp)⟩ x cs (hcs.moved (Spared.of_below hw F) (fun _ h => .inl h)))
  have HT : Hid (Calls Tryz.prog 20 #[.slice A s.length c, .func (.func 21) #[] #[.pointer (some ⟨W.heap.size + 1, 0, none⟩)]] W1 fun e w' => e = .returned (.int .i64 (typN s t)) ∧ Below W1.heap.size W1 w') := Lib.hid (indexC_Type1 enter_findT c hask hl)
  have HTI := Lib.hid (typN_is s t)
  have HRN : Hid (relN s (typN s t) n = relsN (ofT s (typN s t)) n) := Lib.hid rfl
  have x0 := HX.out W1 (Below.refl _ _)
  rw [HW.out] at x0
  clear hs1 hask hs hR hW
  unfold relAt at HRV
  generalize typN s t = ty at *
  by_cases hty : ty < 0
  · have HR2 : Hid (R = (noRel, false)) := Lib.hid (by rw [HRV.out, HRN.out, ofT_neg hty]; rfl)
    go_enter Tryz.func13, Tryz.ntmps13
    go_wp2_with (go_at_call 20; rw [← HW.out]; (refine HT.out.mono ?_); rintro r w2 ⟨rfl, hb2⟩; have HB2 := Lib.hid hb2; clear x0; have x2 := HX.out w2 hb2; have hz := HZ.out w2 hb2; have v0 := hz.cell (i := 0) (by simp); have v1 := hz.cell (i := 1) (by simp); have v2 := hz.cell (i := 2) (by simp); have v3 := hz.cell (i := 3) (by simp); have v4 := hz.cell (i := 4) (by simp); have v5 := hz.cell (i := 5) (by simp); simp only [List.getElem_cons_succ, List.getElem_cons_zero] at v0 v1 v2 v3 v4 v5; have f0 := hz.free 0; have f1 := hz.free 1; have f2 := hz.free 2; have f3 := hz.free 3; have f4 := hz.free 4; have f5 := hz.free 5; clear hz hb2)
    refine bodyPost_ret (v := .tuple #[.agg #[.string ⟨#[]⟩, .slice none 0 0, .int .i64 0, .string ⟨#[]⟩, .string ⟨#[]⟩, .slice none 0 0], .bool false]) (by simp [results, Tryz.results13, go_sem, v0, v1, v2, v3, v4, v5]) rfl ?_
    rw [HR2.out]
    exact ⟨[.string ⟨#[]⟩, .slice none 0 0, .int .i64 0, .string ⟨#[]⟩, .string ⟨#[]⟩, .slice none 0 0], rfl, noRel_at _ _, (((((((HF.out w2 HB2.out).setCell (p := ⟨W.heap.size + 3, 0, none⟩) (by show W.heap.size ≤ W.heap.size + 3; omega) _).setCell (p := ⟨W.heap.size + 3, 1, none⟩) (by show W.heap.size ≤ W.heap.size + 3; omega) _).setCell (p := ⟨W.heap.size + 3, 2, none⟩) (by show W.heap.size ≤ W.heap.size + 3; omega) _).setCell (p := ⟨W.heap.size + 3, 3, none⟩) (by show W.heap.size ≤ W.heap.size + 3; omega) _).setCell (p := ⟨W.heap.size + 3, 4, none⟩) (by show W.heap.size ≤ W.heap.size + 3; omega) _).setCell (p := ⟨W.heap.size + 3, 5, none⟩) (by show W.heap.size ≤ W.heap.size + 3; omega) _)⟩
  obtain ⟨y, hy, rfl⟩ : ∃ y, y < s.length ∧ ty = (y : Int) := by
    rcases HTI.out with h | h
    · omega
    · exact h
  have hyn : ¬ ((y : Int) < 0) := by omega
  have hof := ofT_at hy
  rw [hof] at HRN
  obtain ⟨b, off, B, d, rfl, ⟨_, hrl⟩, hr, hc⟩ := HSR.out.ty hy
  have HCT := Lib.hid (fun w hw => (hc w hw).2)
  have HRI := Lib.hid (relsN_is s[y].rels n)
  have hr1 : RowAt 6 RlAt W F B s[y].rels := hr
  have HRC : Hid (∀ w, Below W1.heap.size W1 w → Calls Tryz.prog 22 #[.slice B s[y].rels.length d, .func (.func 23) #[] #[.pointer (some ⟨W.heap.size + 2, 0, none⟩)]] w fun e w' => e = .returned (.int .i64 (relsN s[y].rels n)) ∧ Below w.heap.size w w') := Lib.hid (fun w hw => by
    have hsp := Spared.of_below (HF.out w hw) F
    have hr2 : RowAt 6 RlAt w F B s[y].rels := hr1.moved hsp (fun _ h => .inl h) (fun _ _ _ h => h.moved hsp (fun _ h => .inl h))
    have hask : EAskC 6 23 (fun v => #[v, .pointer (some ⟨W.heap.size + 2, 0, none⟩)]) ShRel (fun (x : Rl) => decide (x.name = n)) w B s[y].rels :=
      RowAt.asksC hr2 RlAt.shC (fun x _ cs hcs w' hw' => findR_any n F w' ⟨(HKN.out.below (hop hw hw') HKN.out.lt).lt, (HKN.out.below (hop hw hw') HKN.out.lt).cell (i := 0) (by simp)⟩ x cs (hcs.moved (Spared.of_below hw' F) (fun _ h => .inl h)))
    exact indexC_Rel1 enter_findR d hask (by omega))
  by_cases hneg : relsN s[y].rels n < 0
  · have HR2 : Hid (R = (noRel, false)) := Lib.hid (by rw [HRV.out, HRN.out, if_pos hneg])
    generalize relsN s[y].rels n = rk at *
    generalize s[y].rels = rs at *
    clear hc hr hr1 hof
    go_enter Tryz.func13, Tryz.ntmps13
    go_wp2_with (first
      | (go_at_call 20; rw [← HW.out]; (refine HT.out.mono ?_); rintro r w2 ⟨rfl, hb2⟩; have HB2 := Lib.hid hb2; clear x0; have x2 := HX.out w2 hb2; have z2 := HCT.out w2 (HF.out w2 hb2); clear hb2)
      | (go_at_call 22; (with_reducible refine (HRC.out w2 HB2.out).mono ?_); rintro r w3 ⟨rfl, hb3⟩; have HB3 := Lib.hid (hop HB2.out hb3); clear hb3; have hz := HZ.out w3 HB3.out; have v0 := hz.cell (i := 0) (by simp); have v1 := hz.cell (i := 1) (by simp); have v2 := hz.cell (i := 2) (by simp); have v3 := hz.cell (i := 3) (by simp); have v4 := hz.cell (i := 4) (by simp); have v5 := hz.cell (i := 5) (by simp); simp only [List.getElem_cons_succ, List.getElem_cons_zero] at v0 v1 v2 v3 v4 v5; have f0 := hz.free 0; have f1 := hz.free 1; have f2 := hz.free 2; have f3 := hz.free 3; have f4 := hz.free 4; have f5 := hz.free 5; clear hz))
    refine bodyPost_ret (v := .tuple #[.agg #[.string ⟨#[]⟩, .slice none 0 0, .int .i64 0, .string ⟨#[]⟩, .string ⟨#[]⟩, .slice none 0 0], .bool false]) (by simp [results, Tryz.results13, go_sem, v0, v1, v2, v3, v4, v5]) rfl ?_
    rw [HR2.out]
    exact ⟨[.string ⟨#[]⟩, .slice none 0 0, .int .i64 0, .string ⟨#[]⟩, .string ⟨#[]⟩, .slice none 0 0], rfl, noRel_at _ _, (((((((HF.out w3 HB3.out).setCell (p := ⟨W.heap.size + 3, 0, none⟩) (by show W.heap.size ≤ W.heap.size + 3; omega) _).setCell (p := ⟨W.heap.size + 3, 1, none⟩) (by show W.heap.size ≤ W.heap.size + 3; omega) _).setCell (p := ⟨W.heap.size + 3, 2, none⟩) (by show W.heap.size ≤ W.heap.size + 3; omega) _).setCell (p := ⟨W.heap.size + 3, 3, none⟩) (by show W.heap.size ≤ W.heap.size + 3; omega) _).setCell (p := ⟨W.heap.size + 3, 4, none⟩) (by show W.heap.size ≤ W.heap.size + 3; omega) _).setCell (p := ⟨W.heap.size + 3, 5, none⟩) (by show W.heap.size ≤ W.heap.size + 3; omega) _)⟩
  obtain ⟨k, hk, hkr⟩ : ∃ k, k < s[y].rels.length ∧ relsN s[y].rels n = (k : Int) := by
    rcases HRI.out with h | h
    · omega
    · exact h
  have HR2 : Hid (R = (s[y].rels[k], true)) := Lib.hid (by rw [HRV.out, HRN.out, if_neg hneg, hof, hkr, Int.toNat_natCast, List.getElem?_eq_getElem hk]; rfl)
  have hcp2 : cpR s[y].rels[k] := by rw [HR2.out] at hcp; exact hcp rfl
  rw [hkr] at HRC
  obtain ⟨g, og, n1, B1, m1, c1, k1, p1, q1, E1, m2, c2, rfl, hE, hcells⟩ := RowAt.rel hr hk
  have HCE := Lib.hid hcells
  have HCR : Hid (∀ w, Below W1.heap.size W1 w → Calls Tryz.prog 24 #[.agg #[strV n1, .slice B1 m1 c1, .int .i64 k1, strV p1, strV q1, .slice E1 m2 c2]] w (CopyR w s[y].rels[k])) := Lib.hid (fun w hw => copyR_any _ w F _ hcp2 (hE.below (HF.out w hw)))
  have hknn : ¬ ((k : Int) < 0) := by omega
  clear hneg hkr
  generalize s[y].rels[k] = x at *
  generalize s[y].rels = rs at *
  clear hc hr hr1 hof hcells hE hcp hcp2
  go_enter Tryz.func13, Tryz.ntmps13
  go_wp2_with (first
    | (go_at_call 20; rw [← HW.out]; (refine HT.out.mono ?_); rintro r w2 ⟨rfl, hb2⟩; have HB2 := Lib.hid hb2; clear x0; have x2 := HX.out w2 hb2; have z2 := HCT.out w2 (HF.out w2 hb2); clear hb2)
    | (go_at_call 22; (with_reducible refine (HRC.out w2 HB2.out).mono ?_); rintro r w3 ⟨rfl, hb3⟩; have HB3 := Lib.hid (hop HB2.out hb3); clear hb3; have zz2 := z2; clear z2; obtain ⟨e0, e1, e2, e3, e4, e5⟩ := HCE.out w3 (HF.out w3 HB3.out))
    | (go_at_call 24; (with_reducible refine (HCR.out w3 HB3.out).mono ?_); rintro r w4 ⟨cs4, rfl, hx4, hb4⟩; have HX4 := Lib.hid hx4; obtain ⟨B4, m4, k4, n4, o4, E4, me4, ce4, rfl, _, _, _⟩ := HX4.out.six; have HB4 := Lib.hid (hop HB3.out hb4); have hz := HZ.out w4 HB4.out; have v0 := hz.cell (i := 0) (by simp); have v1 := hz.cell (i := 1) (by simp); have v2 := hz.cell (i := 2) (by simp); have v3 := hz.cell (i := 3) (by simp); have v4 := hz.cell (i := 4) (by simp); have v5 := hz.cell (i := 5) (by simp); simp only [List.getElem_cons_succ, List.getElem_cons_zero] at v0 v1 v2 v3 v4 v5; have f0 := hz.free 0; have f1 := hz.free 1; have f2 := hz.free 2; have f3 := hz.free 3; have f4 := hz.free 4; have f5 := hz.free 5; clear hz hb4 hx4))
  refine bodyPost_ret (v := .tuple #[.agg #[strV x.name, .slice B4 x.refs.length m4, .int .i64 k4, strV n4, strV o4, .slice E4 me4 ce4], .bool true]) (by simp [results, Tryz.results13, go_sem, v0, v1, v2, v3, v4, v5]) rfl ?_
  rw [HR2.out]
  have hsp : Spared w4 ((((((w4.setCell ⟨W.heap.size + 3, 0, none⟩ (strV x.name)).setCell ⟨W.heap.size + 3, 1, none⟩ (.slice B4 x.refs.length m4)).setCell ⟨W.heap.size + 3, 2, none⟩ (.int .i64 k4)).setCell ⟨W.heap.size + 3, 3, none⟩ (strV n4)).setCell ⟨W.heap.size + 3, 4, none⟩ (strV o4)).setCell ⟨W.heap.size + 3, 5, none⟩ (.slice E4 me4 ce4)) (fun b => b < w3.heap.size) := by
    have hF : (fun b => b < w3.heap.size) (W.heap.size + 3) := by
      have h1 := HKE.out.lt
      have h2 := HB3.out.size
      show W.heap.size + 3 < w3.heap.size
      omega
    exact ((((((Spared.refl w4 (fun b => b < w3.heap.size)).setCell hF _ _).setCell hF _ _).setCell hF _ _).setCell hF _ _).setCell hF _ _).setCell hF _ _
  exact ⟨_, rfl, HX4.out.moved hsp (fun _ h => h.elim), (((((((HF.out w4 HB4.out).setCell (p := ⟨W.heap.size + 3, 0, none⟩) (by show W.heap.size ≤ W.heap.size + 3; omega) _).setCell (p := ⟨W.heap.size + 3, 1, none⟩) (by show W.heap.size ≤ W.heap.size + 3; omega) _).setCell (p := ⟨W.heap.size + 3, 2, none⟩) (by show W.heap.size ≤ W.heap.size + 3; omega) _).setCell (p := ⟨W.heap.size + 3, 3, none⟩) (by show W.heap.size ≤ W.heap.size + 3; omega) _).setCell (p := ⟨W.heap.size + 3, 4, none⟩) (by show W.heap.size ≤ W.heap.size + 3; omega) _).setCell (p := ⟨W.heap.size + 3, 5, none⟩) (by show W.heap.size ≤ W.heap.size + 3; omega) _)⟩
end Go.Proofs.YtdnhbledndgbcaaGreat
namespace Go.Proofs.YtdnhbledndgbcaaGreat
open Go.RowKit
def CkAre (s : Sc) (W : World) (e : Ending) (w' : World) : Prop := ∃ z : Fa, e = .returned (faV z) ∧ Below W.heap.size W w' ∧ ExIs s z (fun _ => True)
def LsAre (s : Sc) (W : World) (e : Ending) (w' : World) : Prop := ∃ (z : Fa) (A2 : Option Addr) (n c2 : Nat), e = .returned (.tuple #[.slice A2 n c2, .bool (decide (z.2.2 = 0))]) ∧ Below W.heap.size W w' ∧ ExIs s z (fun ls => n = s.length ∧ IlAt w' (fun k => k < W.heap.size) A2 ls) ∧ (z.2.2 ≠ 0 → n = 0) ∧ n ≤ c2
set_option maxRecDepth 100000 in
set_option maxHeartbeats 4000000 in
theorem check_any (s : Sc) (F : Nat → Prop) (A : Option Addr) (c : Nat) (hl : s.length ≤ 9223372036854775807) (hcap : s.length ≤ c) (hrf : ∀ t ∈ s, ∀ r ∈ t.rels, r.refs.length ≤ 1000000) (W : World) (hs : ScAt W F A s) :
    Calls Tryz.prog 10 #[.agg #[.slice A s.length c]] W (CkAre s W) := by
  obtain ⟨W1, hW⟩ : ∃ W1, W1 = (W.alloc (.cells #[.slice A s.length c] 24)).alloc (.cells #[.int .i64 0, .int .i64 0, .int .i64 0] 33) := ⟨_, rfl⟩
  have HKA : Hid (Blk W1 W.heap.size [.slice A s.length c] 24) := by rw [hW]; exact Lib.hid ((Blk.new W _ _).alloc _)
  have HKE : Hid (Blk W1 (W.heap.size + 1) [.int .i64 0, .int .i64 0, .int .i64 0] 33) := by
    rw [hW]
    have := Blk.new (W.alloc (.cells #[.slice A s.length c] 24)) [.int .i64 0, .int .i64 0, .int .i64 0] 33
    rw [World.size_alloc] at this
    exact Lib.hid this
  have HB0 : Hid (Below W.heap.size W W1) := by rw [hW]; exact Lib.hid (((Below.refl _ _).alloc (Nat.le_refl _) _).alloc (by simp) _)
  have hx0 := HKA.out.cell (i := 0) (by simp)
  simp only [List.getElem_cons_zero] at hx0
  have HEX := Lib.hid (examine_any s F A c hl hcap hrf W1 (hs.below HB0.out))
  have HW := Lib.hid hW
  rw [hW] at hx0
  clear hW hs hrf
  go_enter Tryz.func10, Tryz.ntmps10
  go_wp2_with (go_at_call 15; rw [← HW.out]; refine HEX.out.mono ?_; rintro r w2 ⟨⟨z1, z2, z3⟩, A2, n, c2, rfl, hb2, hex, hn0⟩; have HB2 := Lib.hid hb2; have HE := Lib.hid hex; have hke := (HKE.out.below hb2 HKE.out.lt).alloc (.cells #[.int .i64 z1, .int .i64 z2, .int .i64 (z3 : Int)] 33); have v0 := hke.cell (i := 0) (by simp); have v1 := hke.cell (i := 1) (by simp); have v2 := hke.cell (i := 2) (by simp); have g0 := hke.free 0; have g1 := hke.free 1; have g2 := hke.free 2; clear hb2 hex hke hx0 hn0)
  refine bodyPost_ret (v := .agg #[.int .i64 z1, .int .i64 z2, .int .i64 (z3 : Int)]) (by simp [results, Tryz.results10, go_sem, v0, v1, v2]) rfl ?_
  have hb := (HB0.out.trans (HB2.out.mono HB0.out.size)).alloc (o := .cells #[.int .i64 z1, .int .i64 z2, .int .i64 (z3 : Int)] 33) (by have := HB0.out.size; have := HB2.out.size; omega)
  exact ⟨(z1, z2, z3), rfl, ((hb.setCell (p := ⟨W.heap.size + 1, 0, none⟩) (Nat.le_succ _) _).setCell (p := ⟨W.heap.size + 1, 1, none⟩) (Nat.le_succ _) _).setCell (p := ⟨W.heap.size + 1, 2, none⟩) (Nat.le_succ _) _, HE.out.mono (fun _ _ => trivial)⟩
set_option maxRecDepth 100000 in
set_option maxHeartbeats 4000000 in
theorem levels2_any (s : Sc) (F : Nat → Prop) (A : Option Addr) (c : Nat) (hl : s.length ≤ 9223372036854775807) (hcap : s.length ≤ c) (hrf : ∀ t ∈ s, ∀ r ∈ t.rels, r.refs.length ≤ 1000000) (W : World) (hs : ScAt W F A s) :
    Calls Tryz.prog 7 #[.agg #[.slice A s.length c]] W (LsAre s W) := by
  obtain ⟨W1, hW⟩ : ∃ W1, W1 = W.alloc (.cells #[.slice A s.length c] 24) := ⟨_, rfl⟩
  have HB0 : Hid (Below W.heap.size W W1) := by rw [hW]; exact Lib.hid ((Below.refl _ _).alloc (Nat.le_refl _) _)
  have hx0 : W1.cell? ⟨W.heap.size, 0, none⟩ = some (.slice A s.length c) := by
    rw [hW]
    exact (Blk.new W [.slice A s.length c] 24).cell (i := 0) (by simp)
  have HEX := Lib.hid (examine_any s F A c hl hcap hrf W1 (hs.below HB0.out))
  have HW := Lib.hid hW
  rw [hW] at hx0
  clear hW hs hrf
  go_enter Tryz.func7, Tryz.ntmps7
  go_wp2_with (go_at_call 15; rw [← HW.out]; refine HEX.out.mono ?_; rintro r w2 ⟨⟨z1, z2, z3⟩, A2, n, c2, rfl, hb2, hex, hn0⟩; have HB2 := Lib.hid hb2; have HE := Lib.hid hex; have HN0 := Lib.hid hn0; clear hb2 hex hx0 hn0)
  obtain ⟨w3, hw3⟩ : ∃ w3, w3 = w2.alloc (.cells #[.int .i64 z1, .int .i64 z2, .int .i64 (z3 : Int)] 33) := ⟨_, rfl⟩
  rw [← hw3]
  have hb3 : Below w2.heap.size w2 w3 := by rw [hw3]; exact (Below.refl _ _).alloc (Nat.le_refl _) _
  have c2' : w3.drew.cell? ⟨w2.heap.size, 2, none⟩ = some (.int .i64 (z3 : Int)) := by
    rw [hw3]
    exact (Blk.new w2 [.int .i64 z1, .int .i64 z2, .int .i64 (z3 : Int)] 33).cell (i := 2) (by simp)
  have HB3 : Hid (Below W.heap.size W w3.drew) := Lib.hid ((HB0.out.trans (HB2.out.mono HB0.out.size)).trans (hb3.mono (by have := HB0.out.size; have := HB2.out.size; omega))).drew
  have HE3 : Hid (ExIs s (z1, z2, z3) (fun ls => n = s.length ∧ IlAt w3.drew (fun k => k < W.heap.size) A2 ls)) := Lib.hid (HE.out.mono (fun l hl => ⟨hl.1, by
    have hsp : Spared w2 w3.drew (fun k => k < W1.heap.size) := (Spared.of_below hb3 _).drew
    have hg : ∀ k, k < W.heap.size → k < W1.heap.size ∨ w2.heap.size ≤ k := fun k hk => .inl (Nat.lt_of_lt_of_le hk HB0.out.size)
    exact hl.2.moved hsp hg (fun _ _ _ h => keeps_ir _ _ _ _ hsp hg _ _ h)⟩))
  clear hw3 hb3
  by_cases h3 : z3 = 0
  · subst h3
    go_wp2_with fail
    go_region
    go_wp2_with fail
    go_ret2
    exact ⟨(z1, z2, 0), A2, n, c2, rfl, HB3.out, HE3.out, fun h => absurd rfl h, HN0.out.2⟩
  · have q1 : ((z3 : Int) == 0) = false := beq_eq_false_iff_ne.2 (by omega)
    have q2 : ¬ (z3 : Int) = 0 := by omega
    have HD : Hid (decide ((z1, z2, z3).2.2 = 0) = false) := Lib.hid (decide_eq_false h3)
    clear h3
    go_wp2_with fail
    go_region
    go_wp2_with fail
    go_ret2
    exact ⟨(z1, z2, z3), A2, n, c2, by rw [HD.out]; rfl, HB3.out, HE3.out, HN0.out⟩
end Go.Proofs.YtdnhbledndgbcaaGreat
namespace Go.Proofs.YtdnhbledndgbcaaGreat
open Go.RowKit
theorem read_at {t : Txt} {sc : Sc} (h : parseT t = (sc, (0, 0, 0))) (hm : t.length ≤ 5000) (w : World) : Calls Tryz.prog 12 #[strV t] w (ReadAs w sc) := by
  have h1 := read_any ⟨t.toArray⟩ w (by simpa [ByteArray.size] using hm)
  rw [show (⟨t.toArray⟩ : ByteArray).data.toList = t from rfl, h] at h1
  exact h1
set_option maxHeartbeats 4000000 in
set_option maxRecDepth 100000 in
theorem awake_any (W : World) : Calls Tryz.prog 5 #[] W fun e w' => e = .returned (.bool true) ∧ Below W.heap.size W w' := by
  have HR1 := Lib.hid (fun w => read_at rk_parse1 (by decide) w)
  have HR2 := Lib.hid (fun w => read_at rk_parse2 (by decide) w)
  have HR3 := Lib.hid (fun w => read_at rk_parse3 (by decide) w)
  go_enter Tryz.func5, Tryz.ntmps5
  go_wp2_with fail
  refine (HR1.out W).mono ?_
  rintro e w1 ⟨A1, c1, rfl, hs1, ⟨_, hc1⟩, hb1⟩
  have HC := Lib.hid (check_any rkS1 _ A1 c1 (by decide) hc1 (refsOk_is rk_refs1) w1 hs1)
  have HB1 := Lib.hid hb1
  clear hs1 hb1 hc1
  go_wp2_with fail
  refine HC.out.mono ?_
  rintro e w2 ⟨z, rfl, hb2, hz⟩
  obtain rfl : z = (0, 1, 11) := by rw [hz.doc.1]; exact rk_doc1
  have HB2 := Lib.hid (HB1.out.trans (hb2.mono HB1.out.size))
  obtain ⟨u2, hu2⟩ : ∃ u2, u2 = w2.alloc (.cells #[.int .i64 0, .int .i64 1, .int .i64 11] 33) := ⟨_, rfl⟩
  have HK2 : Hid (Blk u2 w2.heap.size [.int .i64 0, .int .i64 1, .int .i64 11] 33) := by rw [hu2]; exact Lib.hid (Blk.new _ _ _)
  have HBU2 : Hid (Below W.heap.size W u2) := by rw [hu2]; exact Lib.hid (HB2.out.alloc HB2.out.size _)
  have HU2 := Lib.hid hu2
  clear hz hb2 hu2
  go_wp2_with fail
  show Calls _ _ _ (w2.alloc (.cells #[.int .i64 0, .int .i64 1, .int .i64 11] 33)) _
  rw [← HU2.out]
  refine (HR2.out u2).mono ?_
  rintro e w3 ⟨A3, c3, rfl, hs3, ⟨_, hc3⟩, hb3⟩
  have HL := Lib.hid (levels2_any rkS2 _ A3 c3 (by decide) hc3 (refsOk_is rk_refs2) w3 hs3)
  have HB3 := Lib.hid hb3
  clear hs3 hb3 hc3
  go_wp2_with fail
  refine HL.out.mono ?_
  rintro e w4 ⟨z, A4, n4, c4, rfl, hb4, hz, _⟩
  obtain ⟨hz1, hz2⟩ := hz.doc
  obtain rfl : z = (0, 0, 0) := by rw [hz1]; exact rk_doc2
  obtain ⟨_, ⟨hn4, hil⟩, _⟩ := hz2 rfl
  rw [rk_lev2] at hil
  obtain rfl : n4 = 1 := hn4
  have HIL := Lib.hid hil
  have HB4 := Lib.hid (hop HB3.out hb4)
  clear hz hz1 hz2 hb4 hil
  have hdt : decide (((0 : Int), (0 : Int), 0).2.2 = 0) = true := rfl
  go_wp2_with fail
  refine (HR3.out w4).mono ?_
  rintro e w5 ⟨A5, c5, rfl, hs5, ⟨_, hc5⟩, hb5⟩
  have HFD := Lib.hid (find_any rkS3 [117] [97] w5 _ A5 c5 hs5 (by decide) (by rw [rk_find3]; exact fun _ => rk_cp3))
  rw [rk_find3] at HFD
  have HB5 := Lib.hid (hop HB4.out hb5)
  have HI5 := Lib.hid (HIL.out.below hb5)
  clear hs5 hb5 hc5
  go_wp2_with fail
  refine HFD.out.mono ?_
  rintro e w6 ⟨cs6, rfl, hr6, hb6⟩
  obtain ⟨B6, m6, k6, p6, q6, E6, me6, ce6, rfl, _, _, _⟩ := hr6.six
  have HB6 := Lib.hid (hop HB5.out hb6)
  obtain ⟨g, og, A7, c7, rfl, hz7, hrow7⟩ := (HI5.out.below hb6).rowB (i := 0) (by decide)
  obtain ⟨g7, og7, rfl, h70⟩ := hrow7 0 (by decide)
  obtain ⟨g7', og7', hA, h71⟩ := hrow7 1 (by decide)
  injection hA with hA; injection hA with hA1 hA2; subst hA1 hA2
  obtain ⟨g7', og7', hA, h72⟩ := hrow7 2 (by decide)
  injection hA with hA; injection hA with hA1 hA2; subst hA1 hA2
  obtain ⟨u7, hu7⟩ : ∃ u7, u7 = w6.alloc (.cells #[strV [97], .slice B6 1 m6, .int .i64 k6, strV p6, strV q6, .slice E6 me6 ce6] 46) := ⟨_, rfl⟩
  have hbu7 : Below w6.heap.size w6 u7 := by rw [hu7]; exact (Below.refl _ _).alloc (Nat.le_refl _) _
  have HB7 := Lib.hid (hop HB6.out hbu7)
  have hb57 : Below w5.heap.size w5 u7 := hop hb6 hbu7
  have hk2 := HK2.out.below HB7.out HK2.out.lt
  have t0 := hk2.cell (i := 0) (by simp)
  have t1 := hk2.cell (i := 1) (by simp)
  have t2 := hk2.cell (i := 2) (by simp)
  have hk7 : Blk u7 w6.heap.size [strV [97], .slice B6 1 m6, .int .i64 k6, strV p6, strV q6, .slice E6 me6 ce6] 46 := by rw [hu7]; exact Blk.new _ _ _
  have r1 := hk7.cell (i := 1) (by simp)
  have z0 := hz7 u7 hbu7
  have z1 := h70 u7 hbu7
  have z2 := h71 u7 hbu7
  have z3 := h72 u7 hbu7
  have HU7 := Lib.hid hu7
  simp only [List.getElem_cons_succ, List.getElem_cons_zero] at t0 t1 t2 r1
  rw [hu7] at t0 t1 t2 r1 z0 z1 z2 z3
  have z0 : (w6.alloc (.cells #[strV [97], .slice B6 1 m6, .int .i64 k6, strV p6, strV q6, .slice E6 me6 ce6] 46)).cell? ⟨g, og, none⟩ = some (.slice (some ⟨g7, og7, none⟩) 3 c7) := z0
  have z1 : (w6.alloc (.cells #[strV [97], .slice B6 1 m6, .int .i64 k6, strV p6, strV q6, .slice E6 me6 ce6] 46)).cell? ⟨g7, og7, none⟩ = some (.int .i64 0) := z1
  have z2 : (w6.alloc (.cells #[strV [97], .slice B6 1 m6, .int .i64 k6, strV p6, strV q6, .slice E6 me6 ce6] 46)).cell? ⟨g7, og7 + 1, none⟩ = some (.int .i64 1) := z2
  have z3 : (w6.alloc (.cells #[strV [97], .slice B6 1 m6, .int .i64 k6, strV p6, strV q6, .slice E6 me6 ce6] 46)).cell? ⟨g7, og7 + 2, none⟩ = some (.int .i64 0) := z3
  clear hu7 hk2 hk7 hbu7 hb57 h70 h71 h72 hrow7 hz7 hb6 hr6 hdt
  go_wp2_with fail
  go_ret
  exact ⟨rfl, HBU2.out.trans ((by rw [HU7.out] at HB7; exact HB7.out : Below u2.heap.size u2 _).mono HBU2.out.size)⟩
end Go.Proofs.YtdnhbledndgbcaaGreat
namespace Go.Proofs.YtdnhbledndgbcaaGreat
open Go.RowKit
def wR (x : Rl) : Nat := x.refs.length + nodes x.expr
def wRs : List Rl → Nat
  | [] => 0
  | x :: r => wR x + wRs r
def wTs : Sc → Nat
  | [] => 0
  | t :: r => 1 + wRs t.rels + wTs r
theorem nodes_pos (e : Ex) : 1 ≤ nodes e := by cases e; simp [nodes]
theorem weightL_pos : ∀ (l : List Ex) (m : Int), 0 < weightL l m → 0 < m
  | [], m, h => by unfold weightL at h; exact h
  | x :: r, m, h => by
    unfold weightL at h
    by_cases h0 : 0 < m
    · exact h0
    · rw [if_neg h0] at h; exact h
theorem weight_nodes : ∀ (e : Ex) (m : Int), 0 < weightE e m → weightE e m + nodes e = m := by
  intro e
  refine Ex.all (P := fun e => ∀ m : Int, 0 < weightE e m → weightE e m + nodes e = m) (fun k n o ks ih m => ?_) e
  have hL : ∀ (l : List Ex), (∀ x ∈ l, x ∈ ks) → ∀ m : Int, 0 < weightL l m → weightL l m + nodesL l = m := by
    intro l
    induction l with
    | nil => intro _ m h; unfold weightL nodesL; simp
    | cons x r ihr =>
      intro hs m h
      unfold weightL nodesL
      unfold weightL at h
      by_cases h0 : 0 < m
      · rw [if_pos h0] at h ⊢
        have h1 := ihr (fun y hy => hs y (List.mem_cons_of_mem _ hy)) (weightE x m) h
        have h2 := ih x (hs x (List.mem_cons_self ..)) m (weightL_pos _ _ h)
        push_cast
        omega
      · rw [if_neg h0] at h; exact absurd h h0
  intro h
  unfold weightE at h ⊢
  by_cases hk : m < ks.length
  · rw [if_pos hk] at h; omega
  · rw [if_neg hk] at h ⊢
    have := hL ks (fun _ h => h) (m - 1) h
    unfold nodes
    push_cast
    omega
theorem fewRs_pos (most : Int) : ∀ (l : List Rl) (n q : Int), fewRs most l n = some q → 0 < q → 0 < n ∧ q + wRs l = n
  | [], n, q, h, hq => by
    unfold fewRs at h
    injection h with h
    subst h
    exact ⟨hq, by simp [wRs]⟩
  | x :: r, n, q, h, hq => by
    unfold fewRs at h
    by_cases h0 : 0 < n
    · rw [if_pos h0] at h
      split at h
      · cases h
      · obtain ⟨h1, h2⟩ := fewRs_pos most r _ q h hq
        have h3 := weight_nodes _ _ h1
        refine ⟨h0, ?_⟩
        simp only [wRs, wR]
        push_cast
        omega
    · rw [if_neg h0] at h
      injection h with h
      omega
theorem fewTs_pos (most : Int) : ∀ (l : List Ty) (n q : Int), fewTs most l n = some q → 0 < q → 0 < n ∧ q + wTs l = n + l.length
  | [], n, q, h, hq => by
    unfold fewTs at h
    injection h with h
    subst h
    exact ⟨hq, by simp [wTs]⟩
  | t :: r, n, q, h, hq => by
    unfold fewTs at h
    by_cases h0 : 0 < n
    · rw [if_pos h0] at h
      split at h
      · cases h
      · cases hr : fewRs most t.rels n with
        | none => rw [hr] at h; cases h
        | some m =>
          rw [hr] at h
          obtain ⟨h1, h2⟩ := fewTs_pos most r m q h hq
          obtain ⟨_, h3⟩ := fewRs_pos most t.rels n m hr h1
          refine ⟨h0, ?_⟩
          simp only [wTs, List.length_cons]
          push_cast
          omega
    · rw [if_neg h0] at h
      injection h with h
      omega
theorem few_parts {s : Sc} {most : Int} (h : fewS s most = true) : (wTs s : Int) < most := by
  unfold fewS at h
  cases hr : fewTs most s (most - s.length) with
  | none => rw [hr] at h; cases h
  | some q =>
    rw [hr] at h
    have hq : 0 < q := of_decide_eq_true h
    obtain ⟨_, h2⟩ := fewTs_pos most s _ q hr hq
    omega
def Sz {α : Type} (x : Rs α) (g : α → Nat) (n : Nat) : Prop := ∀ a r, x = .ok a r → g a + r.length ≤ n
theorem Sz.then {α β : Type} {x : Rs α} {f : α → List Tk → Rs β} {g : α → Nat} {h : β → Nat} {n m : Nat} (hx : Sz x g n) (hf : ∀ a r, g a + r.length ≤ n → Sz (f a r) h m) : Sz (x.then f) h m := by
  intro b r hb
  obtain ⟨a, r', h1, h2⟩ := Rs.then_ok hb
  exact hf a r' (hx a r' h1) b r h2
theorem Sz.ok {α : Type} {g : α → Nat} {a : α} {r : List Tk} {n : Nat} (h : g a + r.length ≤ n) : Sz (.ok a r) g n := by
  intro b r' hb
  injection hb with h1 h2
  subst h1 h2; exact h
theorem Sz.no {α : Type} {g : α → Nat} {d : Dg} {n : Nat} : Sz (.no d : Rs α) g n := by
  intro b r' hb; cases hb
theorem Sz.mono {α : Type} {x : Rs α} {g : α → Nat} {n m : Nat} (h : Sz x g n) (hm : n ≤ m) : Sz x g m := fun a r ha => Nat.le_trans (h a r ha) hm
end Go.Proofs.YtdnhbledndgbcaaGreat
namespace Go.Proofs.YtdnhbledndgbcaaGreat
open Go.RowKit
theorem wRs_mem : ∀ {l : List Rl} {x : Rl}, x ∈ l → wR x ≤ wRs l
  | [], _, h => by cases h
  | y :: r, x, h => by
    rcases List.mem_cons.1 h with rfl | h
    · unfold wRs; omega
    · have := wRs_mem h
      unfold wRs; omega
theorem wRs_len : ∀ l : List Rl, l.length ≤ wRs l
  | [] => Nat.zero_le _
  | y :: r => by
    have := wRs_len r
    have h2 := nodes_pos y.expr
    unfold wRs wR
    rw [List.length_cons]; omega
theorem wTs_mem : ∀ {s : Sc} {t : Ty}, t ∈ s → wRs t.rels ≤ wTs s
  | [], _, h => by cases h
  | y :: r, x, h => by
    rcases List.mem_cons.1 h with rfl | h
    · unfold wTs; omega
    · have := wTs_mem h
      unfold wTs; omega
theorem wTs_len : ∀ s : Sc, s.length ≤ wTs s
  | [] => Nat.zero_le _
  | y :: r => by
    have := wTs_len r
    unfold wTs
    rw [List.length_cons]; omega
theorem refs_few {s : Sc} {t : Ty} {r : Rl} (ht : t ∈ s) (hr : r ∈ t.rels) : r.refs.length + nodes r.expr ≤ wTs s := by
  have h1 := wRs_mem hr
  have h2 := wTs_mem ht
  unfold wR at h1
  omega
theorem relAt_few (s : Sc) (t k : Int) : (relAt s t k).refs.length ≤ wTs s := by
  unfold relAt
  cases h : (ofT s t)[k.toNat]? with
  | none => exact Nat.zero_le _
  | some r =>
    have h1 : r ∈ ofT s t := List.mem_of_getElem? h
    unfold ofT at h1
    split at h1
    · cases h1
    · cases h2 : s[t.toNat]? with
      | none => rw [h2] at h1; cases h1
      | some ty =>
        rw [h2] at h1
        have := refs_few (List.mem_of_getElem? h2) h1
        show r.refs.length ≤ _
        omega
theorem filterMap_len {α β : Type} (f : α → Option β) : ∀ l : List α, (l.filterMap f).length ≤ l.length
  | [] => Nat.zero_le _
  | x :: r => by
    have := filterMap_len f r
    rw [List.filterMap_cons]
    cases f x with
    | none => dsimp only; rw [List.length_cons]; omega
    | some y => dsimp only; rw [List.length_cons, List.length_cons]; omega
theorem leafLn_len (s : Sc) (t : Nat) (k : Int) (n o : Txt) (out : Bool) : (leafLn s t k n o out).length ≤ 1 + wTs s := by
  unfold leafLn
  rw [List.length_cons]
  split
  · have h1 := filterMap_len (fun (r : Rf) => if r.2 = [] ∧ 0 ≤ relN s (typN s r.1) o then some (((typN s r.1).toNat, (relN s (typN s r.1) o).toNat), out) else none) (relAt s t (relN s t n)).refs
    have h2 := relAt_few s t (relN s t n)
    omega
  · simp
theorem leansE_len (s : Sc) (t : Nat) : ∀ (e : Ex) (out : Bool), (leansE s t e out).length ≤ nodes e * (1 + wTs s) := by
  intro e
  refine Ex.all (P := fun e => ∀ out : Bool, (leansE s t e out).length ≤ nodes e * (1 + wTs s)) (fun k n o ks ih out => ?_) e
  have hL : ∀ (l : List Ex), (∀ x ∈ l, x ∈ ks) → ∀ (i : Nat), (leansL s t k l i out).length ≤ nodesL l * (1 + wTs s) := by
    intro l
    induction l with
    | nil => intro _ i; unfold leansL nodesL; simp
    | cons x r ihr =>
      intro hs i
      have h1 := ih x (hs x (List.mem_cons_self ..)) (out || (decide (k = 4) && decide (i = 1)))
      have h2 := ihr (fun y hy => hs y (List.mem_cons_of_mem _ hy)) (i + 1)
      unfold leansL nodesL
      rw [List.length_append, Nat.add_mul]
      omega
  unfold leansE nodes
  rw [Nat.succ_mul]
  split
  · have := hL ks (fun _ h => h) 0
    omega
  · have := leafLn_len s t k n o out
    omega
theorem allN_len {s : Sc} {i k : Nat} (hi : i < s.length) (hk : k < s[i].rels.length) : (allN s i s[i].rels[k]).length ≤ wTs s * (1 + wTs s) := by
  have h1 := refs_few (List.getElem_mem hi) (List.getElem_mem hk)
  have h3 : wTs s ≤ wTs s * (1 + wTs s) := by rw [Nat.mul_add, Nat.mul_one]; exact Nat.le_add_right _ _
  unfold allN
  split
  · have h2 := leansE_len s i s[i].rels[k].expr false
    have h4 : nodes s[i].rels[k].expr * (1 + wTs s) ≤ wTs s * (1 + wTs s) := Nat.mul_le_mul_right _ (by omega)
    omega
  · have h2 := filterMap_len (fun (r : Rf) => if r.2 ≠ [] then some (((typN s r.1).toNat, (relN s (typN s r.1) r.2).toNat), false) else none) s[i].rels[k].refs
    omega
theorem few_ln {s : Sc} (h : wTs s ≤ 700) : FewLn s := fun i hi k hk => by
  have h1 := allN_len hi hk
  have h2 : wTs s * (1 + wTs s) ≤ 700 * 701 := Nat.mul_le_mul h (by omega)
  omega
theorem few_refs {s : Sc} (h : wTs s ≤ 700) : ∀ t ∈ s, ∀ r ∈ t.rels, r.refs.length ≤ 1000000 := fun t ht r hr => by
  have := refs_few ht hr
  omega
theorem few_80 {s : Sc} (h : fewS s 80 = true) : wTs s ≤ 700 := by
  have := few_parts h
  omega
end Go.Proofs.YtdnhbledndgbcaaGreat
