/-
  A relation by its names (the program's Find). Conditions: the schema is there; what is found can be copied.
  Check and Levels: as examine answers. Condition: the schema is there.
  The chapter's examples of layer 12 hold. No condition.
  How many parts a schema has: as Few counts them; as the tokens it is parsed from bound them. No program is named.
-/
import Derived.Test.YtdnhbledndgbcaaCRoCr
import Derived.Test.YtdnhbledndgbcaaCRoR
import Derived.Test.YtdnhbledndgbcaaCRuF0
import Derived.Test.YtdnhbledndgbcaaCRoXm
import Derived.Test.YtdnhbledndgbcaaCLpTm
import Derived.Test.YtdnhbledndgbcaaCRkRd
import Derived.Test.YtdnhbledndgbcaaCLpPa
import Derived.Test.YtdnhbledndgbcaaCLaF
namespace Go.Proofs.Ytdnhbledndgbcaa
open Go.RowKit
set_option maxRecDepth 100000 in
theorem enter_findT (args : Array Value) (w : World) : (callFunc 24 args).run Try.prog w = .ok (.enter 24 args) w := rfl
set_option maxRecDepth 100000 in
set_option maxHeartbeats 1000000 in
theorem findT_any (n : Txt) (F : Nat → Prop) (W : World) {b : Nat} (hb : b < W.heap.size ∧ W.cell? ⟨b, 0, none⟩ = some (strV n)) (x : Ty) (cs : List Value) (hx : TyAt W F x cs) :
    Calls Try.prog 24 #[.agg cs.toArray, .pointer (some ⟨b, 0, none⟩)] W fun r w' => r = .returned (.bool (decide (x.name = n))) ∧ Below W.heap.size W w' := by
  obtain ⟨B, d, rfl, _, _⟩ := hx
  show Calls _ _ #[.agg #[strV x.name, .slice B x.rels.length d], _] _ _
  obtain ⟨v, hv⟩ : ∃ v, v = decide (x.name = n) := ⟨_, rfl⟩
  rw [← hv]
  have hb0 := (Below.refl W.heap.size W).alloc (Nat.le_refl _) (.cells #[strV x.name, .slice B x.rels.length d] 49)
  have y0 := (hb0.cell (p := ⟨b, 0, none⟩) hb.1).trans hb.2
  have HV := Lib.hid hv
  have HB0 := Lib.hid hb0
  clear hv hb hb0
  generalize x.name = xn at *
  generalize x.rels.length = xl at *
  by_cases he : xn = n
  · have HV2 : Hid (v = true) := Lib.hid (by rw [HV.out]; exact decide_eq_true he)
    subst he
    go_enter Try.func24, Try.ntmps24
    go_wp2_with fail
    go_ret
    exact ⟨by rw [HV2.out]; (first | rfl | simp), HB0.out⟩
  · have HV2 : Hid (v = false) := Lib.hid (by rw [HV.out]; exact decide_eq_false he)
    go_enter Try.func24, Try.ntmps24
    go_wp2_with fail
    go_ret
    exact ⟨by rw [HV2.out]; (first | rfl | simp [he]), HB0.out⟩
set_option maxRecDepth 100000 in
theorem enter_findR (args : Array Value) (w : World) : (callFunc 26 args).run Try.prog w = .ok (.enter 26 args) w := rfl
set_option maxRecDepth 100000 in
set_option maxHeartbeats 1000000 in
theorem findR_any (n : Txt) (F : Nat → Prop) (W : World) {b : Nat} (hb : b < W.heap.size ∧ W.cell? ⟨b, 0, none⟩ = some (strV n)) (x : Rl) (cs : List Value) (hx : RlAt W F x cs) :
    Calls Try.prog 26 #[.agg cs.toArray, .pointer (some ⟨b, 0, none⟩)] W fun r w' => r = .returned (.bool (decide (x.name = n))) ∧ Below W.heap.size W w' := by
  obtain ⟨B, m, k, p, q, E, me, ce, rfl, _, _, _⟩ := hx.six
  show Calls _ _ #[.agg #[strV x.name, .slice B x.refs.length m, .int .i64 k, strV p, strV q, .slice E me ce], _] _ _
  obtain ⟨v, hv⟩ : ∃ v, v = decide (x.name = n) := ⟨_, rfl⟩
  rw [← hv]
  have hb0 := (Below.refl W.heap.size W).alloc (Nat.le_refl _) (.cells #[strV x.name, .slice B x.refs.length m, .int .i64 k, strV p, strV q, .slice E me ce] 38)
  have y0 := (hb0.cell (p := ⟨b, 0, none⟩) hb.1).trans hb.2
  have HV := Lib.hid hv
  have HB0 := Lib.hid hb0
  clear hv hb hb0
  generalize x.name = xn at *
  generalize x.refs.length = xl at *
  by_cases he : xn = n
  · have HV2 : Hid (v = true) := Lib.hid (by rw [HV.out]; exact decide_eq_true he)
    subst he
    go_enter Try.func26, Try.ntmps26
    go_wp2_with fail
    go_ret
    exact ⟨by rw [HV2.out]; (first | rfl | simp), HB0.out⟩
  · have HV2 : Hid (v = false) := Lib.hid (by rw [HV.out]; exact decide_eq_false he)
    go_enter Try.func26, Try.ntmps26
    go_wp2_with fail
    go_ret
    exact ⟨by rw [HV2.out]; (first | rfl | simp [he]), HB0.out⟩
def FoundP (W : World) (R : Rl × Bool) (e : Ending) (w' : World) : Prop := ∃ cs : List Value, e = .returned (.tuple #[.agg cs.toArray, .bool R.2]) ∧ RlAt w' (fun _ => False) R.1 cs ∧ Below W.heap.size W w'
set_option maxRecDepth 100000 in
set_option maxHeartbeats 4000000 in
theorem find_any (s : Sc) (t n : Txt) (W : World) (F : Nat → Prop) (A : Option Addr) (c : Nat) (hs : ScAt W F A s) (hl : s.length ≤ 9223372036854775807) (hcp : (findR s t n).2 = true → cpR (findR s t n).1) :
    Calls Try.prog 12 #[.agg #[.slice A s.length c], strV t, strV n] W (FoundP W (findR s t n)) := by
  obtain ⟨R, hR⟩ : ∃ R, R = findR s t n := ⟨_, rfl⟩
  rw [← hR] at hcp ⊢
  unfold findR at hR
  dsimp only at hR
  obtain ⟨W1, hW⟩ : ∃ W1, W1 = (((W.alloc (.cells #[.slice A s.length c] 25)).alloc (.cells #[strV t] 9)).alloc (.cells #[strV n] 9)).alloc (.cells #[.string ⟨#[]⟩, .slice none 0 0, .int .i64 0, .string ⟨#[]⟩, .string ⟨#[]⟩, .slice none 0 0] 38) := ⟨_, rfl⟩
  have HKA : Hid (Blk W1 W.heap.size [.slice A s.length c] 25) := by rw [hW]; exact Lib.hid ((((Blk.new W _ _).alloc _).alloc _).alloc _)
  have HKT : Hid (Blk W1 (W.heap.size + 1) [strV t] 9) := by
    rw [hW]
    have := Blk.new (W.alloc (.cells #[.slice A s.length c] 25)) [strV t] 9
    rw [World.size_alloc] at this
    exact Lib.hid ((this.alloc _).alloc _)
  have HKN : Hid (Blk W1 (W.heap.size + 2) [strV n] 9) := by
    rw [hW]
    have := Blk.new ((W.alloc (.cells #[.slice A s.length c] 25)).alloc (.cells #[strV t] 9)) [strV n] 9
    rw [World.size_alloc, World.size_alloc] at this
    exact Lib.hid (this.alloc _)
  have HKE : Hid (Blk W1 (W.heap.size + 3) [.string ⟨#[]⟩, .slice none 0 0, .int .i64 0, .string ⟨#[]⟩, .string ⟨#[]⟩, .slice none 0 0] 38) := by
    rw [hW]
    have := Blk.new (((W.alloc (.cells #[.slice A s.length c] 25)).alloc (.cells #[strV t] 9)).alloc (.cells #[strV n] 9)) [.string ⟨#[]⟩, .slice none 0 0, .int .i64 0, .string ⟨#[]⟩, .string ⟨#[]⟩, .slice none 0 0] 38
    rw [World.size_alloc, World.size_alloc, World.size_alloc] at this
    exact Lib.hid this
  have HB0 : Hid (Below W.heap.size W W1) := by rw [hW]; exact Lib.hid (((((Below.refl _ _).alloc (Nat.le_refl _) _).alloc (by simp) _).alloc (by simp; omega) _).alloc (by simp; omega) _)
  have HW := Lib.hid hW
  have HRV := Lib.hid hR
  have HX : Hid (∀ w, Below W1.heap.size W1 w → w.cell? ⟨W.heap.size, 0, none⟩ = some (.slice A s.length c)) := Lib.hid (fun w hw => (HKA.out.below hw HKA.out.lt).cell (i := 0) (by simp))
  have HZ : Hid (∀ w, Below W1.heap.size W1 w → Blk w (W.heap.size + 3) [.string ⟨#[]⟩, .slice none 0 0, .int .i64 0, .string ⟨#[]⟩, .string ⟨#[]⟩, .slice none 0 0] 38) := Lib.hid (fun w hw => HKE.out.below hw HKE.out.lt)
  have HF : Hid (∀ w, Below W1.heap.size W1 w → Below W.heap.size W w) := Lib.hid (fun w hw => HB0.out.trans (hw.mono HB0.out.size))
  have HSR : Hid (RowAt 2 TyAt W F A s) := Lib.hid hs
  have hs1 : RowAt 2 TyAt W1 F A s := ScAt.moved (Spared.of_below HB0.out F) (fun _ h => .inl h) hs
  have hask : EAskC 2 24 (fun v => #[v, .pointer (some ⟨W.heap.size + 1, 0, none⟩)]) ShType (fun (x : Ty) => decide (x.name = t)) W1 A s :=
    RowAt.asksC hs1 TyAt.sh2 (fun x _ cs hcs w hw => findT_any t F w ⟨(HKT.out.below hw HKT.out.lt).lt, (HKT.out.below hw HKT.out.lt).cell (i := 0) (by simp)⟩ x cs (hcs.moved (Spared.of_below hw F) (fun _ h => .inl h)))
  have HT : Hid (Calls Try.prog 23 #[.slice A s.length c, .func (.func 24) #[] #[.pointer (some ⟨W.heap.size + 1, 0, none⟩)]] W1 fun e w' => e = .returned (.int .i64 (typN s t)) ∧ Below W1.heap.size W1 w') := Lib.hid (indexC_Type1 enter_findT c hask hl)
  have HTI := Lib.hid (typN_is s t)
  have HRN : Hid (relN s (typN s t) n = relsN (ofT s (typN s t)) n) := Lib.hid rfl
  have x0 := HX.out W1 (Below.refl _ _)
  rw [HW.out] at x0
  clear hs1 hask hs hR hW
  unfold relAt at HRV
  generalize typN s t = ty at *
  by_cases hty : ty < 0
  · have HR2 : Hid (R = (noRel, false)) := Lib.hid (by rw [HRV.out, HRN.out, ofT_neg hty]; rfl)
    go_enter Try.func12, Try.ntmps12
    go_wp2_with (go_at_call 23; rw [← HW.out]; (refine HT.out.mono ?_); rintro r w2 ⟨rfl, hb2⟩; have HB2 := Lib.hid hb2; clear x0; have x2 := HX.out w2 hb2; have hz := HZ.out w2 hb2; have v0 := hz.cell (i := 0) (by simp); have v1 := hz.cell (i := 1) (by simp); have v2 := hz.cell (i := 2) (by simp); have v3 := hz.cell (i := 3) (by simp); have v4 := hz.cell (i := 4) (by simp); have v5 := hz.cell (i := 5) (by simp); simp only [List.getElem_cons_succ, List.getElem_cons_zero] at v0 v1 v2 v3 v4 v5; have f0 := hz.free 0; have f1 := hz.free 1; have f2 := hz.free 2; have f3 := hz.free 3; have f4 := hz.free 4; have f5 := hz.free 5; clear hz hb2)
    refine bodyPost_ret (v := .tuple #[.agg #[.string ⟨#[]⟩, .slice none 0 0, .int .i64 0, .string ⟨#[]⟩, .string ⟨#[]⟩, .slice none 0 0], .bool false]) (by simp [results, Try.results12, go_sem, v0, v1, v2, v3, v4, v5]) rfl ?_
    rw [HR2.out]
    exact ⟨[.string ⟨#[]⟩, .slice none 0 0, .int .i64 0, .string ⟨#[]⟩, .string ⟨#[]⟩, .slice none 0 0], rfl, noRel_at _ _, (((((((HF.out w2 HB2.out).setCell (p := ⟨W.heap.size + 3, 0, none⟩) (by show W.heap.size ≤ W.heap.size + 3; omega) _).setCell (p := ⟨W.heap.size + 3, 1, none⟩) (by show W.heap.size ≤ W.heap.size + 3; omega) _).setCell (p := ⟨W.heap.size + 3, 2, none⟩) (by show W.heap.size ≤ W.heap.size + 3; omega) _).setCell (p := ⟨W.heap.size + 3, 3, none⟩) (by show W.heap.size ≤ W.heap.size + 3; omega) _).setCell (p := ⟨W.heap.size + 3, 4, none⟩) (by show W.heap.size ≤ W.heap.size + 3; omega) _).setCell (p := ⟨W.heap.size + 3, 5, none⟩) (by show W.heap.size ≤ W.heap.size + 3; omega) _)⟩
  obtain ⟨y, hy, rfl⟩ : ∃ y, y < s.length ∧ ty = (y : Int) := by
    rcases HTI.out with h | h
    · omega
    · exact h
  have hyn : ¬ ((y : Int) < 0) := by omega
  have hof := ofT_at hy
  rw [hof] at HRN
  obtain ⟨b, off, B, d, rfl, ⟨_, hrl⟩, hr, hc⟩ := HSR.out.ty hy
  have HCT := Lib.hid (fun w hw => (hc w hw).2)
  have HRI := Lib.hid (relsN_is s[y].rels n)
  have hr1 : RowAt 6 RlAt W F B s[y].rels := hr
  have HRC : Hid (∀ w, Below W1.heap.size W1 w → Calls Try.prog 25 #[.slice B s[y].rels.length d, .func (.func 26) #[] #[.pointer (some ⟨W.heap.size + 2, 0, none⟩)]] w fun e w' => e = .returned (.int .i64 (relsN s[y].rels n)) ∧ Below w.heap.size w w') := Lib.hid (fun w hw => by
    have hsp := Spared.of_below (HF.out w hw) F
    have hr2 : RowAt 6 RlAt w F B s[y].rels := hr1.moved hsp (fun _ h => .inl h) (fun _ _ _ h => h.moved hsp (fun _ h => .inl h))
    have hask : EAskC 6 26 (fun v => #[v, .pointer (some ⟨W.heap.size + 2, 0, none⟩)]) ShRel (fun (x : Rl) => decide (x.name = n)) w B s[y].rels :=
      RowAt.asksC hr2 RlAt.shC (fun x _ cs hcs w' hw' => findR_any n F w' ⟨(HKN.out.below (hop hw hw') HKN.out.lt).lt, (HKN.out.below (hop hw hw') HKN.out.lt).cell (i := 0) (by simp)⟩ x cs (hcs.moved (Spared.of_below hw' F) (fun _ h => .inl h)))
    exact indexC_Rel1 enter_findR d hask (by omega))
  by_cases hneg : relsN s[y].rels n < 0
  · have HR2 : Hid (R = (noRel, false)) := Lib.hid (by rw [HRV.out, HRN.out, if_pos hneg])
    generalize relsN s[y].rels n = rk at *
    generalize s[y].rels = rs at *
    clear hc hr hr1 hof
    go_enter Try.func12, Try.ntmps12
    go_wp2_with (first
      | (go_at_call 23; rw [← HW.out]; (refine HT.out.mono ?_); rintro r w2 ⟨rfl, hb2⟩; have HB2 := Lib.hid hb2; clear x0; have x2 := HX.out w2 hb2; have z2 := HCT.out w2 (HF.out w2 hb2); clear hb2)
      | (go_at_call 25; (with_reducible refine (HRC.out w2 HB2.out).mono ?_); rintro r w3 ⟨rfl, hb3⟩; have HB3 := Lib.hid (hop HB2.out hb3); clear hb3; have hz := HZ.out w3 HB3.out; have v0 := hz.cell (i := 0) (by simp); have v1 := hz.cell (i := 1) (by simp); have v2 := hz.cell (i := 2) (by simp); have v3 := hz.cell (i := 3) (by simp); have v4 := hz.cell (i := 4) (by simp); have v5 := hz.cell (i := 5) (by simp); simp only [List.getElem_cons_succ, List.getElem_cons_zero] at v0 v1 v2 v3 v4 v5; have f0 := hz.free 0; have f1 := hz.free 1; have f2 := hz.free 2; have f3 := hz.free 3; have f4 := hz.free 4; have f5 := hz.free 5; clear hz))
    refine bodyPost_ret (v := .tuple #[.agg #[.string ⟨#[]⟩, .slice none 0 0, .int .i64 0, .string ⟨#[]⟩, .string ⟨#[]⟩, .slice none 0 0], .bool false]) (by simp [results, Try.results12, go_sem, v0, v1, v2, v3, v4, v5]) rfl ?_
    rw [HR2.out]
    exact ⟨[.string ⟨#[]⟩, .slice none 0 0, .int .i64 0, .string ⟨#[]⟩, .string ⟨#[]⟩, .slice none 0 0], rfl, noRel_at _ _, (((((((HF.out w3 HB3.out).setCell (p := ⟨W.heap.size + 3, 0, none⟩) (by show W.heap.size ≤ W.heap.size + 3; omega) _).setCell (p := ⟨W.heap.size + 3, 1, none⟩) (by show W.heap.size ≤ W.heap.size + 3; omega) _).setCell (p := ⟨W.heap.size + 3, 2, none⟩) (by show W.heap.size ≤ W.heap.size + 3; omega) _).setCell (p := ⟨W.heap.size + 3, 3, none⟩) (by show W.heap.size ≤ W.heap.size + 3; omega) _).setCell (p := ⟨W.heap.size + 3, 4, none⟩) (by show W.heap.size ≤ W.heap.size + 3; omega) _).setCell (p := ⟨W.heap.size + 3, 5, none⟩) (by show W.heap.size ≤ W.heap.size + 3; omega) _)⟩
  obtain ⟨k, hk, hkr⟩ : ∃ k, k < s[y].rels.length ∧ relsN s[y].rels n = (k : Int) := by
    rcases HRI.out with h | h
    · omega
    · exact h
  have HR2 : Hid (R = (s[y].rels[k], true)) := Lib.hid (by rw [HRV.out, HRN.out, if_neg hneg, hof, hkr, Int.toNat_natCast, List.getElem?_eq_getElem hk]; rfl)
  have hcp2 : cpR s[y].rels[k] := by rw [HR2.out] at hcp; exact hcp rfl
  rw [hkr] at HRC
  obtain ⟨g, og, n1, B1, m1, c1, k1, p1, q1, E1, m2, c2, rfl, hE, hcells⟩ := RowAt.rel hr hk
  have HCE := Lib.hid hcells
  have HCR : Hid (∀ w, Below W1.heap.size W1 w → Calls Try.prog 27 #[.agg #[strV n1, .slice B1 m1 c1, .int .i64 k1, strV p1, strV q1, .slice E1 m2 c2]] w (CopyR w s[y].rels[k])) := Lib.hid (fun w hw => copyR_any _ w F _ hcp2 (hE.below (HF.out w hw)))
  have hknn : ¬ ((k : Int) < 0) := by omega
  clear hneg hkr
  generalize s[y].rels[k] = x at *
  generalize s[y].rels = rs at *
  clear hc hr hr1 hof hcells hE hcp hcp2
  go_enter Try.func12, Try.ntmps12
  go_wp2_with (first
    | (go_at_call 23; rw [← HW.out]; (refine HT.out.mono ?_); rintro r w2 ⟨rfl, hb2⟩; have HB2 := Lib.hid hb2; clear x0; have x2 := HX.out w2 hb2; have z2 := HCT.out w2 (HF.out w2 hb2); clear hb2)
    | (go_at_call 25; (with_reducible refine (HRC.out w2 HB2.out).mono ?_); rintro r w3 ⟨rfl, hb3⟩; have HB3 := Lib.hid (hop HB2.out hb3); clear hb3; have zz2 := z2; clear z2; obtain ⟨e0, e1, e2, e3, e4, e5⟩ := HCE.out w3 (HF.out w3 HB3.out))
    | (go_at_call 27; (with_reducible refine (HCR.out w3 HB3.out).mono ?_); rintro r w4 ⟨cs4, rfl, hx4, hb4⟩; have HX4 := Lib.hid hx4; obtain ⟨B4, m4, k4, n4, o4, E4, me4, ce4, rfl, _, _, _⟩ := HX4.out.six; have HB4 := Lib.hid (hop HB3.out hb4); have hz := HZ.out w4 HB4.out; have v0 := hz.cell (i := 0) (by simp); have v1 := hz.cell (i := 1) (by simp); have v2 := hz.cell (i := 2) (by simp); have v3 := hz.cell (i := 3) (by simp); have v4 := hz.cell (i := 4) (by simp); have v5 := hz.cell (i := 5) (by simp); simp only [List.getElem_cons_succ, List.getElem_cons_zero] at v0 v1 v2 v3 v4 v5; have f0 := hz.free 0; have f1 := hz.free 1; have f2 := hz.free 2; have f3 := hz.free 3; have f4 := hz.free 4; have f5 := hz.free 5; clear hz hb4 hx4))
  refine bodyPost_ret (v := .tuple #[.agg #[strV x.name, .slice B4 x.refs.length m4, .int .i64 k4, strV n4, strV o4, .slice E4 me4 ce4], .bool true]) (by simp [results, Try.results12, go_sem, v0, v1, v2, v3, v4, v5]) rfl ?_
  rw [HR2.out]
  have hsp : Spared w4 ((((((w4.setCell ⟨W.heap.size + 3, 0, none⟩ (strV x.name)).setCell ⟨W.heap.size + 3, 1, none⟩ (.slice B4 x.refs.length m4)).setCell ⟨W.heap.size + 3, 2, none⟩ (.int .i64 k4)).setCell ⟨W.heap.size + 3, 3, none⟩ (strV n4)).setCell ⟨W.heap.size + 3, 4, none⟩ (strV o4)).setCell ⟨W.heap.size + 3, 5, none⟩ (.slice E4 me4 ce4)) (fun b => b < w3.heap.size) := by
    have hF : (fun b => b < w3.heap.size) (W.heap.size + 3) := by
      have h1 := HKE.out.lt
      have h2 := HB3.out.size
      show W.heap.size + 3 < w3.heap.size
      omega
    exact ((((((Spared.refl w4 (fun b => b < w3.heap.size)).setCell hF _ _).setCell hF _ _).setCell hF _ _).setCell hF _ _).setCell hF _ _).setCell hF _ _
  exact ⟨_, rfl, HX4.out.moved hsp (fun _ h => h.elim), (((((((HF.out w4 HB4.out).setCell (p := ⟨W.heap.size + 3, 0, none⟩) (by show W.heap.size ≤ W.heap.size + 3; omega) _).setCell (p := ⟨W.heap.size + 3, 1, none⟩) (by show W.heap.size ≤ W.heap.size + 3; omega) _).setCell (p := ⟨W.heap.size + 3, 2, none⟩) (by show W.heap.size ≤ W.heap.size + 3; omega) _).setCell (p := ⟨W.heap.size + 3, 3, none⟩) (by show W.heap.size ≤ W.heap.size + 3; omega) _).setCell (p := ⟨W.heap.size + 3, 4, none⟩) (by show W.heap.size ≤ W.heap.size + 3; omega) _).setCell (p := ⟨W.heap.size + 3, 5, none⟩) (by show W.heap.size ≤ W.heap.size + 3; omega) _)⟩
end Go.Proofs.Ytdnhbledndgbcaa
namespace Go.Proofs.Ytdnhbledndgbcaa
open Go.RowKit
def CkAre (s : Sc) (W : World) (e : Ending) (w' : World) : Prop := ∃ z : Fa, e = .returned (faV z) ∧ Below W.heap.size W w' ∧ ExIs s z (fun _ => True)
def LsAre (s : Sc) (W : World) (e : Ending) (w' : World) : Prop := ∃ (z : Fa) (A2 : Option Addr) (n c2 : Nat), e = .returned (.tuple #[.slice A2 n c2, .bool (decide (z.2.2 = 0))]) ∧ Below W.heap.size W w' ∧ ExIs s z (fun ls => n = s.length ∧ IlAt w' (fun k => k < W.heap.size) A2 ls) ∧ (z.2.2 ≠ 0 → n = 0) ∧ n ≤ c2
set_option maxRecDepth 100000 in
set_option maxHeartbeats 4000000 in
theorem check_any (s : Sc) (F : Nat → Prop) (A : Option Addr) (c : Nat) (hl : s.length ≤ 9223372036854775807) (hcap : s.length ≤ c) (hrf : ∀ t ∈ s, ∀ r ∈ t.rels, r.refs.length ≤ 1000000) (W : World) (hs : ScAt W F A s) :
    Calls Try.prog 9 #[.agg #[.slice A s.length c]] W (CkAre s W) := by
  obtain ⟨W1, hW⟩ : ∃ W1, W1 = (W.alloc (.cells #[.slice A s.length c] 25)).alloc (.cells #[.int .i64 0, .int .i64 0, .int .i64 0] 29) := ⟨_, rfl⟩
  have HKA : Hid (Blk W1 W.heap.size [.slice A s.length c] 25) := by rw [hW]; exact Lib.hid ((Blk.new W _ _).alloc _)
  have HKE : Hid (Blk W1 (W.heap.size + 1) [.int .i64 0, .int .i64 0, .int .i64 0] 29) := by
    rw [hW]
    have := Blk.new (W.alloc (.cells #[.slice A s.length c] 25)) [.int .i64 0, .int .i64 0, .int .i64 0] 29
    rw [World.size_alloc] at this
    exact Lib.hid this
  have HB0 : Hid (Below W.heap.size W W1) := by rw [hW]; exact Lib.hid (((Below.refl _ _).alloc (Nat.le_refl _) _).alloc (by simp) _)
  have hx0 := HKA.out.cell (i := 0) (by simp)
  simp only [List.getElem_cons_zero] at hx0
  have HEX := Lib.hid (examine_any s F A c hl hcap hrf W1 (hs.below HB0.out))
  have HW := Lib.hid hW
  rw [hW] at hx0
  clear hW hs hrf
  go_enter Try.func9, Try.ntmps9
  go_wp2_with (go_at_call 18; rw [← HW.out]; refine HEX.out.mono ?_; rintro r w2 ⟨⟨z1, z2, z3⟩, A2, n, c2, rfl, hb2, hex, hn0⟩; have HB2 := Lib.hid hb2; have HE := Lib.hid hex; have hke := (HKE.out.below hb2 HKE.out.lt).alloc (.cells #[.int .i64 z1, .int .i64 z2, .int .i64 (z3 : Int)] 29); have v0 := hke.cell (i := 0) (by simp); have v1 := hke.cell (i := 1) (by simp); have v2 := hke.cell (i := 2) (by simp); have g0 := hke.free 0; have g1 := hke.free 1; have g2 := hke.free 2; clear hb2 hex hke hx0 hn0)
  refine bodyPost_ret (v := .agg #[.int .i64 z1, .int .i64 z2, .int .i64 (z3 : Int)]) (by simp [results, Try.results9, go_sem, v0, v1, v2]) rfl ?_
  have hb := (HB0.out.trans (HB2.out.mono HB0.out.size)).alloc (o := .cells #[.int .i64 z1, .int .i64 z2, .int .i64 (z3 : Int)] 29) (by have := HB0.out.size; have := HB2.out.size; omega)
  exact ⟨(z1, z2, z3), rfl, ((hb.setCell (p := ⟨W.heap.size + 1, 0, none⟩) (Nat.le_succ _) _).setCell (p := ⟨W.heap.size + 1, 1, none⟩) (Nat.le_succ _) _).setCell (p := ⟨W.heap.size + 1, 2, none⟩) (Nat.le_succ _) _, HE.out.mono (fun _ _ => trivial)⟩
set_option maxRecDepth 100000 in
set_option maxHeartbeats 4000000 in
theorem levels2_any (s : Sc) (F : Nat → Prop) (A : Option Addr) (c : Nat) (hl : s.length ≤ 9223372036854775807) (hcap : s.length ≤ c) (hrf : ∀ t ∈ s, ∀ r ∈ t.rels, r.refs.length ≤ 1000000) (W : World) (hs : ScAt W F A s) :
    Calls Try.prog 15 #[.agg #[.slice A s.length c]] W (LsAre s W) := by
  obtain ⟨W1, hW⟩ : ∃ W1, W1 = W.alloc (.cells #[.slice A s.length c] 25) := ⟨_, rfl⟩
  have HB0 : Hid (Below W.heap.size W W1) := by rw [hW]; exact Lib.hid ((Below.refl _ _).alloc (Nat.le_refl _) _)
  have hx0 : W1.cell? ⟨W.heap.size, 0, none⟩ = some (.slice A s.length c) := by
    rw [hW]
    exact (Blk.new W [.slice A s.length c] 25).cell (i := 0) (by simp)
  have HEX := Lib.hid (examine_any s F A c hl hcap hrf W1 (hs.below HB0.out))
  have HW := Lib.hid hW
  rw [hW] at hx0
  clear hW hs hrf
  go_enter Try.func15, Try.ntmps15
  go_wp2_with (go_at_call 18; rw [← HW.out]; refine HEX.out.mono ?_; rintro r w2 ⟨⟨z1, z2, z3⟩, A2, n, c2, rfl, hb2, hex, hn0⟩; have HB2 := Lib.hid hb2; have HE := Lib.hid hex; have HN0 := Lib.hid hn0; clear hb2 hex hx0 hn0)
  obtain ⟨w3, hw3⟩ : ∃ w3, w3 = w2.alloc (.cells #[.int .i64 z1, .int .i64 z2, .int .i64 (z3 : Int)] 29) := ⟨_, rfl⟩
  rw [← hw3]
  have hb3 : Below w2.heap.size w2 w3 := by rw [hw3]; exact (Below.refl _ _).alloc (Nat.le_refl _) _
  have c2' : w3.drew.cell? ⟨w2.heap.size, 2, none⟩ = some (.int .i64 (z3 : Int)) := by
    rw [hw3]
    exact (Blk.new w2 [.int .i64 z1, .int .i64 z2, .int .i64 (z3 : Int)] 29).cell (i := 2) (by simp)
  have HB3 : Hid (Below W.heap.size W w3.drew) := Lib.hid ((HB0.out.trans (HB2.out.mono HB0.out.size)).trans (hb3.mono (by have := HB0.out.size; have := HB2.out.size; omega))).drew
  have HE3 : Hid (ExIs s (z1, z2, z3) (fun ls => n = s.length ∧ IlAt w3.drew (fun k => k < W.heap.size) A2 ls)) := Lib.hid (HE.out.mono (fun l hl => ⟨hl.1, by
    have hsp : Spared w2 w3.drew (fun k => k < W1.heap.size) := (Spared.of_below hb3 _).drew
    have hg : ∀ k, k < W.heap.size → k < W1.heap.size ∨ w2.heap.size ≤ k := fun k hk => .inl (Nat.lt_of_lt_of_le hk HB0.out.size)
    exact hl.2.moved hsp hg (fun _ _ _ h => keeps_ir _ _ _ _ hsp hg _ _ h)⟩))
  clear hw3 hb3
  by_cases h3 : z3 = 0
  · subst h3
    go_wp2_with fail
    go_region
    go_wp2_with fail
    go_ret2
    exact ⟨(z1, z2, 0), A2, n, c2, rfl, HB3.out, HE3.out, fun h => absurd rfl h, HN0.out.2⟩
  · have q1 : ((z3 : Int) == 0) = false := beq_eq_false_iff_ne.2 (by omega)
    have q2 : ¬ (z3 : Int) = 0 := by omega
    have HD : Hid (decide ((z1, z2, z3).2.2 = 0) = false) := Lib.hid (decide_eq_false h3)
    clear h3
    go_wp2_with fail
    go_region
    go_wp2_with fail
    go_ret2
    exact ⟨(z1, z2, z3), A2, n, c2, by rw [HD.out]; rfl, HB3.out, HE3.out, HN0.out⟩
end Go.Proofs.Ytdnhbledndgbcaa
namespace Go.Proofs.Ytdnhbledndgbcaa
open Go.RowKit
theorem read_at {t : Txt} {sc : Sc} (h : parseT t = (sc, (0, 0, 0))) (hm : t.length ≤ 5000) (w : World) : Calls Try.prog 8 #[strV t] w (ReadAs w sc) := by
  have h1 := read_any ⟨t.toArray⟩ w (by simpa [ByteArray.size] using hm)
  rw [show (⟨t.toArray⟩ : ByteArray).data.toList = t from rfl, h] at h1
  exact h1
set_option maxHeartbeats 4000000 in
set_option maxRecDepth 100000 in
theorem awake_any (W : World) : Calls Try.prog 7 #[] W fun e w' => e = .returned (.bool true) ∧ Below W.heap.size W w' := by
  have HR1 := Lib.hid (fun w => read_at rk_parse1 (by decide) w)
  have HR2 := Lib.hid (fun w => read_at rk_parse2 (by decide) w)
  have HR3 := Lib.hid (fun w => read_at rk_parse3 (by decide) w)
  go_enter Try.func7, Try.ntmps7
  go_wp2_with fail
  refine (HR1.out W).mono ?_
  rintro e w1 ⟨A1, c1, rfl, hs1, ⟨_, hc1⟩, hb1⟩
  have HC := Lib.hid (check_any rkS1 _ A1 c1 (by decide) hc1 (refsOk_is rk_refs1) w1 hs1)
  have HB1 := Lib.hid hb1
  clear hs1 hb1 hc1
  go_wp2_with fail
  refine HC.out.mono ?_
  rintro e w2 ⟨z, rfl, hb2, hz⟩
  obtain rfl : z = (0, 1, 11) := by rw [hz.doc.1]; exact rk_doc1
  have HB2 := Lib.hid (HB1.out.trans (hb2.mono HB1.out.size))
  obtain ⟨u2, hu2⟩ : ∃ u2, u2 = w2.alloc (.cells #[.int .i64 0, .int .i64 1, .int .i64 11] 29) := ⟨_, rfl⟩
  have HK2 : Hid (Blk u2 w2.heap.size [.int .i64 0, .int .i64 1, .int .i64 11] 29) := by rw [hu2]; exact Lib.hid (Blk.new _ _ _)
  have HBU2 : Hid (Below W.heap.size W u2) := by rw [hu2]; exact Lib.hid (HB2.out.alloc HB2.out.size _)
  have HU2 := Lib.hid hu2
  clear hz hb2 hu2
  go_wp2_with fail
  show Calls _ _ _ (w2.alloc (.cells #[.int .i64 0, .int .i64 1, .int .i64 11] 29)) _
  rw [← HU2.out]
  refine (HR2.out u2).mono ?_
  rintro e w3 ⟨A3, c3, rfl, hs3, ⟨_, hc3⟩, hb3⟩
  have HL := Lib.hid (levels2_any rkS2 _ A3 c3 (by decide) hc3 (refsOk_is rk_refs2) w3 hs3)
  have HB3 := Lib.hid hb3
  clear hs3 hb3 hc3
  go_wp2_with fail
  refine HL.out.mono ?_
  rintro e w4 ⟨z, A4, n4, c4, rfl, hb4, hz, _⟩
  obtain ⟨hz1, hz2⟩ := hz.doc
  obtain rfl : z = (0, 0, 0) := by rw [hz1]; exact rk_doc2
  obtain ⟨_, ⟨hn4, hil⟩, _⟩ := hz2 rfl
  rw [rk_lev2] at hil
  obtain rfl : n4 = 1 := hn4
  have HIL := Lib.hid hil
  have HB4 := Lib.hid (hop HB3.out hb4)
  clear hz hz1 hz2 hb4 hil
  have hdt : decide (((0 : Int), (0 : Int), 0).2.2 = 0) = true := rfl
  go_wp2_with fail
  refine (HR3.out w4).mono ?_
  rintro e w5 ⟨A5, c5, rfl, hs5, ⟨_, hc5⟩, hb5⟩
  have HFD := Lib.hid (find_any rkS3 [117] [97] w5 _ A5 c5 hs5 (by decide) (by rw [rk_find3]; exact fun _ => rk_cp3))
  rw [rk_find3] at HFD
  have HB5 := Lib.hid (hop HB4.out hb5)
  have HI5 := Lib.hid (HIL.out.below hb5)
  clear hs5 hb5 hc5
  go_wp2_with fail
  refine HFD.out.mono ?_
  rintro e w6 ⟨cs6, rfl, hr6, hb6⟩
  obtain ⟨B6, m6, k6, p6, q6, E6, me6, ce6, rfl, _, _, _⟩ := hr6.six
  have HB6 := Lib.hid (hop HB5.out hb6)
  obtain ⟨g, og, A7, c7, rfl, hz7, hrow7⟩ := (HI5.out.below hb6).rowB (i := 0) (by decide)
  obtain ⟨g7, og7, rfl, h70⟩ := hrow7 0 (by decide)
  obtain ⟨g7', og7', hA, h71⟩ := hrow7 1 (by decide)
  injection hA with hA; injection hA with hA1 hA2; subst hA1 hA2
  obtain ⟨g7', og7', hA, h72⟩ := hrow7 2 (by decide)
  injection hA with hA; injection hA with hA1 hA2; subst hA1 hA2
  obtain ⟨u7, hu7⟩ : ∃ u7, u7 = w6.alloc (.cells #[strV [97], .slice B6 1 m6, .int .i64 k6, strV p6, strV q6, .slice E6 me6 ce6] 38) := ⟨_, rfl⟩
  have hbu7 : Below w6.heap.size w6 u7 := by rw [hu7]; exact (Below.refl _ _).alloc (Nat.le_refl _) _
  have HB7 := Lib.hid (hop HB6.out hbu7)
  have hb57 : Below w5.heap.size w5 u7 := hop hb6 hbu7
  have hk2 := HK2.out.below HB7.out HK2.out.lt
  have t0 := hk2.cell (i := 0) (by simp)
  have t1 := hk2.cell (i := 1) (by simp)
  have t2 := hk2.cell (i := 2) (by simp)
  have hk7 : Blk u7 w6.heap.size [strV [97], .slice B6 1 m6, .int .i64 k6, strV p6, strV q6, .slice E6 me6 ce6] 38 := by rw [hu7]; exact Blk.new _ _ _
  have r1 := hk7.cell (i := 1) (by simp)
  have z0 := hz7 u7 hbu7
  have z1 := h70 u7 hbu7
  have z2 := h71 u7 hbu7
  have z3 := h72 u7 hbu7
  have HU7 := Lib.hid hu7
  simp only [List.getElem_cons_succ, List.getElem_cons_zero] at t0 t1 t2 r1
  rw [hu7] at t0 t1 t2 r1 z0 z1 z2 z3
  have z0 : (w6.alloc (.cells #[strV [97], .slice B6 1 m6, .int .i64 k6, strV p6, strV q6, .slice E6 me6 ce6] 38)).cell? ⟨g, og, none⟩ = some (.slice (some ⟨g7, og7, none⟩) 3 c7) := z0
  have z1 : (w6.alloc (.cells #[strV [97], .slice B6 1 m6, .int .i64 k6, strV p6, strV q6, .slice E6 me6 ce6] 38)).cell? ⟨g7, og7, none⟩ = some (.int .i64 0) := z1
  have z2 : (w6.alloc (.cells #[strV [97], .slice B6 1 m6, .int .i64 k6, strV p6, strV q6, .slice E6 me6 ce6] 38)).cell? ⟨g7, og7 + 1, none⟩ = some (.int .i64 1) := z2
  have z3 : (w6.alloc (.cells #[strV [97], .slice B6 1 m6, .int .i64 k6, strV p6, strV q6, .slice E6 me6 ce6] 38)).cell? ⟨g7, og7 + 2, none⟩ = some (.int .i64 0) := z3
  clear hu7 hk2 hk7 hbu7 hb57 h70 h71 h72 hrow7 hz7 hb6 hr6 hdt
  go_wp2_with fail
  go_ret
  exact ⟨rfl, HBU2.out.trans ((by rw [HU7.out] at HB7; exact HB7.out : Below u2.heap.size u2 _).mono HBU2.out.size)⟩
end Go.Proofs.Ytdnhbledndgbcaa
namespace Go.Proofs.Ytdnhbledndgbcaa
open Go.RowKit
def wR (x : Rl) : Nat := x.refs.length + nodes x.expr
def wRs : List Rl → Nat
  | [] => 0
  | x :: r => wR x + wRs r
def wTs : Sc → Nat
  | [] => 0
  | t :: r => 1 + wRs t.rels + wTs r
theorem nodes_pos (e : Ex) : 1 ≤ nodes e := by cases e; simp [nodes]
theorem weightL_pos : ∀ (l : List Ex) (m : Int), 0 < weightL l m → 0 < m
  | [], m, h => by unfold weightL at h; exact h
  | x :: r, m, h => by
    unfold weightL at h
    by_cases h0 : 0 < m
    · exact h0
    · rw [if_neg h0] at h; exact h
theorem weight_nodes : ∀ (e : Ex) (m : Int), 0 < weightE e m → weightE e m + nodes e = m := by
  intro e
  refine Ex.all (P := fun e => ∀ m : Int, 0 < weightE e m → weightE e m + nodes e = m) (fun k n o ks ih m => ?_) e
  have hL : ∀ (l : List Ex), (∀ x ∈ l, x ∈ ks) → ∀ m : Int, 0 < weightL l m → weightL l m + nodesL l = m := by
    intro l
    induction l with
    | nil => intro _ m h; unfold weightL nodesL; simp
    | cons x r ihr =>
      intro hs m h
      unfold weightL nodesL
      unfold weightL at h
      by_cases h0 : 0 < m
      · rw [if_pos h0] at h ⊢
        have h1 := ihr (fun y hy => hs y (List.mem_cons_of_mem _ hy)) (weightE x m) h
        have h2 := ih x (hs x (List.mem_cons_self ..)) m (weightL_pos _ _ h)
        push_cast
        omega
      · rw [if_neg h0] at h; exact absurd h h0
  intro h
  unfold weightE at h ⊢
  by_cases hk : m < ks.length
  · rw [if_pos hk] at h; omega
  · rw [if_neg hk] at h ⊢
    have := hL ks (fun _ h => h) (m - 1) h
    unfold nodes
    push_cast
    omega
theorem fewRs_pos (most : Int) : ∀ (l : List Rl) (n q : Int), fewRs most l n = some q → 0 < q → 0 < n ∧ q + wRs l = n
  | [], n, q, h, hq => by
    unfold fewRs at h
    injection h with h
    subst h
    exact ⟨hq, by simp [wRs]⟩
  | x :: r, n, q, h, hq => by
    unfold fewRs at h
    by_cases h0 : 0 < n
    · rw [if_pos h0] at h
      split at h
      · cases h
      · obtain ⟨h1, h2⟩ := fewRs_pos most r _ q h hq
        have h3 := weight_nodes _ _ h1
        refine ⟨h0, ?_⟩
        simp only [wRs, wR]
        push_cast
        omega
    · rw [if_neg h0] at h
      injection h with h
      omega
theorem fewTs_pos (most : Int) : ∀ (l : List Ty) (n q : Int), fewTs most l n = some q → 0 < q → 0 < n ∧ q + wTs l = n + l.length
  | [], n, q, h, hq => by
    unfold fewTs at h
    injection h with h
    subst h
    exact ⟨hq, by simp [wTs]⟩
  | t :: r, n, q, h, hq => by
    unfold fewTs at h
    by_cases h0 : 0 < n
    · rw [if_pos h0] at h
      split at h
      · cases h
      · cases hr : fewRs most t.rels n with
        | none => rw [hr] at h; cases h
        | some m =>
          rw [hr] at h
          obtain ⟨h1, h2⟩ := fewTs_pos most r m q h hq
          obtain ⟨_, h3⟩ := fewRs_pos most t.rels n m hr h1
          refine ⟨h0, ?_⟩
          simp only [wTs, List.length_cons]
          push_cast
          omega
    · rw [if_neg h0] at h
      injection h with h
      omega
theorem few_parts {s : Sc} {most : Int} (h : fewS s most = true) : (wTs s : Int) < most := by
  unfold fewS at h
  cases hr : fewTs most s (most - s.length) with
  | none => rw [hr] at h; cases h
  | some q =>
    rw [hr] at h
    have hq : 0 < q := of_decide_eq_true h
    obtain ⟨_, h2⟩ := fewTs_pos most s _ q hr hq
    omega
def Sz {α : Type} (x : Rs α) (g : α → Nat) (n : Nat) : Prop := ∀ a r, x = .ok a r → g a + r.length ≤ n
theorem Sz.then {α β : Type} {x : Rs α} {f : α → List Tk → Rs β} {g : α → Nat} {h : β → Nat} {n m : Nat} (hx : Sz x g n) (hf : ∀ a r, g a + r.length ≤ n → Sz (f a r) h m) : Sz (x.then f) h m := by
  intro b r hb
  obtain ⟨a, r', h1, h2⟩ := Rs.then_ok hb
  exact hf a r' (hx a r' h1) b r h2
theorem Sz.ok {α : Type} {g : α → Nat} {a : α} {r : List Tk} {n : Nat} (h : g a + r.length ≤ n) : Sz (.ok a r) g n := by
  intro b r' hb
  injection hb with h1 h2
  subst h1 h2; exact h
theorem Sz.no {α : Type} {g : α → Nat} {d : Dg} {n : Nat} : Sz (.no d : Rs α) g n := by
  intro b r' hb; cases hb
theorem Sz.mono {α : Type} {x : Rs α} {g : α → Nat} {n m : Nat} (h : Sz x g n) (hm : n ≤ m) : Sz x g m := fun a r ha => Nat.le_trans (h a r ha) hm
theorem nx_ne {ts : List Tk} {s : Txt} (h : (nx ts).1 = s) (hs : s ≠ []) : ts.tail.length + 1 = ts.length := by
  cases ts with
  | nil => exact absurd h.symm hs
  | cons t r => simp
theorem name_sz (ts : List Tk) : Sz (nameP ts) (fun _ => 1) ts.length := by
  unfold nameP
  split
  · rename_i h
    have := nx_ne (ts := ts) rfl (fun e => by rw [e] at h; revert h; decide)
    exact Sz.ok (by omega)
  · exact Sz.no
theorem must_sz (s : Txt) (hs : s ≠ []) (ts : List Tk) : Sz (mustP s ts) (fun _ => 1) ts.length := by
  unfold mustP
  split
  · rename_i h
    have := nx_ne h hs
    exact Sz.ok (by omega)
  · exact Sz.no
theorem ref_sz (ts : List Tk) : Sz (refP ts) (fun _ => 1) ts.length := by
  unfold refP
  refine (name_sz ts).then fun a r hr => ?_
  split
  · rename_i h
    have := nx_ne h (by decide)
    refine (name_sz _).then fun b r' hr' => Sz.ok ?_
    omega
  · exact Sz.ok hr
theorem refs_sz : ∀ (n : Nat) (ts : List Tk), Sz (refsLoop n ts) List.length ts.length
  | 0, ts => Sz.ok (by simp)
  | n + 1, ts => by
    unfold refsLoop
    split
    · rename_i h
      have := nx_ne h (by decide)
      refine (ref_sz _).then fun x r hr => (refs_sz n r).then fun l r' hr' => Sz.ok ?_
      simp; omega
    · exact Sz.ok (by simp)
theorem atom_sz {sub : Option (List Tk → Rs Ex)} (hs : ∀ f, sub = some f → ∀ ts, Sz (f ts) nodes ts.length) (ts : List Tk) : Sz (atomK sub ts) nodes ts.length := by
  unfold atomK
  split
  · rename_i h
    have := nx_ne h (by decide)
    cases sub with
    | none => exact Sz.no
    | some f =>
      refine (hs f rfl _).then fun e r hr => (must_sz _ (by decide) _).then fun _ r' hr' => Sz.ok ?_
      omega
  · refine (name_sz ts).then fun a r hr => ?_
    split
    · rename_i h
      have := nx_ne h (by decide)
      refine (name_sz _).then fun b r' hr' => Sz.ok ?_
      simp [nodes, nodesL]; omega
    · exact Sz.ok (by simp [nodes, nodesL]; omega)
theorem two_sz (k : Int) (t : Tk) (a b : Ex) (r : List Tk) : Sz (twoP k t a b r) nodes (nodes a + nodes b + 1 + r.length) := by
  unfold twoP
  split
  · exact Sz.no
  · exact Sz.ok (by simp [nodes, nodesL])
theorem termLoop_sz {sub : Option (List Tk → Rs Ex)} (hs : ∀ f, sub = some f → ∀ ts, Sz (f ts) nodes ts.length) : ∀ (n : Nat) (a : Ex) (ts : List Tk), Sz (termLoop sub n a ts) nodes (nodes a + ts.length)
  | 0, a, ts => Sz.ok (Nat.le_refl _)
  | n + 1, a, ts => by
    unfold termLoop
    split
    · rename_i h
      have := nx_ne h (by decide)
      refine (atom_sz hs _).then fun b r hr => (two_sz _ _ _ _ _).then fun e r' hr' => (termLoop_sz hs n e r').mono ?_
      omega
    · exact Sz.ok (Nat.le_refl _)
theorem term_sz {sub : Option (List Tk → Rs Ex)} (hs : ∀ f, sub = some f → ∀ ts, Sz (f ts) nodes ts.length) (ts : List Tk) : Sz (termK sub ts) nodes ts.length := by
  unfold termK
  exact (atom_sz hs ts).then fun a r hr => (termLoop_sz hs _ _ _).mono hr
theorem exprLoop_sz {sub : Option (List Tk → Rs Ex)} (hs : ∀ f, sub = some f → ∀ ts, Sz (f ts) nodes ts.length) : ∀ (n : Nat) (a : Ex) (ts : List Tk), Sz (exprLoop sub n a ts) nodes (nodes a + ts.length)
  | 0, a, ts => Sz.ok (Nat.le_refl _)
  | n + 1, a, ts => by
    unfold exprLoop
    split
    · rename_i h
      have : ts.tail.length + 1 = ts.length := by
        rcases h with h | h
        · exact nx_ne h (by decide)
        · exact nx_ne h (by decide)
      refine (term_sz hs _).then fun b r hr => (two_sz _ _ _ _ _).then fun e r' hr' => (exprLoop_sz hs n e r').mono ?_
      omega
    · exact Sz.ok (Nat.le_refl _)
theorem expr_sz {sub : Option (List Tk → Rs Ex)} (hs : ∀ f, sub = some f → ∀ ts, Sz (f ts) nodes ts.length) (ts : List Tk) : Sz (exprK sub ts) nodes ts.length := by
  unfold exprK
  exact (term_sz hs ts).then fun a r hr => (exprLoop_sz hs _ _ _).mono hr
theorem exprD_sz : ∀ (d : Nat) (ts : List Tk), Sz (exprD d ts) nodes ts.length
  | 0, ts => expr_sz (fun f h => by cases h) ts
  | d + 1, ts => expr_sz (fun f h ts => by
      injection h with h
      subst h
      exact exprD_sz d ts) ts
theorem told_sz (ts : List Tk) : Sz (toldP ts) wR ts.length := by
  unfold toldP
  refine (name_sz ts).then fun _ r hr => (must_sz _ (by decide) r).then fun _ r1 h1 => (ref_sz r1).then fun _ r2 h2 => (refs_sz _ r2).then fun _ r3 h3 => Sz.ok ?_
  simp [wR, noEx, nodes, nodesL]; omega
theorem def_sz (ts : List Tk) : Sz (defP ts) wR ts.length := by
  unfold defP
  refine (name_sz ts).then fun _ r hr => (must_sz _ (by decide) r).then fun _ r1 h1 => (exprD_sz 12 r1).then fun _ r2 h2 => Sz.ok ?_
  simp [wR]; omega
theorem rels_sz : ∀ (n : Nat) (ts : List Tk), Sz (relsLoop n ts) wRs ts.length
  | 0, ts => Sz.ok (by simp [wRs])
  | n + 1, ts => by
    unfold relsLoop
    split
    · rename_i h
      have := nx_ne h (by decide)
      refine (told_sz _).then fun x r hr => (rels_sz n r).then fun l r' hr' => Sz.ok ?_
      simp [wRs]; omega
    · split
      · rename_i h
        have := nx_ne h (by decide)
        refine (def_sz _).then fun x r hr => (rels_sz n r).then fun l r' hr' => Sz.ok ?_
        simp [wRs]; omega
      · exact Sz.ok (by simp [wRs])
theorem types_sz : ∀ (n : Nat) (ts : List Tk), Sz (typesLoop n ts) wTs ts.length
  | 0, ts => Sz.ok (by simp [wTs])
  | n + 1, ts => by
    unfold typesLoop
    split
    · rename_i h
      have := nx_ne h (by decide)
      refine (name_sz _).then fun s r hr => (rels_sz _ r).then fun rs r1 h1 => (types_sz n r1).then fun l r' hr' => Sz.ok ?_
      simp [wTs]; omega
    · exact Sz.ok (by simp [wTs])
theorem tokL_len : ∀ (n : Nat) (l : Txt) (a b : Nat), l.length ≤ n → (tokL l a b).length ≤ l.length + 1 := by
  intro n
  induction n with
  | zero =>
    intro l a b h
    obtain rfl : l = [] := List.eq_nil_of_length_eq_zero (by omega)
    rw [tokL]; simp
  | succ n ih =>
    intro l a b h
    cases l with
    | nil => rw [tokL]; simp
    | cons c r =>
      have hr : r.length ≤ n := by simpa using h
      rw [tokL]
      by_cases h1 : c = 10
      · rw [if_pos h1]; have := ih r (a + 1) 1 hr; simp; omega
      · rw [if_neg h1]
        by_cases h2 : c = 32 ∨ c = 9
        · rw [if_pos h2]; have := ih r a (b + 1) hr; simp; omega
        · rw [if_neg h2]
          by_cases h3 : wordL (c :: r) = 0
          · rw [dif_pos h3]
            by_cases h4 : signT c = [63]
            · rw [if_pos h4]; simp
            · rw [if_neg h4]; have := ih r a (b + 1) hr; simp; omega
          · rw [dif_neg h3]
            have h5 : ((c :: r).drop (wordL (c :: r))).length ≤ n := by rw [List.length_drop, List.length_cons]; omega
            have h6 := ih ((c :: r).drop (wordL (c :: r))) a (b + wordL (c :: r)) h5
            rw [List.length_drop, List.length_cons] at h6
            simp only [List.length_cons]; omega
theorem parse_len (l : Txt) : wTs (parseT l).1 ≤ l.length + 1 := by
  unfold parseT
  split
  · simp [wTs]
  · rename_i hl
    have h1 : Sz (wholeP (tokL l 1 1)) wTs (tokL l 1 1).length := by
      unfold wholeP
      refine (types_sz _ _).then fun s r hr => ?_
      split
      · exact Sz.ok hr
      · exact Sz.no
    have h2 := tokL_len l.length l 1 1 (Nat.le_refl _)
    cases hw : wholeP (tokL l 1 1) with
    | ok s r => have := h1 s r hw; dsimp only; omega
    | no d => simp [wTs]
end Go.Proofs.Ytdnhbledndgbcaa
