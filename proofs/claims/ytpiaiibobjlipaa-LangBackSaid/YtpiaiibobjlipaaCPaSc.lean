/-
  The parser's schema. Conditions: how the parser lies in memory; no bracket is open.
-/
import Derived.Test.YtpiaiibobjlipaaCPaTy
namespace Go.Proofs.Ytpiaiibobjlipaa
open Go.RowKit
theorem TyAt.shape {W : World} {F : Nat → Prop} {x : Ty} {cs : List Value} (h : TyAt W F x cs) : ∃ a A1 n1 c1, cs = [strV a, .slice A1 n1 c1] := by
  obtain ⟨A, c, rfl, _, _⟩ := h
  exact ⟨_, _, _, _, rfl⟩
theorem ty_one (a : Txt) (A1 : Option Addr) (n1 c1 : Nat) : ∀ u ∈ ([strV a, .slice A1 n1 c1] : List Value), u.oneCell' = true := by
  intro u hu
  simp only [List.mem_cons, List.not_mem_nil, or_false] at hu
  rcases hu with rfl | rfl <;> rfl
theorem rowTy : ∃ i z, RowT Try.prog 23 45 2 40 i z := by
  have hf : (Try.prog.info? 45).map (fun i => (i.zero, i.size, i.bytes)) = some (some (.agg #[.string ⟨#[]⟩, .slice none 0 0]), 2, 40) := by kernel_rfl
  obtain ⟨i, hi, hz, hs, hb⟩ := info_parts hf
  exact ⟨i, _, Try.underlying23, hi, hz, hs, hb, rfl⟩
theorem enter_typ (args : Array Value) (w : World) : (callFunc 48 args).run Try.prog w = .ok (.enter 48 args) w := by simp [go_sem]
theorem typ_lv (ts : List Tk) : Lv (typP ts) (ts.length - 1) := by
  unfold typP
  exact (name_lv ts).then fun _ r hr => (rels_lv _ r).then fun _ r1 h1 => Lv.ok (by omega)
theorem types_typ : ∀ (n : Nat) (ts : List Tk), typesLoop (n + 1) ts = if (nx ts).1 = typW2 then (typP ts.tail).then fun x r => (typesLoop n r).then fun l r => .ok (x :: l) r else .ok [] ts := by
  intro n ts
  rw [typesLoop]
  by_cases h : (nx ts).1 = typW2
  · rw [if_pos h, if_pos h, typP]
    cases nameP ts.tail with
    | no d => rfl
    | ok s r =>
      simp only [Rs.then]
      cases relsLoop r.length r <;> rfl
  · rw [if_neg h, if_neg h]
set_option maxHeartbeats 1000000 in
theorem expect_end {W : World} {g : Nat} {s : ByteArray} {i op : Nat} (h : PAt W g s i op) :
    Calls Try.prog 49 #[.pointer (some ⟨g, 0, none⟩), strV []] W fun e w' => (((nx (toks s.data.toList i)).1 = [] ∧ e = .returned (.tuple #[])) ∨ ((nx (toks s.data.toList i)).1 ≠ [] ∧ e = fault (failT (nx (toks s.data.toList i)) 8))) ∧ Spared W w' (onG g) := by
  have HP := Lib.hid h
  by_cases he : (nx (toks s.data.toList i)).1 = []
  · have hc : curT s.data.toList i = [] := (h.1.tok.1.eq (.inl rfl)).2 he
    have HT := Lib.hid (token_any h)
    rw [hc] at HT
    have HNX := Lib.hid (fun w (hw : PAt w g s i op) => next_tok hw.le hw.2.1 hw.2.2)
    have HA : Hid (Calls Try.prog 47 #[.pointer (some ⟨g, 0, none⟩), strV []] W fun e w' => e = .returned (.bool true) ∧ Spared W w' (onG g)) := by
      clear h he hc
      go_enter Try.func47, Try.ntmps47
      go_wp2_with (first
        | (go_at_call 66; refine HT.out.mono ?_; rintro e w1 ⟨rfl, hb1⟩; have HB1 := Lib.hid hb1; have HP1 := Lib.hid (HP.out.below hb1); clear hb1)
        | (go_at_call 23; refine (HNX.out _ HP1.out).mono ?_; rintro e w2 ⟨rfl, _, hs2⟩))
      go_ret
      exact ⟨rfl, sp_trans (Spared.of_below HB1.out (onG g)) hs2⟩
    have HE := Lib.hid he
    clear h he hc
    go_enter Try.func49, Try.ntmps49
    go_wp2_with (go_at_call 47; refine HA.out.mono ?_; rintro e w1 ⟨rfl, hs1⟩)
    go_end0
    exact ⟨.inl ⟨HE.out, rfl⟩, hs1⟩
  · have HA := Lib.hid (accept_no h (.inl rfl) he)
    have HE := Lib.hid he
    clear h he
    go_enter Try.func49, Try.ntmps49
    go_wp2_with (first
      | (go_at_call 47; refine HA.out.mono ?_; rintro e w1 ⟨rfl, hb1⟩; have HB1 := Lib.hid hb1; have HP1 := HP.out.below hb1; have x1 := HP1.from_; have HF := Lib.hid (HP1.fail 8); clear hb1 HP1)
      | (go_at_call 70; refine HF.out.mono ?_; rintro e w2 ⟨rfl, hb2⟩))
    exact ⟨rfl, .inr ⟨HE.out, rfl⟩, Spared.of_below (hop HB1.out hb2) (onG g)⟩
def ScOut (W : World) (g : Nat) (R : Rs Sc) (e : Ending) (w' : World) : Prop :=
  match R with
  | .ok l _ => ∃ A c, e = .returned (.agg #[.slice A l.length c]) ∧ ScAt w' (Old g W) A l ∧ l.length ≤ 5000 ∧ Spared W w' (onG g)
  | .no d => e = fault d ∧ Spared W w' (onG g)
theorem ScOut.no_ {W w' : World} {g : Nat} {R : Rs Sc} {d : Dg} (h : R = .no d) (hs : Spared W w' (onG g)) : ScOut W g R (fault d) w' := by
  subst h; exact ⟨rfl, hs⟩
def SchAt (W : World) (g : Nat) (s : ByteArray) (R : Rs Sc) (M : Nat) (w : World) (ps : List (Ty × List Value)) (A : Option Addr) (n c i' m : Nat) : Prop :=
  (Blk w M [.slice A n c] 25 ∧ Blk w W.heap.size [.slice none 0 0] 25 ∧ RowOf TyAt w (M + 1) 45 2 g A n c ps ∧ PAt w g s i' 0 ∧ Spared W w (onG g)) ∧ n ≤ i' ∧ (toks s.data.toList i').length ≤ m ∧
    R = ((typesLoop m (toks s.data.toList i')).then fun l ts => .ok (ps.map (·.1) ++ l) ts).then fun s r => if (nx r).1 = [] then .ok s r else .no (failT (nx r) 8)
set_option maxRecDepth 100000 in
set_option maxHeartbeats 2000000 in
theorem schema_any {W : World} {g : Nat} {s : ByteArray} {i : Nat} (h : PAt W g s i 0) :
    Calls Try.prog 24 #[.pointer (some ⟨g, 0, none⟩)] W (ScOut W g (wholeP (toks s.data.toList i))) := by
  have hg := h.lt
  have hgn : g ≠ W.heap.size := Nat.ne_of_lt hg
  have hgm : g ≠ W.heap.size + 1 := by omega
  obtain ⟨W2, hW2⟩ : ∃ W2, W2 = (W.alloc (.cells #[.slice none 0 0] 25)).alloc (.cells #[.slice none 0 0] 25) := ⟨_, rfl⟩
  have hb2 : Below W.heap.size W W2 := by rw [hW2]; exact ((Below.refl W.heap.size W).alloc (Nat.le_refl _) _).alloc (by simp) _
  have HSZ := Lib.hid h.2.1
  have HGM : Hid (g < W.heap.size + 1 + 1) := Lib.hid (by omega)
  obtain ⟨R, hR⟩ : ∃ R, R = wholeP (toks s.data.toList i) := ⟨_, rfl⟩
  rw [← hR]
  have HL2 : Hid (SchAt W g s R (W.heap.size + 1) W2 [] none 0 0 i (toks s.data.toList i).length) := by
    refine Lib.hid ⟨⟨?_, ?_, RowOf.nil _ _ _ _ _, h.below hb2, Spared.of_below hb2 (onG g)⟩, Nat.zero_le _, Nat.le_refl _, ?_⟩
    · rw [hW2]
      have := Blk.new (W.alloc (.cells #[.slice none 0 0] 25)) [.slice none 0 0] 25
      rw [World.size_alloc] at this
      exact this
    · rw [hW2]; exact (Blk.new W _ _).alloc _
    · rw [hR, wholeP]
      cases typesLoop (toks s.data.toList i).length (toks s.data.toList i) <;> rfl
  obtain ⟨i0, z0, hRW⟩ := rowTy
  have HRW := Lib.hid hRW
  have HW2 := Lib.hid hW2
  clear h hR hW2 hb2 hRW
  go_enter Try.func24, Try.ntmps24
  go_wp2_with fail
  rw [← HW2.out]
  go_loopw [] (fun wr => ∃ (ps : List (Ty × List Value)) (A : Option Addr) (n c i' m : Nat), Hid (SchAt W g s R (W.heap.size + 1) wr ps A n c i' m)) (fun wr => 5000 - (intOf ((wr.cell? ⟨g, 1, none⟩).getD (.int .i64 0))).toNat)
  case atStart => exact ⟨_, _, _, _, _, _, HL2⟩
  case round =>
    clear HL2
    obtain ⟨ps, A, n, c, i', m, HL⟩ := hrel
    have HP := Lib.hid HL.out.1.2.2.2.1
    by_cases hq : (nx (toks s.data.toList i')).1 = typW2
    · have HQ := Lib.hid hq
      have HA := Lib.hid (accept_yes HP.out (t := typW2) (.inr (.inl ⟨116, _, rfl, by decide⟩)) (by decide) hq)
      clear hq
      go_wp2_with fail
      go_at_call 47
      refine HA.out.mono ?_
      rintro r w5 ⟨rfl, i5, e5, l5, hp5, hs5⟩
      have HE5 := Lib.hid e5
      have HL5 := Lib.hid l5
      have HX5 := Lib.hid (hs5.blk HL.out.1.1 (fun e => hgm e.symm))
      have HZ5 := Lib.hid (hs5.blk HL.out.1.2.1 (fun e => hgn e.symm))
      have HS5 := Lib.hid (sp_trans HL.out.1.2.2.2.2 hs5)
      have HO5 := Lib.hid (HL.out.1.2.2.1.spared keeps_ty HGM.out (hs5.mono (fun _ h => .inl h)))
      have HCA := Lib.hid (typ_any (hp5.below (Below.refl w5.heap.size w5).drew))
      have HSD := Lib.hid (Spared.of_below (Below.refl w5.heap.size w5).drew (onG g))
      have x1 := HX5.out.drew.cell (i := 0) (by simp)
      simp only [List.getElem_cons_zero] at x1
      have HN5 : Hid (n ≤ 1000000) := Lib.hid (by
        have h1 := HP.out.1.1
        have h3 := HL.out.2.1
        have h4 := HSZ.out
        rw [size_list] at h1
        omega)
      have HGO : Hid (∀ y, typP (toks s.data.toList i5) = y → R = ((y.then fun x r => (typesLoop (m - 1) r).then fun l r => .ok (x :: l) r).then fun l ts => .ok (ps.map (·.1) ++ l) ts).then fun s r => if (nx r).1 = [] then .ok s r else .no (failT (nx r) 8)) := Lib.hid (fun y hd => by
        obtain ⟨_, _, hm, hR⟩ := HL.out
        have hne := HP.out.1.ne
        obtain ⟨k, rfl⟩ : ∃ k, m = k + 1 := ⟨m - 1, by omega⟩
        rw [hR, types_typ, if_pos HQ.out, HE5.out, hd, Nat.add_sub_cancel])
      clear e5 l5 hs5 hp5 HA
      go_wp2_with fail
      go_region_law (first
        | (refine step_call_or rfl 48 enter_typ (.tmp 8) rfl (by first | (simp [Act.eval]; done) | (simp [Act.eval, Act.put]; done)) (HCA.out.mono ?_); rintro r w6 hpo; rcases hpo.split with ⟨x, ts, _, hr6, rfl, ⟨cs, rfl, hl6, hE6⟩, i6, e6, l6, hp6, hs6⟩ | ⟨d, hr6, rfl, hs6⟩; rotate_left; (refine .inr ⟨_, rfl, ?_⟩; exact ⟨rfl, ScOut.no_ (HGO.out (.no d) hr6) (sp_trans HS5.out (sp_trans HSD.out hs6))⟩); (refine .inl ⟨_, rfl, ?_⟩; obtain ⟨p0, pA1, pn1, pc1, rfl⟩ := hE6.shape; have HR6 := Lib.hid hr6; have HE6 := Lib.hid hE6; have HE6' := Lib.hid e6; have HL6 := Lib.hid l6; have HP6 := Lib.hid hp6; have HS6 := Lib.hid (sp_trans HSD.out hs6); have HX6 := Lib.hid (HS6.out.blk HX5.out (fun e => hgm e.symm)); have HO6 := Lib.hid (HO5.out.spared keeps_ty HGM.out (HS6.out.mono (fun _ h => .inl h))); have HBS : Hid (W.heap.size + 1 + 1 ≤ w6.heap.size) := Lib.hid HX6.out.lt; have y1 := HX6.out.cell (i := 0) (by simp); have y2 := (HX6.out.alloc (.cells #[strV p0, .slice pA1 pn1 pc1] 45)).cell (i := 0) (by simp); simp only [List.getElem_cons_zero] at y1 y2; clear hr6 hE6 e6 l6 hp6 hs6 hl6 hpo))
        | (refine step_append_row w6 rfl (.tmp 7) (.tmp 10) 23 rfl HRW.out (by decide) (by decide) (W.heap.size + 1 + 1) A n c _ [strV p0, .slice pA1 pn1 pc1] rfl (by first | (simp [Act.eval]; done) | (simp [Act.eval, Act.put]; done)) (by first | (simp [Act.eval]; done) | (simp [Act.eval, Act.put]; done)) HBS.out HO6.out.own (ty_one _ _ _ _) HN5.out ?_; intro A7 c7 w7 ho7 hg7 hat7; have HO7 := Lib.hid (HO6.out.push keeps_ty (x := x) rfl (keeps_ty _ _ _ _ (Spared.refl w6 (Old g w5.drew)) (fun i hi => .inl (by rcases hi with hi | hi | hi; exact .inl hi; exact .inr (Nat.lt_of_lt_of_le hi HX5.out.lt); exact .inr (HO5.out.own.lt i hi.symm).2)) _ _ HE6.out) ho7 hg7 hat7); have HB7 : Hid (Below (W.heap.size + 1 + 1) w6 w7) := Lib.hid (below_grown ((Below.refl (W.heap.size + 1 + 1) w6).alloc HBS.out (.cells #[strV p0, .slice pA1 pn1 pc1] 45)) (by rw [World.size_alloc]; exact Nat.le_succ_of_le HBS.out) (HO6.out.own.alloc _) hg7); have HX7 := Lib.hid (HX6.out.below HB7.out (Nat.lt_succ_self _)); have y3 := HX7.out.cell (i := 0) (by simp); have y3f := HX7.out.free 0; simp only [List.getElem_cons_zero] at y3; clear ho7 hg7 hat7))
      all_goals
        go_wp2_with fail
        have hp7 : PAt (w7.setCell ⟨W.heap.size + 1, 0, none⟩ (.slice A7 (n + 1) c7)) g s i6 0 := (HP6.out.belowB HB7.out HGM.out).setNew hg (Nat.le_succ _) 0 _
        refine ⟨⟨ps ++ [(x, _)], A7, n + 1, c7, i6, m - 1, Lib.hid ⟨⟨?_, ((HS6.out.blk HZ5.out (fun e => hgn e.symm)).below HB7.out (by omega)).other _ _ (by show W.heap.size ≠ W.heap.size + 1; omega), HO7.out.spared keeps_ty HGM.out ((Spared.refl w7 _).setCell (g := W.heap.size + 1) (.inr (Nat.lt_succ_self _)) 0 _), hp7, ((sp_trans HS5.out HS6.out).keep HB7.out (by omega)).setNew (Nat.le_succ _) 0 _⟩, ?_, ?_, ?_⟩⟩, ?_⟩
        · have := HX7.out.set 0 (.slice A7 (n + 1) c7)
          simpa using this
        · have := HL.out.2.1; have := HL5.out; have := HL6.out; omega
        · have h1 := HL.out.2.2.1
          have h2 := typ_lv _ _ _ HR6.out
          rw [HE6'.out, ← HE5.out, List.length_tail] at h2
          omega
        · rw [HGO.out _ HR6.out, HE6'.out]
          simp only [Rs.then]
          cases typesLoop (m - 1) (toks s.data.toList i6) <;> simp
        · have h1 := HP.out.from_
          have h2 := hp7.from_
          have h3 := HP6.out.1.1
          have h4 := HSZ.out
          have h5 := HL5.out
          have h6 := HL6.out
          rw [size_list] at h3
          rw [h1, h2]
          simp [intOf]
          omega
    · have HQ := Lib.hid hq
      have HA := Lib.hid (accept_no HP.out (t := typW2) (.inr (.inl ⟨116, _, rfl, by decide⟩)) hq)
      clear hq
      go_wp2_with fail
      go_at_call 47
      refine HA.out.mono ?_
      rintro r w5 ⟨rfl, hb5⟩
      have HEX := Lib.hid (expect_end (HP.out.below hb5))
      have HX5 := Lib.hid (HL.out.1.1.below hb5 HL.out.1.1.lt)
      have HZ5 := Lib.hid (HL.out.1.2.1.below hb5 HL.out.1.2.1.lt)
      have HO5 := Lib.hid (HL.out.1.2.2.1.spared keeps_ty HGM.out (Spared.of_below hb5 _))
      have HS5 := Lib.hid (sp_trans HL.out.1.2.2.2.2 (Spared.of_below hb5 (onG g)))
      have HRE : Hid (R = if (nx (toks s.data.toList i')).1 = [] then .ok (ps.map (·.1)) (toks s.data.toList i') else .no (failT (nx (toks s.data.toList i')) 8)) := Lib.hid (by
        obtain ⟨_, _, hm, hR⟩ := HL.out
        have hne := HP.out.1.ne
        obtain ⟨k, rfl⟩ : ∃ k, m = k + 1 := ⟨m - 1, by omega⟩
        rw [hR, types_typ, if_neg HQ.out]
        simp only [Rs.then, List.append_nil])
      clear hb5 HA
      go_wp2_with fail
      go_at_call 49
      refine HEX.out.mono ?_
      rintro r w6 ⟨⟨he, rfl⟩ | ⟨he, rfl⟩, hs6⟩
      · have HE := Lib.hid he
        have hx6 := hs6.blk HX5.out (fun e => hgm e.symm)
        have hz6 := hs6.blk HZ5.out (fun e => hgn e.symm)
        have x0 := hx6.cell (i := 0) (by simp)
        have v0 := hz6.cell (i := 0) (by simp)
        simp only [List.getElem_cons_zero] at x0 v0
        have f0 := hz6.free 0
        have HO6 := Lib.hid (HO5.out.spared keeps_ty HGM.out (hs6.mono (fun _ h => .inl h)))
        have HS6 := Lib.hid (sp_trans HS5.out hs6)
        clear he hx6 hz6 hs6
        go_wp2_with fail
        refine bodyPost_ret (v := .agg #[.slice A n c]) (by simp [results, Try.results24, go_sem, v0]) rfl ?_
        rw [HRE.out, if_pos HE.out]
        have ho := HO6.out
        have hrow := ho.row keeps_ty HGM.out (G := fun x => x = g ∨ x ≤ W.heap.size) (fun i hi => hi.elim .inl (fun h => .inr (by omega)))
        have h1 := HP.out.1.1
        have h3 := HL.out.2.1
        have h4 := HSZ.out
        rw [size_list] at h1
        refine ⟨A, c, by rw [List.length_map, ← ho.len], ?_, by rw [List.length_map, ← ho.len]; omega, HS6.out.setNew (Nat.le_refl _) _ _⟩
        exact ScAt.moved (F := fun x => x = g ∨ x ≤ W.heap.size) ((Spared.refl w6 _).setCell (g := W.heap.size) (.inr (Nat.le_refl _)) 0 _) (fun i hi => .inl (hi.elim .inl (fun h => .inr (Nat.le_of_lt h)))) hrow
      · have HE := Lib.hid he
        clear he
        go_wp2_with fail
        exact ⟨rfl, ScOut.no_ (by rw [HRE.out, if_neg HE.out]) (sp_trans HS5.out hs6)⟩
end Go.Proofs.Ytpiaiibobjlipaa
