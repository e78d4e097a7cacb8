/-
  The parser's typ. Conditions: how the parser lies in memory; no bracket is open.
-/
import Derived.Test.YtpiaiibobjlipaaCRowG
import Derived.Deep.RegionHeldLaw
import Derived.Deep.RegionLaw
namespace Go.Proofs.Ytpiaiibobjlipaa
open Go.RowKit
theorem RlAt.shape {W : World} {F : Nat → Prop} {x : Rl} {cs : List Value} (h : RlAt W F x cs) : ∃ a A1 n1 c1 k n o A2 n2 c2, cs = [strV a, .slice A1 n1 c1, .int .i64 k, strV n, strV o, .slice A2 n2 c2] := by
  obtain ⟨A, c, es, rfl, _, _, h⟩ := h
  obtain ⟨k, n, o, A2, n2, c2, rfl⟩ := h.shape
  exact ⟨_, _, _, _, _, _, _, _, _, _, rfl⟩
theorem rl_one (a : Txt) (A1 : Option Addr) (n1 c1 : Nat) (k : Int) (n o : Txt) (A2 : Option Addr) (n2 c2 : Nat) : ∀ u ∈ ([strV a, .slice A1 n1 c1, .int .i64 k, strV n, strV o, .slice A2 n2 c2] : List Value), u.oneCell' = true := by
  intro u hu
  simp only [List.mem_cons, List.not_mem_nil, or_false] at hu
  rcases hu with rfl | rfl | rfl | rfl | rfl | rfl <;> rfl
theorem rowRel : ∃ i z, RowT Try.prog 43 48 6 104 i z := by
  have hf : (Try.prog.info? 48).map (fun i => (i.zero, i.size, i.bytes)) = some (some (.agg #[.string ⟨#[]⟩, .slice none 0 0, .int .i64 0, .string ⟨#[]⟩, .string ⟨#[]⟩, .slice none 0 0]), 6, 104) := by kernel_rfl
  obtain ⟨i, hi, hz, hs, hb⟩ := info_parts hf
  exact ⟨i, _, Try.underlying43, hi, hz, hs, hb, rfl⟩
theorem enter_direct (args : Array Value) (w : World) : (callFunc 68 args).run Try.prog w = .ok (.enter 68 args) w := by simp [go_sem]
theorem enter_defined (args : Array Value) (w : World) : (callFunc 69 args).run Try.prog w = .ok (.enter 69 args) w := by simp [go_sem]
def typV (W : World) (g : Nat) (w : World) (x : Ty) (v : Value) : Prop := ∃ cs, v = .agg cs.toArray ∧ cs.length = 2 ∧ TyAt w (Old g W) x cs
def typP (ts : List Tk) : Rs Ty := (nameP ts).then fun s r => (relsLoop r.length r).then fun rs r => .ok ⟨s, rs⟩ r
def TypAt (W : World) (g : Nat) (s : ByteArray) (i : Nat) (R : Rs Ty) (M : Nat) (a : Txt) (w : World) (ps : List (Rl × List Value)) (A : Option Addr) (n c i' m : Nat) : Prop :=
  (Blk w M [strV a, .slice A n c] 45 ∧ Blk w W.heap.size [.string ⟨#[]⟩, .slice none 0 0] 45 ∧ RowOf RlAt w (M + 1) 48 6 g A n c ps ∧ PAt w g s i' 0 ∧ Spared W w (onG g)) ∧ (W.heap.size < M ∧ small a) ∧ i < i' ∧ n ≤ i' ∧ (toks s.data.toList i').length ≤ m ∧
    R = (relsLoop m (toks s.data.toList i')).then fun l ts => .ok ⟨a, ps.map (·.1) ++ l⟩ ts
theorem TypAt.below {W : World} {g : Nat} {s : ByteArray} {i : Nat} {R : Rs Ty} {M : Nat} {a : Txt} {w w' : World} {ps : List (Rl × List Value)} {A : Option Addr} {n c i' m : Nat} (h : TypAt W g s i R M a w ps A n c i' m) (hg : g < M + 1) (hb : Below w.heap.size w w') : TypAt W g s i R M a w' ps A n c i' m := by
  obtain ⟨⟨h1, h2, h3, h4, h5⟩, h6⟩ := h
  exact ⟨⟨h1.below hb h1.lt, h2.below hb h2.lt, h3.spared keeps_rl hg (Spared.of_below hb _), h4.below hb, sp_trans h5 (Spared.of_below hb (onG g))⟩, h6⟩
set_option maxRecDepth 100000 in
set_option maxHeartbeats 2000000 in
theorem typ_any {W : World} {g : Nat} {s : ByteArray} {i : Nat} (h : PAt W g s i 0) :
    Calls Try.prog 48 #[.pointer (some ⟨g, 0, none⟩)] W (POut (typV W g) W g s i 0 (typP (toks s.data.toList i))) := by
  have hg := h.lt
  have hgn : g ≠ W.heap.size := Nat.ne_of_lt hg
  obtain ⟨W1, hW1⟩ : ∃ W1, W1 = W.alloc (.cells #[.string ⟨#[]⟩, .slice none 0 0] 45) := ⟨_, rfl⟩
  have hb1 : Below W.heap.size W W1 := by rw [hW1]; exact (Below.refl W.heap.size W).alloc (Nat.le_refl _) _
  have HZ1 : Hid (Blk W1 W.heap.size [.string ⟨#[]⟩, .slice none 0 0] 45) := by rw [hW1]; exact Lib.hid (Blk.new W _ _)
  have HS1 := Lib.hid (Spared.of_below hb1 (onG g))
  have HN1 := Lib.hid (pname_any (h.below hb1))
  have HW1 := Lib.hid hW1
  have HSZ := Lib.hid h.2.1
  obtain ⟨R, hR⟩ : ∃ R, R = typP (toks s.data.toList i) := ⟨_, rfl⟩
  rw [← hR]
  have HR := Lib.hid hR
  obtain ⟨i0, z0, hRW⟩ := rowRel
  have HRW := Lib.hid hRW
  clear h hR hW1 hb1 hRW
  go_enter Try.func48, Try.ntmps48
  go_wp2_with fail
  rw [← HW1.out]
  go_at_call 67
  refine HN1.out.mono ?_
  rintro r w2 hpo
  rcases hpo.split with ⟨a, ts, _, hr2, rfl, ⟨rfl, ha⟩, i2, e2, l2, hp2, hs2⟩ | ⟨d', hr2, rfl, hs2⟩
  rotate_left
  · have HR2 := Lib.hid hr2
    clear hr2
    go_wp2_with fail
    exact ⟨rfl, POut.no_ (by rw [HR.out, typP, HR2.out]; rfl) (sp_trans HS1.out hs2)⟩
  subst e2
  obtain ⟨w3, hw3⟩ : ∃ w3, w3 = w2.alloc (.cells #[strV a, .slice none 0 0] 45) := ⟨_, rfl⟩
  have hb3 : Below w2.heap.size w2 w3 := by rw [hw3]; exact (Below.refl _ _).alloc (Nat.le_refl _) _
  have hz2 := hs2.blk HZ1.out (fun e => hgn e.symm)
  have HL3 : Hid (TypAt W g s i R w2.heap.size a w3 [] none 0 0 i2 (toks s.data.toList i2).length) := by
    refine Lib.hid ⟨⟨?_, hz2.below hb3 hz2.lt, RowOf.nil _ _ _ _ _, hp2.below hb3, sp_trans (sp_trans HS1.out hs2) (Spared.of_below hb3 (onG g))⟩, ⟨hz2.lt, ha⟩, l2, Nat.zero_le _, Nat.le_refl _, ?_⟩
    · rw [hw3]; exact Blk.new _ _ _
    · rw [HR.out, typP, hr2]
      simp only [Rs.then]
      cases relsLoop (toks s.data.toList i2).length (toks s.data.toList i2) <;> rfl
  have hgm : g ≠ w2.heap.size := Nat.ne_of_lt hp2.lt
  have HZL := Lib.hid hz2.lt
  have hzx : ¬ W.heap.size = w2.heap.size := Nat.ne_of_lt HZL.out
  have hxz : ¬ w2.heap.size = W.heap.size := fun e => hzx e.symm
  have HW3 := Lib.hid hw3
  have HGM : Hid (g < w2.heap.size + 1) := Lib.hid (Nat.lt_succ_of_lt hp2.lt)
  clear hb3 hz2 hp2 hs2 hr2 l2 hw3 hpo HR HZ1 HS1 HN1
  go_wp2_with fail
  rw [← HW3.out]
  go_loopw [] (fun wr => ∃ (ps : List (Rl × List Value)) (A : Option Addr) (n c i' m : Nat), Hid (TypAt W g s i R w2.heap.size a wr ps A n c i' m)) (fun wr => 5000 - (intOf ((wr.cell? ⟨g, 1, none⟩).getD (.int .i64 0))).toNat)
  case atStart => exact ⟨_, _, _, _, _, _, HL3⟩
  case round =>
    clear HL3
    obtain ⟨ps, A, n, c, i', m, HL⟩ := hrel
    have HP := Lib.hid HL.out.1.2.2.2.1
    by_cases hq : (nx (toks s.data.toList i')).1 = relW2
    · have HQ := Lib.hid hq
      have HA := Lib.hid (accept_yes HP.out (t := relW2) (.inr (.inl ⟨114, _, rfl, by decide⟩)) (by decide) hq)
      clear hq
      go_wp2_with fail
      go_at_call 47
      refine HA.out.mono ?_
      rintro r w5 ⟨rfl, i5, e5, l5, hp5, hs5⟩
      have HE5 := Lib.hid e5
      have HL5 := Lib.hid l5
      have hm5 := hs5.blk HL.out.1.1 (fun e => hgm e.symm)
      have HX5 := Lib.hid hm5
      have HZ5 := Lib.hid (hs5.blk HL.out.1.2.1 (fun e => hgn e.symm))
      have HS5 := Lib.hid (sp_trans HL.out.1.2.2.2.2 hs5)
      have HO5 := Lib.hid (HL.out.1.2.2.1.spared keeps_rl HGM.out (hs5.mono (fun _ h => .inl h)))
      have HCA := Lib.hid (direct_any (hp5.below (Below.refl w5.heap.size w5).drew))
      have HSD := Lib.hid (Spared.of_below (Below.refl w5.heap.size w5).drew (onG g))
      have x1 := HX5.out.drew.cell (i := 1) (by simp)
      simp only [List.getElem_cons_succ, List.getElem_cons_zero] at x1
      have HN5 : Hid (n ≤ 1000000) := Lib.hid (by
        have h1 := HP.out.1.1
        have h3 := HL.out.2.2.2.1
        have h4 := HSZ.out
        rw [size_list] at h1
        omega)
      have HGO : Hid (∀ y, toldP (toks s.data.toList i5) = y → R = (y.then fun x r => (relsLoop (m - 1) r).then fun l r => .ok (x :: l) r).then fun l ts => .ok ⟨a, ps.map (·.1) ++ l⟩ ts) := Lib.hid (fun y hd => by
        obtain ⟨_, _, _, _, hm, hR⟩ := HL.out
        have hne := HP.out.1.ne
        obtain ⟨k, rfl⟩ : ∃ k, m = k + 1 := ⟨m - 1, by omega⟩
        rw [hR, relsLoop, if_pos HQ.out, HE5.out, hd, Nat.add_sub_cancel])
      clear e5 l5 hm5 hs5 hp5 HA
      go_wp2_with fail
      go_region_law (first
        | (refine step_call_or rfl 68 enter_direct (.tmp 13) rfl (by first | (simp [Act.eval]; done) | (simp [Act.eval, Act.put]; done)) (HCA.out.mono ?_); rintro r w6 hpo; rcases hpo.split with ⟨x, ts, _, hr6, rfl, ⟨cs, rfl, hl6, hE6⟩, i6, e6, l6, hp6, hs6⟩ | ⟨d, hr6, rfl, hs6⟩; rotate_left; (refine .inr ⟨_, rfl, ?_⟩; exact ⟨rfl, POut.no_ (HGO.out (.no d) hr6) (sp_trans HS5.out (sp_trans HSD.out hs6))⟩); (refine .inl ⟨_, rfl, ?_⟩; obtain ⟨p0, pA1, pn1, pc1, pk, p1, p2, pA2, pn2, pc2, rfl⟩ := hE6.shape; have HR6 := Lib.hid hr6; have HE6 := Lib.hid hE6; have HE6' := Lib.hid e6; have HL6 := Lib.hid l6; have HP6 := Lib.hid hp6; have HS6 := Lib.hid (sp_trans HSD.out hs6); have HX6 := Lib.hid (HS6.out.blk HX5.out (fun e => hgm e.symm)); have HO6 := Lib.hid (HO5.out.spared keeps_rl HGM.out (HS6.out.mono (fun _ h => .inl h))); have HBS : Hid (w2.heap.size + 1 ≤ w6.heap.size) := Lib.hid HX6.out.lt; have y1 := HX6.out.cell (i := 1) (by simp); have y2 := (HX6.out.alloc (.cells #[strV p0, .slice pA1 pn1 pc1, .int .i64 pk, strV p1, strV p2, .slice pA2 pn2 pc2] 48)).cell (i := 1) (by simp); simp only [List.getElem_cons_succ, List.getElem_cons_zero] at y1 y2; clear hr6 hE6 e6 l6 hp6 hs6 hl6 hpo))
        | (refine step_append_row w6 rfl (.tmp 12) (.tmp 15) 43 rfl HRW.out (by decide) (by decide) (w2.heap.size + 1) A n c _ [strV p0, .slice pA1 pn1 pc1, .int .i64 pk, strV p1, strV p2, .slice pA2 pn2 pc2] rfl (by first | (simp [Act.eval]; done) | (simp [Act.eval, Act.put]; done)) (by first | (simp [Act.eval]; done) | (simp [Act.eval, Act.put]; done)) HBS.out HO6.out.own (rl_one _ _ _ _ _ _ _ _ _ _) HN5.out ?_; intro A7 c7 w7 ho7 hg7 hat7; have HO7 := Lib.hid (HO6.out.push keeps_rl (x := x) rfl (keeps_rl _ _ _ _ (Spared.refl w6 (Old g w5.drew)) (fun i hi => .inl (by rcases hi with hi | hi | hi; exact .inl hi; exact .inr (Nat.lt_of_lt_of_le hi HX5.out.lt); exact .inr (HO5.out.own.lt i hi.symm).2)) _ _ HE6.out) ho7 hg7 hat7); have HB7 : Hid (Below (w2.heap.size + 1) w6 w7) := Lib.hid (below_grown ((Below.refl (w2.heap.size + 1) w6).alloc HBS.out (.cells #[strV p0, .slice pA1 pn1 pc1, .int .i64 pk, strV p1, strV p2, .slice pA2 pn2 pc2] 48)) (by rw [World.size_alloc]; exact Nat.le_succ_of_le HBS.out) (HO6.out.own.alloc _) hg7); have HX7 := Lib.hid (HX6.out.below HB7.out (Nat.lt_succ_self _)); have y3 := HX7.out.cell (i := 1) (by simp); have y3f := HX7.out.free 1; simp only [List.getElem_cons_succ, List.getElem_cons_zero] at y3; clear ho7 hg7 hat7))
      all_goals
        go_wp2_with fail
        have hzl := HZL.out
        have hp7 : PAt (w7.setCell ⟨w2.heap.size, 1, none⟩ (.slice A7 (n + 1) c7)) g s i6 0 := (HP6.out.belowB HB7.out HGM.out).setNew hg (Nat.le_of_lt hzl) 1 _
        refine ⟨⟨ps ++ [(x, _)], A7, n + 1, c7, i6, m - 1, Lib.hid ⟨⟨?_, ((HS6.out.blk HZ5.out (fun e => hgn e.symm)).below HB7.out (by omega)).other _ _ (by show W.heap.size ≠ w2.heap.size; omega), HO7.out.spared keeps_rl HGM.out ((Spared.refl w7 _).setCell (g := w2.heap.size) (.inr (Nat.lt_succ_self _)) 1 _), hp7, ((sp_trans HS5.out HS6.out).keep HB7.out (by omega)).setNew (Nat.le_of_lt hzl) 1 _⟩, HL.out.2.1, ?_, ?_, ?_, ?_⟩⟩, ?_⟩
        · have := HX7.out.set 1 (.slice A7 (n + 1) c7)
          simpa using this
        · have := HL.out.2.2.1; have := HL5.out; have := HL6.out; omega
        · have := HL.out.2.2.2.1; have := HL5.out; have := HL6.out; omega
        · have h1 := HL.out.2.2.2.2.1
          have h2 := told_lv _ _ _ HR6.out
          rw [HE6'.out, ← HE5.out, List.length_tail] at h2
          omega
        · rw [HGO.out _ HR6.out, HE6'.out]
          simp only [Rs.then]
          cases relsLoop (m - 1) (toks s.data.toList i6) <;> simp
        · have h1 := HP.out.from_
          have h2 := hp7.from_
          have h3 := HP6.out.1.1
          have h4 := HSZ.out
          have h5 := HL5.out
          have h6 := HL6.out
          rw [size_list] at h3
          rw [h1, h2]
          simp [intOf]
          omega
    · have HQ := Lib.hid hq
      have HA0 := Lib.hid (accept_no HP.out (t := relW2) (.inr (.inl ⟨114, _, rfl, by decide⟩)) hq)
      have HX1 : Hid (wr.cell? ⟨g, 1, none⟩ = some (.int .i64 (i' : Int))) := Lib.hid HP.out.from_
      clear hq
      go_wp2_with fail
      go_at_call 47
      refine HA0.out.mono ?_
      rintro r w4 ⟨rfl, hb4⟩
      have HLw := Lib.hid (HL.out.below HGM.out hb4)
      clear HL HP HA0
      have HL := HLw
      have HP := Lib.hid HL.out.1.2.2.2.1
      clear HLw hb4
      by_cases hq2 : (nx (toks s.data.toList i')).1 = defW2
      · have HQ2 := Lib.hid hq2
        have HA := Lib.hid (accept_yes HP.out (t := defW2) (.inr (.inl ⟨100, _, rfl, by decide⟩)) (by decide) hq2)
        clear hq2
        go_wp2_with fail
        go_at_call 47
        refine HA.out.mono ?_
        rintro r w5 ⟨rfl, i5, e5, l5, hp5, hs5⟩
        have HE5 := Lib.hid e5
        have HL5 := Lib.hid l5
        have hm5 := hs5.blk HL.out.1.1 (fun e => hgm e.symm)
        have HX5 := Lib.hid hm5
        have HZ5 := Lib.hid (hs5.blk HL.out.1.2.1 (fun e => hgn e.symm))
        have HS5 := Lib.hid (sp_trans HL.out.1.2.2.2.2 hs5)
        have HO5 := Lib.hid (HL.out.1.2.2.1.spared keeps_rl HGM.out (hs5.mono (fun _ h => .inl h)))
        have HCA := Lib.hid (defined_any (hp5.below (Below.refl w5.heap.size w5).drew))
        have HSD := Lib.hid (Spared.of_below (Below.refl w5.heap.size w5).drew (onG g))
        have x1 := HX5.out.drew.cell (i := 1) (by simp)
        simp only [List.getElem_cons_succ, List.getElem_cons_zero] at x1
        have HN5 : Hid (n ≤ 1000000) := Lib.hid (by
          have h1 := HP.out.1.1
          have h3 := HL.out.2.2.2.1
          have h4 := HSZ.out
          rw [size_list] at h1
          omega)
        have HGO : Hid (∀ y, defP (toks s.data.toList i5) = y → R = (y.then fun x r => (relsLoop (m - 1) r).then fun l r => .ok (x :: l) r).then fun l ts => .ok ⟨a, ps.map (·.1) ++ l⟩ ts) := Lib.hid (fun y hd => by
          obtain ⟨_, _, _, _, hm, hR⟩ := HL.out
          have hne := HP.out.1.ne
          obtain ⟨k, rfl⟩ : ∃ k, m = k + 1 := ⟨m - 1, by omega⟩
          rw [hR, relsLoop, if_neg HQ.out, if_pos HQ2.out, HE5.out, hd, Nat.add_sub_cancel])
        clear e5 l5 hm5 hs5 hp5 HA
        go_wp2_with fail
        go_region_law (first
          | (refine step_call_or rfl 69 enter_defined (.tmp 23) rfl (by first | (simp [Act.eval]; done) | (simp [Act.eval, Act.put]; done)) (HCA.out.mono ?_); rintro r w6 hpo; rcases hpo.split with ⟨x, ts, _, hr6, rfl, ⟨cs, rfl, hl6, hE6⟩, i6, e6, l6, hp6, hs6⟩ | ⟨d, hr6, rfl, hs6⟩; rotate_left; (refine .inr ⟨_, rfl, ?_⟩; exact ⟨rfl, POut.no_ (HGO.out (.no d) hr6) (sp_trans HS5.out (sp_trans HSD.out hs6))⟩); (refine .inl ⟨_, rfl, ?_⟩; obtain ⟨p0, pA1, pn1, pc1, pk, p1, p2, pA2, pn2, pc2, rfl⟩ := hE6.shape; have HR6 := Lib.hid hr6; have HE6 := Lib.hid hE6; have HE6' := Lib.hid e6; have HL6 := Lib.hid l6; have HP6 := Lib.hid hp6; have HS6 := Lib.hid (sp_trans HSD.out hs6); have HX6 := Lib.hid (HS6.out.blk HX5.out (fun e => hgm e.symm)); have HO6 := Lib.hid (HO5.out.spared keeps_rl HGM.out (HS6.out.mono (fun _ h => .inl h))); have HBS : Hid (w2.heap.size + 1 ≤ w6.heap.size) := Lib.hid HX6.out.lt; have y1 := HX6.out.cell (i := 1) (by simp); have y2 := (HX6.out.alloc (.cells #[strV p0, .slice pA1 pn1 pc1, .int .i64 pk, strV p1, strV p2, .slice pA2 pn2 pc2] 48)).cell (i := 1) (by simp); simp only [List.getElem_cons_succ, List.getElem_cons_zero] at y1 y2; clear hr6 hE6 e6 l6 hp6 hs6 hl6 hpo))
          | (refine step_append_row w6 rfl (.tmp 22) (.tmp 25) 43 rfl HRW.out (by decide) (by decide) (w2.heap.size + 1) A n c _ [strV p0, .slice pA1 pn1 pc1, .int .i64 pk, strV p1, strV p2, .slice pA2 pn2 pc2] rfl (by first | (simp [Act.eval]; done) | (simp [Act.eval, Act.put]; done)) (by first | (simp [Act.eval]; done) | (simp [Act.eval, Act.put]; done)) HBS.out HO6.out.own (rl_one _ _ _ _ _ _ _ _ _ _) HN5.out ?_; intro A7 c7 w7 ho7 hg7 hat7; have HO7 := Lib.hid (HO6.out.push keeps_rl (x := x) rfl (keeps_rl _ _ _ _ (Spared.refl w6 (Old g w5.drew)) (fun i hi => .inl (by rcases hi with hi | hi | hi; exact .inl hi; exact .inr (Nat.lt_of_lt_of_le hi HX5.out.lt); exact .inr (HO5.out.own.lt i hi.symm).2)) _ _ HE6.out) ho7 hg7 hat7); have HB7 : Hid (Below (w2.heap.size + 1) w6 w7) := Lib.hid (below_grown ((Below.refl (w2.heap.size + 1) w6).alloc HBS.out (.cells #[strV p0, .slice pA1 pn1 pc1, .int .i64 pk, strV p1, strV p2, .slice pA2 pn2 pc2] 48)) (by rw [World.size_alloc]; exact Nat.le_succ_of_le HBS.out) (HO6.out.own.alloc _) hg7); have HX7 := Lib.hid (HX6.out.below HB7.out (Nat.lt_succ_self _)); have y3 := HX7.out.cell (i := 1) (by simp); have y3f := HX7.out.free 1; simp only [List.getElem_cons_succ, List.getElem_cons_zero] at y3; clear ho7 hg7 hat7))
        all_goals
          go_wp2_with fail
          have hzl := HZL.out
          have hp7 : PAt (w7.setCell ⟨w2.heap.size, 1, none⟩ (.slice A7 (n + 1) c7)) g s i6 0 := (HP6.out.belowB HB7.out HGM.out).setNew hg (Nat.le_of_lt hzl) 1 _
          refine ⟨⟨ps ++ [(x, _)], A7, n + 1, c7, i6, m - 1, Lib.hid ⟨⟨?_, ((HS6.out.blk HZ5.out (fun e => hgn e.symm)).below HB7.out (by omega)).other _ _ (by show W.heap.size ≠ w2.heap.size; omega), HO7.out.spared keeps_rl HGM.out ((Spared.refl w7 _).setCell (g := w2.heap.size) (.inr (Nat.lt_succ_self _)) 1 _), hp7, ((sp_trans HS5.out HS6.out).keep HB7.out (by omega)).setNew (Nat.le_of_lt hzl) 1 _⟩, HL.out.2.1, ?_, ?_, ?_, ?_⟩⟩, ?_⟩
          · have := HX7.out.set 1 (.slice A7 (n + 1) c7)
            simpa using this
          · have := HL.out.2.2.1; have := HL5.out; have := HL6.out; omega
          · have := HL.out.2.2.2.1; have := HL5.out; have := HL6.out; omega
          · have h1 := HL.out.2.2.2.2.1
            have h2 := def_lv _ _ _ HR6.out
            rw [HE6'.out, ← HE5.out, List.length_tail] at h2
            omega
          · rw [HGO.out _ HR6.out, HE6'.out]
            simp only [Rs.then]
            cases relsLoop (m - 1) (toks s.data.toList i6) <;> simp
          · have h1 := HX1.out
            have h2 := hp7.from_
            have h3 := HP6.out.1.1
            have h4 := HSZ.out
            have h5 := HL5.out
            have h6 := HL6.out
            rw [size_list] at h3
            rw [h1, h2]
            simp [intOf]
            omega
      · have HQ2 := Lib.hid hq2
        have HA := Lib.hid (accept_no HP.out (t := defW2) (.inr (.inl ⟨100, _, rfl, by decide⟩)) hq2)
        clear hq2
        go_wp2_with fail
        go_at_call 47
        refine HA.out.mono ?_
        rintro r w5 ⟨rfl, hb5⟩
        have HLw := Lib.hid (HL.out.below HGM.out hb5)
        clear HL HP HA hb5
        have hx5 := HLw.out.1.1
        have hz5 := HLw.out.1.2.1
        have x0 := hx5.cell (i := 0) (by simp)
        have x1 := hx5.cell (i := 1) (by simp)
        have v0 := hz5.cell (i := 0) (by simp)
        have v1 := hz5.cell (i := 1) (by simp)
        simp only [List.getElem_cons_succ, List.getElem_cons_zero] at x0 x1 v0 v1
        have f0 := hz5.free 0
        have f1 := hz5.free 1
        clear hx5 hz5
        go_wp2_with fail
        refine bodyPost_ret (v := .agg #[strV a, .slice A n c]) (by simp [results, Try.results48, go_sem, v0, v1]) rfl ?_
        obtain ⟨⟨hx, hz, ho, hp, hs⟩, ⟨hzm, hsm⟩, hi, hn, hm, hR⟩ := HLw.out
        have hne := hp.1.ne
        obtain ⟨k, rfl⟩ : ∃ k, m = k + 1 := ⟨m - 1, by omega⟩
        have hrow := ho.row keeps_rl HGM.out (G := fun x => x = g ∨ x ≤ W.heap.size) (fun i hi => hi.elim .inl (fun h => .inr (by omega)))
        have h1 := hp.1.1
        have h4 := HSZ.out
        rw [size_list] at h1
        refine POut.ok_ (a := ⟨a, ps.map (·.1)⟩) (ts := toks s.data.toList i') (by rw [hR, relsLoop, if_neg HQ.out, if_neg HQ2.out]; simp [Rs.then]) ⟨_, rfl, rfl, A, c, by rw [ho.len, List.length_map], ⟨hsm, by rw [List.length_map, ← ho.len]; show n ≤ _; omega⟩, ?_⟩ ⟨i', rfl, hi, (hp.setNew hg (Nat.le_refl _) _ _).setNew hg (Nat.le_refl _) _ _, (hs.setNew (Nat.le_refl _) _ _).setNew (Nat.le_refl _) _ _⟩
        exact RowAt.moved (((Spared.refl w5 (fun x => x = g ∨ x ≤ W.heap.size)).setCell (g := W.heap.size) (.inr (Nat.le_refl _)) 0 _).setCell (g := W.heap.size) (.inr (Nat.le_refl _)) 1 _) (fun i hi => .inl (hi.elim .inl (fun h => .inr (Nat.le_of_lt h)))) (fun x _ cs hx => hx.moved (((Spared.refl w5 (fun x => x = g ∨ x ≤ W.heap.size)).setCell (g := W.heap.size) (.inr (Nat.le_refl _)) 0 _).setCell (g := W.heap.size) (.inr (Nat.le_refl _)) 1 _) (fun i hi => .inl (hi.elim .inl (fun h => .inr (Nat.le_of_lt h))))) hrow
end Go.Proofs.Ytpiaiibobjlipaa
