/-
  What the document's working in of a block comes to: the same Lean function as the program's. Conditions: eight words of 32 bits, 64 bytes.
-/
import Derived.Test.YtmmfnfndepijlaaDoorRefWords
import Derived.Test.YtmmfnfndepijlaaDoorRefTabs
namespace Go.Proofs.YtmmfnfndepijlaaDoor
open Go.RowKit

theorem info22 : (Tryd.prog.info? 43).map (fun i => (i.zero, i.size, i.bytes)) = some (some (.int .u32 0), 1, 4) := by kernel_rfl
theorem Blk.word8 {w : World} {g i : Nat} {L : List Nat} {rest : List Value} {t : TypeId} (h : Blk w g (L.map wv ++ rest) t) (hi : i < L.length) : w.cell? ⟨g, i, none⟩ = some (.int .u32 (L.getD i 0 : Nat)) := by
  rw [h.cell (by simp; omega), List.getElem_append_left (by simpa using hi), getD_map_wv]
theorem words_one (l : List Nat) : ∀ u ∈ l.map wv, u.oneCell' = true := by
  intro u hu
  obtain ⟨c, _, rfl⟩ := List.mem_map.1 hu
  rfl
/-- 'append([]uint32(nil), s...)', eight words -/
theorem wpList_append_words {P : Program} (w : World) {ops : Array Oper} {rest : List Oper} {o : Oper} {a : Act} {Q : Exit → Act → World → Prop} (hgd : o.guard = none) (s x : Operand) (t : TypeId)
    (ho : o.op = .call { callee := .builtin .append, args := #[s, x], argTypes := #[t, t] })
    (e : TypeId) (i : TypeInfo) (z : Value) (ht : P.underlying t = some (.slice e)) (hi : P.info? e = some i) (hz : i.zero = some z)
    (hsize : i.size = 1) (hby : i.bytes = 4) (hzs : z.cells.size = 1)
    (hs : a.eval s = .slice none 0 0) (gs : Nat) (h : List Nat) (rs : List Value) (c : Nat) (hx : a.eval x = .slice (some ⟨gs, 0, none⟩) 8 c) (h8 : h.length = 8) (hg : Blk w gs (h.map wv ++ rs) e)
    (hk : ∀ g cap rest' w', Blk w' g (h.map wv ++ rest') e → w.heap.size ≤ g → Below w.heap.size w w' → wpList P ops Q rest (a.put o.dst (.slice (some ⟨g, 0, none⟩) 8 cap)) w') :
    wpList P ops Q (o :: rest) a w := by
  refine wpList_plain hgd fun K hK => ?_
  obtain ⟨v', w', hrun, hown, hgr, _, _⟩ := run_append_own_at (P := P) w w.heap.size t o.type e i z 1 4 ht hi hz hsize hby hzs (by decide) (.slice none 0 0) 0 [] (World.ownsRow_nil _ _ _ _) ⟨gs, 0, none⟩ 8 c (h.map wv) (by simp [h8]) (by
    intro j u hu
    obtain ⟨hj, hju⟩ := List.getElem?_eq_some_iff.1 hu
    rw [List.length_map] at hj
    rw [add_plain, Nat.zero_add, hg.word8 hj, ← hju, getD_map_wv]) (words_one h) (by unfold maxLen; omega) (by omega) (Nat.le_refl _)
  have hb : Below w.heap.size w w' := ⟨hgr.os, hgr.tape, hgr.output, hgr.size, fun k hk => hgr.block k hk (fun e => by cases e)⟩
  rcases hown.2 with ⟨_, h0⟩ | ⟨g, cap, cur, rfl, hge, hh, _, _, _, htk⟩
  · omega
  · unfold Oper.wp execOp
    simp only [ho, resolve, invoke, builtin, Sem.run_bind, Sem.run_pure, Result.andThen_ok, List.map_toArray, List.map_cons, List.map_nil, hs, hx, hrun]
    refine hK _ _ (hk g cap (cur.toList.drop (8 * 1)) w' ?_ hge hb)
    have e1 : h.map wv ++ cur.toList.drop (8 * 1) = cur.toList := by
      rw [List.nil_append] at htk
      have htk' : cur.toList.take (8 * 1) = h.map wv := htk
      rw [← htk', List.take_append_drop]
    unfold Blk
    rw [e1]
    exact hh

/-- what the working in's memory holds: the words, the table -/
def RefAt (b : List UInt8) (w : World) (g6 : Nat) (wr : World) : Prop :=
  Blk wr w.heap.size ((sched b 64).map wv) 43 ∧ Blk wr g6 (K0.map wv) 43 ∧ Below w.heap.size w wr
theorem RefAt.below {b : List UInt8} {w : World} {g6 : Nat} {wr wr' : World} (H : RefAt b w g6 wr) (hb : Below wr.heap.size wr wr') : RefAt b w g6 wr' :=
  ⟨H.1.below hb H.1.lt, H.2.1.below hb H.2.1.lt, H.2.2.trans (hb.mono H.2.2.size)⟩
/-- what holds ahead of each round -/
def RefR (h : List Nat) (b : List UInt8) (w : World) (g6 : Nat) (s i : Value) (wr : World) : Prop :=
  ∃ (k : Nat) (v : V8) (gv cv : Nat) (rest : List Value), k ≤ 64 ∧ i = .int .i64 k ∧ s = .slice (some ⟨gv, 0, none⟩) 8 cv ∧ v.ok ∧ v = rounds (sched b 64) k (V8.of h) ∧ w.heap.size ≤ gv ∧ Blk wr gv (v.list.map wv ++ rest) 43 ∧ RefAt b w g6 wr

theorem bg1_bits (x : Nat) (hx : x < 4294967296) : bits BinOp.xor IntKind.u32 (bits BinOp.xor IntKind.u32 ((rot x 6 : Nat) : Int) ((rot x 11 : Nat) : Int)) ((rot x 25 : Nat) : Int) = ((bg1 x : Nat) : Int) :=
  xor3_bits _ _ _ (rot_lt _ hx) (rot_lt _ hx) (rot_lt _ hx)
theorem bg0_bits (x : Nat) (hx : x < 4294967296) : bits BinOp.xor IntKind.u32 (bits BinOp.xor IntKind.u32 ((rot x 2 : Nat) : Int) ((rot x 13 : Nat) : Int)) ((rot x 22 : Nat) : Int) = ((bg0 x : Nat) : Int) :=
  xor3_bits _ _ _ (rot_lt _ hx) (rot_lt _ hx) (rot_lt _ hx)
theorem t2_wrap (a b c : Nat) (ha : a < 4294967296) (hb : b < 4294967296) (hc : c < 4294967296) :
    IntKind.u32.wrap (((bg0 a : Nat) : Int) + bits BinOp.xor IntKind.u32 (bits BinOp.xor IntKind.u32 (bits BinOp.and IntKind.u32 (a : Int) (b : Int)) (bits BinOp.and IntKind.u32 (a : Int) (c : Int))) (bits BinOp.and IntKind.u32 (b : Int) (c : Int))) = ((t2 a b c : Nat) : Int) := by
  rw [major_bits a b c ha hb hc]
  simp only [IntKind.wrap_u32]
  rw [sum32]
  rfl
theorem V8.of_list (l : List Nat) (h : l.length = 8) : (V8.of l).list = l := by
  obtain ⟨a, b, c, d, e, f, g, x, rfl⟩ := eight l h
  rfl

def Ref2 (V h : List Nat) (w : World) (gk : Nat) (rk : List Value) (i : Value) (wr : World) : Prop :=
  ∃ k : Nat, k ≤ 8 ∧ i = .int .i64 k ∧ Blk wr gk ((part V h k).map wv ++ rk) 43 ∧ Below w.heap.size w wr
theorem ref2_step {V h : List Nat} {w wr : World} {gk k : Nat} {rk : List Value} (hV : V.length = 8) (hh : h.length = 8) (hk : k < 8) (hg : w.heap.size ≤ gk) (h1 : Blk wr gk ((part V h k).map wv ++ rk) 43) (h2 : Below w.heap.size w wr) :
    Ref2 V h w gk rk (.int .i64 ((k : Int) + 1)) (wr.setCell ⟨gk, k, none⟩ (.int .u32 (((V.getD k 0 : Nat) + (h.getD k 0 : Nat)) % 4294967296))).drew := by
  refine ⟨k + 1, by omega, by go_num, ?_, (h2.setCell hg _).drew⟩
  have := h1.set k (.int .u32 ((add32 (V.getD k 0) (h.getD k 0) : Nat) : Int))
  rw [sum32, ← part_set hV hh hk, List.map_set]
  rw [List.set_append_left _ _ (by rw [List.length_map, (part_get hV hh hk).2]; exact hk)] at this
  exact this.drew

set_option maxRecDepth 100000 in
set_option maxHeartbeats 1000000 in
theorem refBlock_any (gs : Nat) (h : List Nat) (rs : List Value) (cs : Nat) (A : Option Addr) (b : List UInt8) (c : Nat) (w : World) (hh : h.length = 8) (hlt : ∀ x ∈ h, x < 4294967296) (hgs : Blk w gs (h.map wv ++ rs) 43) (hb : b.length = 64) (hs : Seen w A b) :
    Calls Tryd.prog 24 #[.slice (some ⟨gs, 0, none⟩) 8 cs, .slice A 64 c] w fun e w' => ∃ g' c' rest', e = .returned (.slice (some ⟨g', 0, none⟩) 8 c') ∧ Blk w' g' ((mixL h b).map wv ++ rest') 43 ∧ Below w.heap.size w w' := by
  obtain ⟨i0, hi, hz0, hz1, hz2⟩ := info_parts info22
  have HH := Lib.hid hh
  have HLT := Lib.hid hlt
  have HB := Lib.hid hb
  have HG := Lib.hid hgs
  have HS := Lib.hid hs
  clear hh hlt hb hgs hs
  go_enter Tryd.func24, Tryd.ntmps24
  go_wp2_with fail
  refine (refWords_any A b c _ HB.out HS.out).mono ?_
  rintro e w1 ⟨rfl, hw1, hb1⟩
  have W1 := Lib.hid hw1
  have B1 := Lib.hid hb1
  clear hw1 hb1
  go_wp2_with fail
  refine (refConstants_any _).mono ?_
  rintro e w2 ⟨rfl, hw2⟩
  have R2 : Hid (RefAt b w w1.heap.size w2) := by
    rw [hw2]
    exact ⟨W1.out.alloc _, Blk.new _ _ _, B1.out.trans (((Below.refl _ _).alloc (Nat.le_refl _) _).mono B1.out.size)⟩
  clear hw2 W1 B1
  generalize w1.heap.size = g6 at *
  have HG2 := Lib.hid (HG.out.below R2.out.2.2 HG.out.lt)
  go_wp2_with (at_builtin; refine wpList_append_words w2 rfl _ _ 40 rfl 43 i0 (.int .u32 0) Tryd.underlying40 hi hz0 hz1 hz2 rfl rfl gs h rs cs rfl HH.out HG2.out ?_; intro gv cv rest3 w3 hb3 hge3 hbl3)
  have G3 : Hid (Blk w3 gv ((V8.of h).list.map wv ++ rest3) 43) := by rw [V8.of_list h HH.out]; exact hb3
  have R3 := Lib.hid (R2.out.below hbl3)
  have hgv : w.heap.size ≤ gv := Nat.le_trans R2.out.2.2.size hge3
  have HV := Lib.hid (of_ok HLT.out)
  clear hb3 hge3 hbl3 R2 HG2 w1
  go_wp2_with fail
  go_loopw [7, 8] (fun s i wr => RefR h b w g6 s i wr) (fun _ i _ => 64 - (intOf i).toNat)
  case atStart => exact ⟨0, V8.of h, gv, cv, rest3, by omega, rfl, rfl, HV.out, rfl, hgv, G3.out, R3.out⟩
  case round =>
    clear G3 R3 HV
    obtain ⟨k, v, gk, ck, rk, hk, rfl, rfl, hv, hvr, hgk, hbk, H⟩ := hrel
    have HVR := Lib.hid hvr
    clear hvr
    by_cases hlt : k < 64
    · have cw := H.1.word (i := k) (by rw [length_sched]; omega)
      have ck' := H.2.1.word (i := k) (by show k < 64; omega)
      have hw := getD_lt (sched_lt b 64) k
      obtain ⟨va, vb, vc, vd, ve, vf, vg, vh⟩ := v
      obtain ⟨ha, hb, hc, hd, he, hf, hg, hh⟩ := hv
      simp only at ha hb hc hd he hf hg hh
      have d0 : wr.cell? ⟨gk, 0, none⟩ = some (.int .u32 (va : Int)) := hbk.word8 (i := 0) (by show 0 < 8; decide)
      have d1 : wr.cell? ⟨gk, 1, none⟩ = some (.int .u32 (vb : Int)) := hbk.word8 (i := 1) (by show 1 < 8; decide)
      have d2 : wr.cell? ⟨gk, 2, none⟩ = some (.int .u32 (vc : Int)) := hbk.word8 (i := 2) (by show 2 < 8; decide)
      have d3 : wr.cell? ⟨gk, 3, none⟩ = some (.int .u32 (vd : Int)) := hbk.word8 (i := 3) (by show 3 < 8; decide)
      have d4 : wr.cell? ⟨gk, 4, none⟩ = some (.int .u32 (ve : Int)) := hbk.word8 (i := 4) (by show 4 < 8; decide)
      have d5 : wr.cell? ⟨gk, 5, none⟩ = some (.int .u32 (vf : Int)) := hbk.word8 (i := 5) (by show 5 < 8; decide)
      have d6 : wr.cell? ⟨gk, 6, none⟩ = some (.int .u32 (vg : Int)) := hbk.word8 (i := 6) (by show 6 < 8; decide)
      have d7 : wr.cell? ⟨gk, 7, none⟩ = some (.int .u32 (vh : Int)) := hbk.word8 (i := 7) (by show 7 < 8; decide)
      have HM := Lib.hid H
      clear H hbk
      have lk : (k : Int) < 64 := by omega
      generalize hkk : K0.getD k 0 = kk at *
      generalize hww : (sched b 64).getD k 0 = ww at *
      have HKK := Lib.hid hkk
      have HWW := Lib.hid hww
      clear hkk hww
      go_wp2
      refine wp_region_still_lit (by kernel_rfl) (by kernel_rfl) ?_
      change wpStill _ _ wr.drew (fun a' => _) _ _
      repeat still_step
      still_call (turned_still _ _ he 6 (by decide) (by decide))
      repeat still_step
      still_call (turned_still _ _ he 11 (by decide) (by decide))
      repeat still_step
      still_call (turned_still _ _ he 25 (by decide) (by decide))
      repeat still_step
      refine wpStill_nil ?_
      rw [bg1_bits ve he, t1_wrap ve vf vg vh kk ww he hf hg]
      generalize bits BinOp.xor IntKind.u32 ((rot ve 6 : Nat) : Int) ((rot ve 11 : Nat) : Int) = p1
      generalize rot ve 6 = p2
      generalize rot ve 11 = p3
      generalize rot ve 25 = p4
      generalize IntKind.u32.wrap ((vh : Int) + ((bg1 ve : Nat) : Int)) = q1
      generalize bits BinOp.and IntKind.u32 (ve : Int) (vf : Int) = q2
      generalize bits BinOp.xor IntKind.u32 (if IntKind.u32.signed = true then -1 else IntKind.u32.max) (ve : Int) = q3
      generalize bits BinOp.and IntKind.u32 q3 (vg : Int) = q4
      generalize bits BinOp.xor IntKind.u32 q2 q4 = q5
      generalize IntKind.u32.wrap (q1 + q5) = q6
      generalize IntKind.u32.wrap (q6 + (kk : Int)) = q7
      generalize HX : t1 ve vf vg vh kk ww = x1
      have HX1 := Lib.hid HX
      clear HX
      generalize bg1 ve = q8
      clear cw ck'
      go_wp2
      refine wp_region_still_lit (by kernel_rfl) (by kernel_rfl) ?_
      change wpStill _ _ wr.drew.drew (fun a' => _) _ _
      repeat still_step
      still_call (turned_still _ _ ha 2 (by decide) (by decide))
      repeat still_step
      still_call (turned_still _ _ ha 13 (by decide) (by decide))
      repeat still_step
      still_call (turned_still _ _ ha 22 (by decide) (by decide))
      repeat still_step
      refine wpStill_nil ?_
      rw [bg0_bits va ha, t2_wrap va vb vc ha hb hc]
      generalize bits BinOp.xor IntKind.u32 ((rot va 2 : Nat) : Int) ((rot va 13 : Nat) : Int) = r1
      generalize rot va 2 = r2
      generalize rot va 13 = r3
      generalize rot va 22 = r4
      generalize bits BinOp.and IntKind.u32 (va : Int) (vb : Int) = r5
      generalize bits BinOp.and IntKind.u32 (va : Int) (vc : Int) = r6
      generalize bits BinOp.and IntKind.u32 (vb : Int) (vc : Int) = r7
      generalize bits BinOp.xor IntKind.u32 r5 r6 = r8
      generalize bits BinOp.xor IntKind.u32 r8 r7 = r9
      generalize HY : t2 va vb vc = y1
      have HY1 := Lib.hid HY
      clear HY
      generalize bg0 va = r10
      go_wp2
      refine wp_region_still_tail 22 (by kernel_rfl) (by kernel_rfl) ?_
      simp only [List.take_succ_cons, List.take_zero, List.drop_succ_cons, List.drop_zero]
      change wpStill _ _ wr.drew.drew.drew (fun a' => wpList _ _ _ _ a' wr.drew.drew.drew) _ _
      repeat still_step
      refine wpStill_nil ?_
      go_wp2
      go_roundw
      case rel =>
        rw [sum32, sum32]
        refine ⟨k + 1, V8.next ⟨va, vb, vc, vd, ve, vf, vg, vh⟩ kk ww, wr.heap.size, 8, [], by omega, by go_num, rfl, V8.next_ok ⟨ha, hb, hc, hd, he, hf, hg, hh⟩ _ _, ?_, HM.out.2.2.size, ?_, ?_⟩
        · show _ = (rounds (sched b 64) k (V8.of h)).next (K0.getD k 0) ((sched b 64).getD k 0)
          rw [← HVR.out, HKK.out, HWW.out]
        · rw [← HX1.out, ← HY1.out]
          exact Blk.new wr _ _
        · exact HM.out.below ((((Below.refl _ _).alloc (Nat.le_refl _) _).drew).drew).drew
      case measure => simp [intOf]; omega
    · have e64 : k = 64 := by omega
      rw [e64] at HVR
      clear e64
      have BM := Lib.hid H.2.2
      have BK := Lib.hid hbk
      have HRL : Hid (mixL h b = List.zipWith add32 v.list h) := by
        show _ = _
        unfold mixL
        rw [← HVR.out, List.zipWith_comm]
        congr 1
        funext x y
        unfold add32
        rw [Nat.add_comm]
      have HV8 : Hid (v.list.length = 8) := rfl
      clear H hbk hv HVR hk
      generalize v.list = V at *
      clear v
      go_wp2
      go_loopw [13] (fun i wr => Ref2 V h w gk rk i wr) (fun i _ => 8 - (intOf i).toNat)
      case atStart => exact ⟨0, by omega, rfl, BK.out, BM.out⟩
      case round =>
        clear BK BM
        obtain ⟨k, hk, rfl, H1, H2⟩ := hrel
        by_cases hlt : k < 8
        · have p1 := part_get HV8.out HH.out hlt
          have d1 := H1.word8 (i := k) (by rw [p1.2]; exact hlt)
          rw [p1.1] at d1
          have f1 := H1.free k
          have d2 := (H2.cell (p := ⟨gs, k, none⟩) HG.out.lt).trans (HG.out.word8 (i := k) (by rw [HH.out]; exact hlt))
          have HST := ref2_step HV8.out HH.out hlt hgk H1 H2
          have HST' := Lib.hid HST
          clear HST p1 H1 H2
          have lk : (k : Int) < 8 := by omega
          generalize V.getD k 0 = x at *
          generalize h.getD k 0 = y at *
          go_wp2
          refine wp_region_still_tail 12 (by kernel_rfl) (by kernel_rfl) ?_
          simp only [List.take_succ_cons, List.take_zero, List.drop_succ_cons, List.drop_zero]
          change wpStill _ _ wr.drew (fun a' => wpList _ _ _ _ a' wr.drew) _ _
          repeat still_step
          refine wpStill_nil ?_
          go_wp2
          go_roundw
          case rel => exact HST'.out
          case measure => simp [intOf]; omega
        · obtain rfl : k = 8 := by omega
          have BK : Hid (Blk wr gk ((mixL h b).map wv ++ rk) 43) := by
            rw [HRL.out, ← part_end HV8.out]; exact H1
          have BM := Lib.hid H2
          clear H1 H2
          go_wp2
          go_ret
          exact ⟨gk, ck, rk, rfl, BK.out, BM.out⟩
end Go.Proofs.YtmmfnfndepijlaaDoor
