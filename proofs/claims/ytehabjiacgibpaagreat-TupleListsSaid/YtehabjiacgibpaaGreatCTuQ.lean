/-
  The program's Remove. Conditions: the rows are there; at most 200,000 tuples.
-/
import Derived.Test.YtehabjiacgibpaaGreatCMpT
namespace Go.Proofs.YtehabjiacgibpaaGreat
open Go.RowKit
def Cnt (L : List (Tup × Value)) (g : List Tup) : Prop := ∀ x, ∃ n : Nat, (lookK L x).getD (.int .i64 0) = .int .i64 (n : Int) ∧ (0 < n ↔ x ∈ g) ∧ n ≤ g.length
theorem Cnt.nil : Cnt [] [] := fun x => ⟨0, rfl, by simp, Nat.le_refl _⟩
theorem Cnt.put {L : List (Tup × Value)} {g : List Tup} (h : Cnt L g) (hn : (L.map (·.1)).Nodup) (x : Tup) {n : Nat} (hx : (lookK L x).getD (.int .i64 0) = .int .i64 (n : Int)) : Cnt (putK L x (.int .i64 ((n : Int) + 1))) (g ++ [x]) := by
  intro y
  rw [lookK_put hn]
  by_cases e : y = x
  · subst e
    obtain ⟨m, h1, h2, h3⟩ := h y
    rw [hx] at h1
    injection h1 with _ h1
    have h1 : n = m := by omega
    subst h1
    refine ⟨n + 1, by rw [if_pos rfl]; rfl, ⟨fun _ => by simp, fun _ => by omega⟩, by simp; omega⟩
  · rw [if_neg e]
    obtain ⟨m, h1, h2, h3⟩ := h y
    refine ⟨m, h1, ?_, by simp; omega⟩
    rw [h2, List.mem_append, List.mem_singleton]
    exact ⟨.inl, fun h => h.elim id (fun h => absurd h e)⟩
theorem k_zero (k : Nat) : ((k : Int) == 0) = decide (k = 0) := by
  by_cases h : k = 0
  · subst h; rfl
  · rw [decide_eq_false h, beq_eq_false_iff_ne]; omega
theorem zero_int (w : World) : (zeroValue 3).run Tryz.prog w = .ok (.int .i64 0) w := by
  simp [go_sem]
set_option maxRecDepth 100000 in
set_option maxHeartbeats 4000000 in
theorem remc_any (l gone : List Tup) (A : Option Addr) (c bl bm m : Nat) (L : List (Tup × Value)) (W : World) (h : TuR W A l) (x0 : W.cell? ⟨bl, 0, none⟩ = some (.slice A l.length c)) (x1 : W.cell? ⟨bm, 0, none⟩ = some (.map (some m))) (hm : MapAt W m L) (hc : Cnt L gone) (j : Nat) (hj : j < l.length) (hl : l.length ≤ 1000000) :
    Calls Tryz.prog 27 #[.int .i64 j, .pointer (some ⟨bm, 0, none⟩), .pointer (some ⟨bl, 0, none⟩)] W fun e w' => e = .returned (.bool (decide (l[j] ∉ gone))) ∧ Below W.heap.size W w' := by
  obtain ⟨b, off, hA, hat⟩ := h.addr (by omega)
  obtain ⟨q0, q1, q2, q3, q4, q5, hq, hcc⟩ := hat j hj
  obtain ⟨z0, z1, z2, z3, z4, z5⟩ := hcc W (Below.refl _ _)
  subst hA
  have hji : (j : Int) < (l.length : Int) := by omega
  obtain ⟨n, hn⟩ : ∃ n, n = l.length := ⟨_, rfl⟩
  rw [← hn] at x0 hji hl
  obtain ⟨k, hk1, hk2, _⟩ := hc l[j]
  have look : ∀ i, (Instr.lookup 55 (.map (some m)) (.agg #[strV q0, strV q1, strV q2, strV q3, strV q4, strV q5]) false).run Tryz.prog (W.drewN i) = .ok (.int .i64 (k : Int)) (W.drewN i) := fun i => by
    have hh := run_look (hm.below (below_drewN (Below.refl _ _) i)) Tryz.underlying55 (zero_int (W.drewN i)) l[j] false
    rw [if_neg (by decide), hk1, hq] at hh
    exact hh
  have look0 := look 0
  have look1 := look 1
  have HV : Hid (decide (l[j] ∉ gone) = decide (k = 0)) := Lib.hid (by
    rw [decide_eq_decide]
    constructor
    · intro h2
      rcases Nat.eq_zero_or_pos k with h3 | h3
      · exact h3
      · exact absurd (hk2.1 h3) h2
    · intro h2 h3
      have := hk2.2 h3
      omega)
  rw [HV.out]
  clear h hat hcc hn hm hc hk1 hk2 HV hq
  go_enter Tryz.func27, Tryz.ntmps27
  go_wp2_with fail
  go_quiet (fail)
  go_wp2_with fail
  go_ret
  exact ⟨by simp [k_zero], below_drewN (Below.refl _ _) _⟩
theorem below_block {W w w' : World} {m : Nat} (hb : Below W.heap.size W w) (hm : W.heap.size ≤ m) (hg : w.grownBy w' (some m)) : Below W.heap.size W w' :=
  ⟨hg.os.trans hb.os, hg.tape.trans hb.tape, hg.output.trans hb.output, Nat.le_trans hb.size hg.size, fun i hi => (hg.block i (Nat.lt_of_lt_of_le hi hb.size) (fun e => by injection e with e; omega)).trans (hb.block i hi)⟩
set_option maxRecDepth 100000 in
set_option maxHeartbeats 4000000 in
theorem remove_any (l gone : List Tup) (A B : Option Addr) (c d : Nat) (W : World) (h : TuR W A l) (h' : TuR W B gone) (hl : l.length ≤ 200000) (hg : gone.length ≤ 200000) :
    Calls Tryz.prog 10 #[.slice A l.length c, .slice B gone.length d] W (TupsP W (Ord.rem l gone)) := by
  obtain ⟨W1, hW⟩ : ∃ W1, W1 = ((W.alloc (.cells #[.slice A l.length c] 22)).alloc (.map #[] 0)).alloc (.cells #[.map (some (W.heap.size + 1))] 55) := ⟨_, rfl⟩
  have h0 : Blk W1 W.heap.size [.slice A l.length c] 22 := by rw [hW]; exact ((Blk.new W _ _).alloc _).alloc _
  have h1 : MapAt W1 (W.heap.size + 1) [] := by
    rw [hW]
    have := MapAt.made (W.alloc (.cells #[.slice A l.length c] 22))
    rw [World.size_alloc] at this
    exact this.below ((Below.refl _ _).alloc (Nat.le_refl _) _)
  have h2 : Blk W1 (W.heap.size + 1 + 1) [.map (some (W.heap.size + 1))] 55 := by
    rw [hW]
    have := Blk.new ((W.alloc (.cells #[.slice A l.length c] 22)).alloc (.map #[] 0)) [.map (some (W.heap.size + 1))] 55
    rw [World.size_alloc, World.size_alloc] at this
    exact this
  have hb0 : Below W.heap.size W W1 := by rw [hW]; exact (((Below.refl _ _).alloc (Nat.le_refl _) _).alloc (by simp) _).alloc (by simp; omega) _
  have HR := Lib.hid h
  have HG := Lib.hid h'
  have HW := Lib.hid hW
  have HB0 := Lib.hid hb0
  have X0 : Hid (W1.cell? ⟨W.heap.size, 0, none⟩ = some (.slice A l.length c)) := Lib.hid (h0.cell (i := 0) (by simp))
  have X2 : Hid (W1.cell? ⟨W.heap.size + 1 + 1, 0, none⟩ = some (.map (some (W.heap.size + 1)))) := Lib.hid (h2.cell (i := 0) (by simp))
  have HM1 := Lib.hid h1
  have HS1 : Hid (W.heap.size + 1 + 1 < W1.heap.size) := Lib.hid h2.lt
  clear h h' hW hb0 h0 h1 h2
  go_enter Tryz.func10, Tryz.ntmps10
  have hmm := @run_makeMap Tryz.prog
  go_wp2_with fail
  show Code.wp _ _ _ _ (((W.alloc (.cells #[.slice A l.length c] 22)).alloc (.map #[] 0)).alloc (.cells #[.map (some (W.heap.size + 1))] 55))
  rw [← HW.out]
  clear hmm
  go_loopw [11] (fun i wr => ∃ (j : Nat) (L : List (Tup × Value)), j ≤ gone.length ∧ i = .int .i64 j ∧ Hid (MapAt wr (W.heap.size + 1) L) ∧ Hid (Cnt L (gone.take j)) ∧ Hid (wr.cell? ⟨W.heap.size, 0, none⟩ = some (.slice A l.length c) ∧ wr.cell? ⟨W.heap.size + 1 + 1, 0, none⟩ = some (.map (some (W.heap.size + 1))) ∧ W.heap.size + 1 + 1 < wr.heap.size) ∧ Hid (Below W.heap.size W wr)) (fun i _ => gone.length - (intOf i).toNat)
  case atStart => exact ⟨0, [], by omega, rfl, HM1, Lib.hid (by rw [List.take_zero]; exact Cnt.nil), Lib.hid ⟨X0.out, X2.out, HS1.out⟩, HB0⟩
  case round =>
    obtain ⟨j, L, hj, rfl, HM, HC, HX, BW⟩ := hrel
    by_cases hlt : j < gone.length
    · obtain ⟨b, off, hA, hat⟩ := HG.out.addr (by omega)
      obtain ⟨q0, q1, q2, q3, q4, q5, hq, hcc⟩ := hat j hlt
      obtain ⟨z0, z1, z2, z3, z4, z5⟩ := hcc wr BW.out
      subst hA
      obtain ⟨w2, hw2⟩ : ∃ w2, w2 = wr.alloc (.cells #[strV q0, strV q1, strV q2, strV q3, strV q4, strV q5] 34) := ⟨_, rfl⟩
      have hb2 : Below wr.heap.size wr w2 := by rw [hw2]; exact (Below.refl _ _).alloc (Nat.le_refl _) _
      have hk2 : Blk w2 wr.heap.size [strV q0, strV q1, strV q2, strV q3, strV q4, strV q5] 34 := by rw [hw2]; exact Blk.new _ _ _
      have hs2 : w2.heap.size = wr.heap.size + 1 := by rw [hw2, World.size_alloc]
      have HW2 := Lib.hid hw2
      have hm2 := HM.out.below hb2
      obtain ⟨k, hk1, _, hk3⟩ := HC.out gone[j]
      have hbd : Below w2.heap.size w2 w2.drew := (Below.refl _ _).drew
      have hmd := hm2.below hbd
      have look := run_look hmd Tryz.underlying55 (zero_int w2.drew) gone[j] false
      rw [if_neg (by decide), hk1] at look
      obtain ⟨w3, st, hE, hg3, hz3, ⟨L1, hm3, hl3⟩, hS⟩ := run_entry hmd Tryz.underlying55 zero_int gone[j]
      obtain ⟨w4, hS4, hm4, hg4, hz4⟩ := hS w3 (.int .i64 ((k : Int) + 1)) rfl
      rw [hk1] at hE hl3
      have look3 := run_look hm3 Tryz.underlying55 (zero_int w3) gone[j] false
      rw [if_neg (by decide), hl3] at look3
      change (Instr.entryStore _ (.map (some (W.heap.size + 1))) (.int .i64 (st : Int)) _).run _ w3 = _ at hS4
      have hput := HC.out.put HM.out.keys gone[j] hk1
      unfold tuV at look hE look3
      rw [hq] at look hE look3
      change (Instr.lookup _ _ (.agg #[strV q0, strV q1, strV q2, strV q3, strV q4, strV q5]) _).run _ _ = _ at look3
      change (Instr.lookup _ _ (.agg #[strV q0, strV q1, strV q2, strV q3, strV q4, strV q5]) _).run _ _ = _ at look
      change (Instr.mapEntry _ _ (.agg #[strV q0, strV q1, strV q2, strV q3, strV q4, strV q5])).run _ _ = _ at hE
      have S2 : w2.cell? ⟨W.heap.size + 1 + 1, 0, none⟩ = some (.map (some (W.heap.size + 1))) ∧ (w2.cell? ⟨wr.heap.size, 0, none⟩ = some (strV q0) ∧ w2.cell? ⟨wr.heap.size, 1, none⟩ = some (strV q1) ∧ w2.cell? ⟨wr.heap.size, 2, none⟩ = some (strV q2) ∧ w2.cell? ⟨wr.heap.size, 3, none⟩ = some (strV q3) ∧ w2.cell? ⟨wr.heap.size, 4, none⟩ = some (strV q4) ∧ w2.cell? ⟨wr.heap.size, 5, none⟩ = some (strV q5)) := ⟨(hb2.cell (p := ⟨W.heap.size + 1 + 1, 0, none⟩) HX.out.2.2).trans HX.out.2.1, hk2.cell (i := 0) (by simp), hk2.cell (i := 1) (by simp), hk2.cell (i := 2) (by simp), hk2.cell (i := 3) (by simp), hk2.cell (i := 4) (by simp), hk2.cell (i := 5) (by simp)⟩
      have T2 : Hid (∀ w w' : World, w.grownBy w' (some (W.heap.size + 1)) → w.heap.size = w2.heap.size → (w.cell? ⟨W.heap.size + 1 + 1, 0, none⟩ = some (.map (some (W.heap.size + 1))) ∧ w.cell? ⟨wr.heap.size, 0, none⟩ = some (strV q0) ∧ w.cell? ⟨wr.heap.size, 1, none⟩ = some (strV q1) ∧ w.cell? ⟨wr.heap.size, 2, none⟩ = some (strV q2) ∧ w.cell? ⟨wr.heap.size, 3, none⟩ = some (strV q3) ∧ w.cell? ⟨wr.heap.size, 4, none⟩ = some (strV q4) ∧ w.cell? ⟨wr.heap.size, 5, none⟩ = some (strV q5)) → (w'.cell? ⟨W.heap.size + 1 + 1, 0, none⟩ = some (.map (some (W.heap.size + 1))) ∧ w'.cell? ⟨wr.heap.size, 0, none⟩ = some (strV q0) ∧ w'.cell? ⟨wr.heap.size, 1, none⟩ = some (strV q1) ∧ w'.cell? ⟨wr.heap.size, 2, none⟩ = some (strV q2) ∧ w'.cell? ⟨wr.heap.size, 3, none⟩ = some (strV q3) ∧ w'.cell? ⟨wr.heap.size, 4, none⟩ = some (strV q4) ∧ w'.cell? ⟨wr.heap.size, 5, none⟩ = some (strV q5))) := Lib.hid (fun w w' hg hsz hs => by
        have hx := HX.out.2.2
        have key : ∀ g o v, g ≠ W.heap.size + 1 → w.cell? ⟨g, o, none⟩ = some v → w'.cell? ⟨g, o, none⟩ = some v := fun g o v hne hv => hg.cell hv (fun e => hne (by injection e))
        obtain ⟨a, a0, a1, a2, a3, a4, a5⟩ := hs
        exact ⟨key _ _ _ (by omega) a, key _ _ _ (by omega) a0, key _ _ _ (by omega) a1, key _ _ _ (by omega) a2, key _ _ _ (by omega) a3, key _ _ _ (by omega) a4, key _ _ _ (by omega) a5⟩)
      have hS0 := T2.out w2 w2.drew (only_drew (World.grownBy.refl w2 _)) rfl S2
      have hS3 := T2.out w2.drew w3 hg3 rfl hS0
      have hS4' := T2.out w3 w4 hg4 hz3 hS3
      have BB : Hid (Below W.heap.size W w4) := Lib.hid (below_block (below_block (hop BW.out hb2).drew (Nat.le_succ _) hg3) (Nat.le_succ _) hg4)
      have HX4 : Hid (w4.cell? ⟨W.heap.size, 0, none⟩ = some (.slice A l.length c) ∧ w4.cell? ⟨W.heap.size + 1 + 1, 0, none⟩ = some (.map (some (W.heap.size + 1))) ∧ W.heap.size + 1 + 1 < w4.heap.size) := Lib.hid (by
        have hx := HX.out.2.2
        have y0 : w2.drew.cell? ⟨W.heap.size, 0, none⟩ = some (.slice A l.length c) := (hb2.drew.cell (p := ⟨W.heap.size, 0, none⟩) (by show W.heap.size < wr.heap.size; omega)).trans HX.out.1
        have y1 := hg3.cell y0 (fun e => by injection e with e; exact absurd e (by show W.heap.size ≠ W.heap.size + 1; omega))
        have y2 := hg4.cell y1 (fun e => by injection e with e; exact absurd e (by show W.heap.size ≠ W.heap.size + 1; omega))
        refine ⟨y2, hS4'.1, ?_⟩
        rw [hz4, hz3]
        show W.heap.size + 1 + 1 < w2.heap.size
        omega)
      have HM4 := Lib.hid hm4
      have HC4 : Hid (Cnt (putK L gone[j] (.int .i64 ((k : Int) + 1))) (gone.take (j + 1))) := Lib.hid (by rw [List.take_succ_eq_append_getElem hlt]; exact hput)
      have hkk : (k : Int) ≤ 200000 := by have := hk3; rw [List.length_take] at this; omega
      have hwk : IntKind.i64.wrap ((k : Int) + 1) = (k : Int) + 1 := by rw [IntKind.wrap_i64]; omega
      clear hat hcc hq hw2 hb2 hk2 hs2 hm2 hk1 hk3 hbd hmd hg3 hz3 hS hm4 hg4 hz4 hput hm3 hl3
      go_wp2_with fail
      show Code.wp _ _ _ _ (wr.alloc (.cells #[strV q0, strV q1, strV q2, strV q3, strV q4, strV q5] 34))
      rw [← HW2.out]
      go_region_held_law (fun w' => w'.cell? ⟨W.heap.size + 1 + 1, 0, none⟩ = some (.map (some (W.heap.size + 1))) ∧ w'.cell? ⟨wr.heap.size, 0, none⟩ = some (strV q0) ∧ w'.cell? ⟨wr.heap.size, 1, none⟩ = some (strV q1) ∧ w'.cell? ⟨wr.heap.size, 2, none⟩ = some (strV q2) ∧ w'.cell? ⟨wr.heap.size, 3, none⟩ = some (strV q3) ∧ w'.cell? ⟨wr.heap.size, 4, none⟩ = some (strV q4) ∧ w'.cell? ⟨wr.heap.size, 5, none⟩ = some (strV q5)) (assumption)
        (first
          | fail)
      all_goals go_wp2_with fail
      all_goals go_roundw
      all_goals first
        | exact ⟨j + 1, _, by omega, by go_num, HM4, HC4, HX4, BB⟩
        | (simp [intOf]; omega)
    · obtain rfl : j = gone.length := by omega
      have HCG : Hid (Cnt L gone) := Lib.hid (by have h := HC.out; rw [List.take_length] at h; exact h)
      have HT : Hid (Calls Tryz.prog 25 #[.slice A l.length c, .func (.func 27) #[] #[.pointer (some ⟨W.heap.size + 1 + 1, 0, none⟩), .pointer (some ⟨W.heap.size, 0, none⟩)]] wr (TupsP wr (Ord.rem l gone))) := Lib.hid (by
        have hr := HR.out.below BW.out
        have hx := HX.out.2.2
        have hh := those_any 27 #[.pointer (some ⟨W.heap.size + 1 + 1, 0, none⟩), .pointer (some ⟨W.heap.size, 0, none⟩)] (isAt (fun t => decide (t ∉ gone)) l) l A c wr hr (by omega) (fun t ht => HR.out.ok ht) (enters_of Tryz.func27 (by kernel_rfl) rfl)
          (fun w hw j hj => by
            rw [isAt_at hj]
            exact remc_any l gone A c W.heap.size (W.heap.size + 1 + 1) (W.heap.size + 1) L w (hr.below hw) ((hw.cell (p := ⟨W.heap.size, 0, none⟩) (by show W.heap.size < wr.heap.size; omega)).trans HX.out.1) ((hw.cell (p := ⟨W.heap.size + 1 + 1, 0, none⟩) hx).trans HX.out.2.1) (HM.out.below hw) HCG.out j hj (by omega))
        rw [pickN_all (fun i hi => isAt_at hi), rem_is] at hh
        exact hh)
      obtain ⟨x0, x2, _⟩ := HX.out
      unfold TupsP at HT
      generalize Ord.rem l gone = r at *
      go_wp2_with fail
      refine HT.out.mono ?_
      rintro e w5 ⟨A5, n5, c5, rfl, hn5, hr5, hb5⟩
      have HN5 := Lib.hid hn5
      clear hn5
      go_wp2_with fail
      go_ret
      exact ⟨A5, n5, c5, rfl, HN5.out, hr5, hop BW.out hb5⟩
end Go.Proofs.YtehabjiacgibpaaGreat
