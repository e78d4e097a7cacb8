/-
  Heights raised: a node's, and those of all that depend on it. Conditions: the maps are there; the heights are at most the greatest one.
  heights: the least numbers that are as far above one another as what depends on what asks for, but none above the greatest. Condition: the index is there.
-/
import Derived.Test.YtdnhbledndgbcaaGreatCRoW
namespace Go.Proofs.YtdnhbledndgbcaaGreat
open Go.RowKit
def hv (HL : List (Nk × Nat)) (y : Nk) : Nat := (lookK HL y).getD 0
theorem hv_put {HL : List (Nk × Nat)} (hn : (HL.map (·.1)).Nodup) (x : Nk) (m : Nat) (y : Nk) : hv (putK HL x m) y = if y = x then m else hv HL y := by
  unfold hv
  rw [lookK_put hn]
  split <;> rfl
structure Rai (most : Nat) (In : Nk → List (Nk × Nat)) (R : Nk → Nat → Prop) (h h' : Nk → Nat) : Prop where
  up : ∀ y, h y ≤ h' y
  cl : ∀ y, h' y = h y ∨ ∀ z st, (z, st) ∈ In y → min most (h' y + st) ≤ h' z
  ok : ∀ y, R y (h' y)
theorem Rai.refl {most : Nat} {In : Nk → List (Nk × Nat)} {R : Nk → Nat → Prop} {h : Nk → Nat} (hR : ∀ y, R y (h y)) : Rai most In R h h := ⟨fun _ => Nat.le_refl _, fun _ => .inl rfl, hR⟩
theorem Rai.trans {most : Nat} {In : Nk → List (Nk × Nat)} {R : Nk → Nat → Prop} {h h' h'' : Nk → Nat} (a : Rai most In R h h') (b : Rai most In R h' h'') : Rai most In R h h'' := by
  refine ⟨fun y => Nat.le_trans (a.up y) (b.up y), fun y => ?_, b.ok⟩
  rcases b.cl y with h1 | h1
  · rcases a.cl y with h2 | h2
    · exact .inl (h1.trans h2)
    · right
      intro z st hz
      rw [h1]
      exact Nat.le_trans (h2 z st hz) (b.up z)
  · exact .inr h1
def leftH (most : Nat) (h : Nk → Nat) : List Nk → Nat
  | [] => 0
  | x :: r => (most - h x) + leftH most h r
theorem leftH_mono {most : Nat} {h h' : Nk → Nat} (hh : ∀ y, h y ≤ h' y) : ∀ U : List Nk, leftH most h' U ≤ leftH most h U
  | [] => Nat.le_refl _
  | x :: r => by
    have := leftH_mono (most := most) hh r
    have := hh x
    unfold leftH
    omega
theorem leftH_lt {most : Nat} {h h' : Nk → Nat} (hh : ∀ y, h y ≤ h' y) {n : Nk} (hn : h n < h' n) (hm : h' n ≤ most) : ∀ U : List Nk, n ∈ U → leftH most h' U < leftH most h U
  | [], hu => nomatch hu
  | x :: r, hu => by
    have h1 := leftH_mono (most := most) hh r
    have h2 := hh x
    unfold leftH
    rcases List.mem_cons.1 hu with rfl | hu
    · omega
    · have := leftH_lt hh hn hm r hu
      omega
def RaisedTo (W : World) (bh most : Nat) (In : Nk → List (Nk × Nat)) (R : Nk → Nat → Prop) (HL : List (Nk × Nat)) (n : Nk) (to : Nat) (e : Ending) (w' : World) : Prop :=
  e = .returned (.tuple #[]) ∧ (∃ HL', MapAt w' bh (HL'.map intV) ∧ Rai most In R (hv HL) (hv HL') ∧ min to most ≤ hv HL' n) ∧ Spared W w' (fun k => k = bh)
theorem MapAt.int {w : World} {b : Nat} {HL : List (Nk × Nat)} (h : MapAt w b (HL.map intV)) (x : Nk) :
    (Instr.lookup 102 (.map (some b)) (.agg #[strV x.1, strV x.2]) false).run Tryz.prog w = .ok (.int .i64 (hv HL x : Int)) w := by
  have h1 := run_look h Tryz.underlying102 (zero_int w) x false
  have h2 : lookK (HL.map intV) x = (lookK HL x).map (fun n : Nat => Value.int .i64 (n : Int)) := lookK_map (fun n : Nat => Value.int .i64 (n : Int)) HL x
  rw [h2] at h1
  unfold hv
  cases hq : lookK HL x with
  | none => rw [hq] at h1; exact h1
  | some n => rw [hq] at h1; exact h1
theorem MapAt.nodupI {w : World} {b : Nat} {HL : List (Nk × Nat)} (h : MapAt w b (HL.map intV)) : (HL.map (·.1)).Nodup := by
  have := h.keys
  rwa [show (HL.map intV).map (·.1) = HL.map (·.1) from keys_map (fun n : Nat => Value.int .i64 (n : Int)) _] at this
theorem MapAt.putI {w : World} {b : Nat} {HL : List (Nk × Nat)} (h : MapAt w b (HL.map intV)) (x : Nk) (n : Nat) :
    ∃ w', (Instr.mapUpdate 102 (.map (some b)) (.agg #[strV x.1, strV x.2]) (.int .i64 (n : Int))).run Tryz.prog w = .ok () w' ∧ MapAt w' b ((putK HL x n).map intV) ∧ w.grownBy w' (some b) ∧ w'.heap.size = w.heap.size := by
  obtain ⟨w', h1, h2, h3, h4⟩ := run_put h Tryz.underlying102 x (.int .i64 (n : Int))
  have h5 : putK (HL.map intV) x (.int .i64 (n : Int)) = (putK HL x n).map intV := putK_map (fun n : Nat => Value.int .i64 (n : Int)) HL x n
  rw [h5] at h2
  exact ⟨w', h1, h2, h3, h4⟩
theorem DepAt.lookV {w : World} {ba : Nat} {LA : List (Nk × Nat)} {In : Nk → List (Nk × Nat)} (h : DepAt w ba LA In) (on : Nk) :
    ∃ m, (Instr.lookup 124 (.map (some ba)) (.agg #[strV on.1, strV on.2]) false).run Tryz.prog w = .ok (.map m) w ∧ MapV w m ((In on).map intV) ∧ ∀ k, m = some k → depB ba LA k := by
  by_cases hon : on ∈ LA.map (·.1)
  · obtain ⟨⟨on', nb⟩, hmem, rfl⟩ := List.mem_map.1 hon
    exact ⟨some nb, h.look hmem, (h.inner _ hmem).1, fun k hk => by injection hk with hk; subst hk; exact .inr (List.mem_map_of_mem hmem)⟩
  · refine ⟨none, h.look_no hon, ?_, fun k hk => nomatch hk⟩
    show (In on).map intV = []
    rw [h.no on hon]; rfl
abbrev raiV (b1 b2 b3 b4 : Nat) : Value := .func (.func 82) #[] #[.pointer (some ⟨b1, 0, none⟩), .pointer (some ⟨b2, 0, none⟩), .pointer (some ⟨b3, 0, none⟩), .pointer (some ⟨b4, 0, none⟩)]
set_option maxRecDepth 100000 in
set_option maxHeartbeats 4000000 in
theorem raise_any (most : Nat) (hmo : most ≤ 1000000) (In : Nk → List (Nk × Nat)) (hst : ∀ y z st, (z, st) ∈ In y → st ≤ 1) (R : Nk → Nat → Prop) (hR : ∀ y v z st, R y v → (z, st) ∈ In y → R z (min (v + st) most)) (hRm : ∀ y v, R y v → v ≤ most) (U : List Nk) (hU : ∀ y z st, (z, st) ∈ In y → z ∈ U)
    (ba bh : Nat) (LA : List (Nk × Nat)) (hbh : ¬ depB ba LA bh) (b1 b2 b3 b4 : Nat) (t1 t2 t3 t4 : TypeId) :
    ∀ (N : Nat) (W : World) (HL : List (Nk × Nat)) (n : Nk) (to : Nat), leftH most (hv HL) U ≤ N → n ∈ U → to ≤ 1000001 → (∀ y, R y (hv HL y)) → R n (min to most) → MapAt W bh (HL.map intV) → DepAt W ba LA In →
      Blk W b1 [.int .i64 (most : Int)] t1 → Blk W b2 [.map (some bh)] t2 → Blk W b3 [.map (some ba)] t3 → Blk W b4 [raiV b1 b2 b3 b4] t4 →
      Calls Tryz.prog 82 #[.agg #[strV n.1, strV n.2], .int .i64 (to : Int), .pointer (some ⟨b1, 0, none⟩), .pointer (some ⟨b2, 0, none⟩), .pointer (some ⟨b3, 0, none⟩), .pointer (some ⟨b4, 0, none⟩)] W (RaisedTo W bh most In R HL n to) := by
  intro N
  induction N using Nat.strongRecOn with
  | ind N ih =>
  intro W HL n to hN hnU hto hRH hRn hH hD h1 h2 h3 h4
  obtain ⟨a, c⟩ := n
  obtain ⟨m, hm⟩ : ∃ m, min to most = m := ⟨_, rfl⟩
  have hmm : ∀ (w : World) (ts : Array TypeId) (t : TypeId), (Builtin.min_ ts t #[.int .i64 (to : Int), .int .i64 (most : Int)]).run Tryz.prog w = .ok (.int .i64 (m : Int)) w := fun w ts t => by
    rw [Lib.run_min_ints]
    congr 2
    omega
  have hmmo : m ≤ most := by omega
  rw [hm] at hRn
  obtain ⟨W1, hW1⟩ : ∃ W1, W1 = W.alloc (.cells #[strV a, strV c] 97) := ⟨_, rfl⟩
  have hb1 : Below W.heap.size W W1 := by rw [hW1]; exact (Below.refl _ _).alloc (Nat.le_refl _) _
  have hk1 : Blk W1 W.heap.size [strV a, strV c] 97 := by rw [hW1]; exact Blk.new _ _ _
  have hH1 := hH.below hb1
  have hD1 := hD.below hb1
  have g1 := h1.below hb1 h1.lt
  have g2 := h2.below hb1 h2.lt
  have g3 := h3.below hb1 h3.lt
  have g4 := h4.below hb1 h4.lt
  have hlk := hH1.int (a, c)
  have x0 := hk1.cell (i := 0) (by simp)
  have x1 := hk1.cell (i := 1) (by simp)
  have y1 := g1.cell (i := 0) (by simp)
  have y2 := g2.cell (i := 0) (by simp)
  simp only [List.getElem_cons_succ, List.getElem_cons_zero] at x0 x1 y1 y2
  rw [hW1] at hlk x0 x1 y1 y2
  dsimp only at hlk
  have HM := Lib.hid hm
  show Calls _ _ #[.agg #[strV a, strV c], _, _, _, _, _] _ _
  by_cases hle : m ≤ hv HL (a, c)
  · have hle2 : (m : Int) ≤ (hv HL (a, c) : Int) := by omega
    have HP : Hid (∃ HL', MapAt W1 bh (HL'.map intV) ∧ Rai most In R (hv HL) (hv HL') ∧ min to most ≤ hv HL' (a, c)) := Lib.hid ⟨HL, hH1, Rai.refl hRH, by rw [hm]; exact hle⟩
    have HB1 := Lib.hid hb1
    have HW1 := Lib.hid hW1
    clear ih hN hnU hRH hRn hH hD h1 h2 h3 h4 hb1 hk1 hH1 hD1 g1 g2 g3 g4 hm hle hW1 hR hRm hU hst hbh hmmo
    generalize hv HL (a, c) = hq at *
    go_enter Tryz.func82, Tryz.ntmps82
    go_wp2_with fail
    refine bodyPost_ret (results_none rfl _ _ _) rfl ?_
    rw [← HW1.out]
    exact ⟨rfl, HP.out, Spared.of_below HB1.out _⟩
  · have hlt : hv HL (a, c) < m := by omega
    have hle2 : ¬ ((m : Int) ≤ (hv HL (a, c) : Int)) := by omega
    obtain ⟨w2, hrun2, hH2, hg2, hz2⟩ := hH1.putI (a, c) m
    have hv1 : ∀ y, hv (putK HL (a, c) m) y = if y = (a, c) then m else hv HL y := hv_put hH1.nodupI (a, c) m
    have hsp2 : Spared W1 w2 (fun k => k = bh) := Spared.of_grown hg2 (fun k e _ => by injection e with e; exact e.symm)
    have hnb : ∀ {g : Nat} {l : List Value} {t : TypeId}, Blk W1 g l t → g ≠ bh := fun hb e => by
      obtain ⟨es, cl, e2⟩ := map_not (e ▸ hH1) hb
      cases e2
    have hD2 : DepAt w2 ba LA In := hD1.spared hsp2 (fun k hk e => hbh (e ▸ hk))
    have n1 := hsp2.blk g1 (hnb g1)
    have n2 := hsp2.blk g2 (hnb g2)
    have n3 := hsp2.blk g3 (hnb g3)
    have n4 := hsp2.blk g4 (hnb g4)
    have n0 := hsp2.blk hk1 (hnb hk1)
    obtain ⟨mi, hlk2, hmv, hmb⟩ := hD2.lookV (a, c)
    obtain ⟨w3, hrun3, hr3, hb3, hz3⟩ := run_range hmv Tryz.underlying102
    have hZ2 : w2.heap.size = W.heap.size + 1 := by rw [hz2, hW1]; simp
    obtain ⟨HL1, hHL1⟩ : ∃ HL1, putK HL (a, c) m = HL1 := ⟨_, rfl⟩
    rw [hHL1] at hH2 hv1
    have hup1 : ∀ y, hv HL y ≤ hv HL1 y := fun y => by
      rw [hv1]
      split
      · rename_i e; rw [e]; omega
      · exact Nat.le_refl _
    have hR1 : ∀ y, R y (hv HL1 y) := fun y => by
      rw [hv1]
      split
      · rename_i e; rw [e]; exact hRn
      · exact hRH y
    have hlt1 : leftH most (hv HL1) U < N := by
      have h5 := leftH_lt (most := most) hup1 (n := (a, c)) (by rw [hv1, if_pos rfl]; exact hlt) (by rw [hv1, if_pos rfl]; exact hmmo) U hnU
      omega
    have hend : ∀ HLc, Rai most In R (hv HL1) (hv HLc) → (∀ q ∈ In (a, c), min most (m + q.2) ≤ hv HLc q.1) → Rai most In R (hv HL) (hv HLc) ∧ m ≤ hv HLc (a, c) := fun HLc hr hq => by
      refine ⟨⟨fun y => Nat.le_trans (hup1 y) (hr.up y), fun y => ?_, hr.ok⟩, ?_⟩
      · rcases hr.cl y with h5 | h5
        · rw [hv1] at h5
          by_cases hy : y = (a, c)
          · right
            rw [if_pos hy] at h5
            rw [hy] at h5 ⊢
            intro z st hz
            rw [h5]
            exact hq _ hz
          · rw [if_neg hy] at h5
            exact .inl h5
        · exact .inr h5
      · have := hr.up (a, c)
        rw [hv1, if_pos rfl] at this
        exact this
    have k0 := n0.cell (i := 0) (by simp)
    have k1 := n0.cell (i := 1) (by simp)
    have k3 := n3.cell (i := 0) (by simp)
    simp only [List.getElem_cons_succ, List.getElem_cons_zero] at k0 k1 k3
    have HR3 : Hid (RangeAt w3 (W.heap.size + 1) mi ((In (a, c)).map intV) ((In (a, c)).map intV)) := Lib.hid (by rw [← hZ2]; exact hr3)
    have HH3 : Hid (MapAt w3 bh (HL1.map intV)) := Lib.hid (hH2.below hb3)
    have HD3 := Lib.hid (hD2.below hb3)
    have HNB : Hid (Blk w3 b1 [.int .i64 (most : Int)] t1 ∧ Blk w3 b2 [.map (some bh)] t2 ∧ Blk w3 b3 [.map (some ba)] t3 ∧ Blk w3 b4 [raiV b1 b2 b3 b4] t4) := Lib.hid ⟨n1.below hb3 n1.lt, n2.below hb3 n2.lt, n3.below hb3 n3.lt, n4.below hb3 n4.lt⟩
    have HSP3 : Hid (Spared W w3 (fun k => k = bh)) := Lib.hid (((Spared.of_below hb1 (fun k => k = bh)).trans hsp2 (fun _ h => .inl h)).trans (Spared.of_below hb3 (fun k => k = bh)) (fun _ h => .inl h))
    have HBH : Hid (bh < W.heap.size) := Lib.hid hH.lt
    have HMB : Hid (∀ k, mi = some k → depB ba LA k ∧ k < W.heap.size) := Lib.hid (fun k hk => ⟨hmb k hk, by
      obtain ⟨L', hL'⟩ := hD.isMap (hmb k hk)
      exact hL'.lt⟩)
    have HDL : Hid (∀ k, depB ba LA k → k < W.heap.size) := Lib.hid (fun k hk => by
      obtain ⟨L', hL'⟩ := hD.isMap hk
      exact hL'.lt)
    have HBL : Hid (b1 < W.heap.size ∧ b2 < W.heap.size ∧ b3 < W.heap.size ∧ b4 < W.heap.size) := Lib.hid ⟨h1.lt, h2.lt, h3.lt, h4.lt⟩
    have HNBH : Hid (b1 ≠ bh ∧ b2 ≠ bh ∧ b3 ≠ bh ∧ b4 ≠ bh) := Lib.hid ⟨hnb g1, hnb g2, hnb g3, hnb g4⟩
    have HEND := Lib.hid hend
    have HLT := Lib.hid hlt1
    have HRR := Lib.hid (And.intro hRn (And.intro hR hRm))
    have HR1 := Lib.hid hR1
    have HU := Lib.hid hU
    have HST := Lib.hid hst
    have HIH := Lib.hid ih
    have HBB := Lib.hid hbh
    have HMM := Lib.hid (And.intro hmmo hmo)
    rw [hZ2] at hrun3
    rw [hW1] at hrun2
    dsimp only at hrun2 hlk2
    clear ih hN hnU hRH hRn hH hD h1 h2 h3 h4 hb1 hk1 hH1 hD1 g1 g2 g3 g4 hm hle hW1 hR hRm hU hst hbh hmmo hlt hH2 hg2 hz2 hv1 hsp2 hnb hD2 n0 n1 n2 n3 n4 hmv hmb hr3 hb3 hz3 hZ2 hHL1 hup1 hR1 hlt1 hend hmo hto
    generalize hv HL (a, c) = hq at *
    go_enter Tryz.func82, Tryz.ntmps82
    go_wp2_with fail
    clear hlk hle2 hrun2 hrun3 hlk2 x0 x1 y1 y2 k0 k1 k3 hmm
    obtain ⟨li, hli⟩ : ∃ li, In (a, c) = li := ⟨_, rfl⟩
    rw [hli] at HR3 HEND
    have HLI := Lib.hid hli
    clear hli
    go_loopw [25] (fun _ wr => ∃ (todo : List (Nk × Value)) (HLc : List (Nk × Nat)), Hid (RangeAt wr (W.heap.size + 1) mi (li.map intV) todo) ∧ Hid (∀ p ∈ todo, p ∈ li.map intV) ∧ Hid (MapAt wr bh (HLc.map intV)) ∧ Hid (Rai most In R (hv HL1) (hv HLc)) ∧ Hid (∀ q ∈ li, intV q ∈ todo ∨ min most (m + q.2) ≤ hv HLc q.1) ∧ Hid (Spared w3 wr (fun k => k = bh ∨ k = W.heap.size + 1))) (fun _ wr => rangeN wr (W.heap.size + 1) mi)
    case atStart => exact ⟨_, HL1, HR3, Lib.hid (fun _ h => h), HH3, Lib.hid (Rai.refl HR1.out), Lib.hid (fun q hq => .inl (List.mem_map_of_mem hq)), Lib.hid (Spared.refl _ _)⟩
    case round =>
      obtain ⟨todo, HLc, HRG, HSUB, HHC, HRC, HPC, HSC⟩ := hrel
      have hleft := HRG.out.left
      rcases run_step_all HRG.out with ⟨h0, hnx⟩ | ⟨x, v, todo', w5, hx, hsub, hs', hlen, hr5, hnx, hg5, hz5, hen⟩
      · have HE := Lib.hid (HEND.out HLc HRC.out (fun q hq => by
          rcases HPC.out q hq with h | h
          · rw [h0] at h; cases h
          · exact h))
        clear h0 hleft
        go_wp2_with fail
        go_end0
        refine ⟨rfl, ⟨HLc, HHC.out, HE.out.1, by rw [HM.out]; exact HE.out.2⟩, ?_⟩
        exact HSP3.out.trans HSC.out (fun k hk => by
          rcases hk with h | h
          · exact .inl h
          · exact .inr (by omega))
      · obtain ⟨q, hq, hqe⟩ := List.mem_map.1 (HSUB.out _ hx)
        obtain ⟨⟨za, zc⟩, st⟩ := q
        unfold intV at hqe
        injection hqe with hq1 hq2
        dsimp only at hq1 hq2
        subst hq1 hq2
        dsimp only at hnx hen
        have hsp5 : Spared w3 w5 (fun k => k = bh ∨ k = W.heap.size + 1) := HSC.out.trans (Spared.of_grown (F := fun k => k = bh ∨ k = W.heap.size + 1) hg5 (fun k e _ => by injection e with e; exact .inr e.symm)) (fun _ h => .inl h)
        have hH5 : MapAt w5 bh (HLc.map intV) := HHC.out.spared (Spared.of_grown (F := fun k => k = W.heap.size + 1) hg5 (fun k e _ => by injection e with e; exact e.symm)) (by have := HBH.out; omega)
        obtain ⟨w7, hw7⟩ : ∃ w7, w7 = w5.alloc (.cells #[strV za, strV zc] 97) := ⟨_, rfl⟩
        have hb7 : Below w5.heap.size w5 w7 := by rw [hw7]; exact (Below.refl _ _).alloc (Nat.le_refl _) _
        have hk7 : Blk w7 w5.heap.size [strV za, strV zc] 97 := by rw [hw7]; exact Blk.new _ _ _
        have hsp7 : Spared w3 w7 (fun k => k = bh ∨ k = W.heap.size + 1) := hsp5.trans (Spared.of_below hb7 (fun _ => False)) (fun _ h => h.elim)
        have hbl := HBL.out
        have hnbh := HNBH.out
        have i1 := hsp7.blk HNB.out.1 (by omega)
        have i2 := hsp7.blk HNB.out.2.1 (by omega)
        have i3 := hsp7.blk HNB.out.2.2.1 (by omega)
        have i4 := hsp7.blk HNB.out.2.2.2 (by omega)
        have hD7 : DepAt w7 ba LA In := HD3.out.spared hsp7 (fun k hk e => by
          have h8 := HDL.out k hk
          rcases e with e | e
          · exact HBB.out (e ▸ hk)
          · omega)
        have hmem : ((za, zc), st) ∈ In (a, c) := by rw [HLI.out]; exact hq
        have hst1 := HST.out _ _ _ hmem
        have hlc : leftH most (hv HLc) U < N := Nat.lt_of_le_of_lt (leftH_mono (most := most) HRC.out.up U) HLT.out
        have hmmo := HMM.out
        have hcall := HIH.out (leftH most (hv HLc) U) hlc w7 HLc (za, zc) (m + st) (Nat.le_refl _) (HU.out _ _ _ hmem) (by omega) HRC.out.ok (HRR.out.2.1 _ _ _ _ HRR.out.1 hmem) (hH5.below hb7) hD7 i1 i2 i3 i4
        have HC : Hid (Calls Tryz.prog 82 #[.agg #[strV za, strV zc], .int .i64 ((m : Int) + (st : Int)), .pointer (some ⟨b1, 0, none⟩), .pointer (some ⟨b2, 0, none⟩), .pointer (some ⟨b3, 0, none⟩), .pointer (some ⟨b4, 0, none⟩)] w7 (RaisedTo w7 bh most In R HLc (za, zc) (m + st))) := Lib.hid (by
          rw [show ((m : Int) + (st : Int)) = ((m + st : Nat) : Int) from by omega]
          exact hcall)
        have v0 := hk7.cell (i := 0) (by simp)
        have v1 := hk7.cell (i := 1) (by simp)
        have u4 := i4.cell (i := 0) (by simp)
        simp only [List.getElem_cons_succ, List.getElem_cons_zero] at v0 v1 u4
        rw [hw7] at v0 v1 u4
        have hm6 : m ≤ 1000000 := by omega
        have HR7 := Lib.hid (hr5.below hb7)
        have HX := Lib.hid (And.intro hx (And.intro hsub (And.intro hs' hlen)))
        have HLE := Lib.hid hleft
        have HW7 := Lib.hid hw7
        have HSP7 := Lib.hid hsp7
        have HK7 := Lib.hid hk7
        clear hx hsub hs' hlen hleft hr5 hg5 hz5 hq hsp5 hH5 hw7 hb7 hk7 hsp7 hbl hnbh i1 i2 i3 i4 hD7 hmem hlc hmmo hcall
        go_wp2_with (go_at_call 82; rw [← HW7.out]; refine HC.out.mono ?_; rintro e w8 ⟨rfl, ⟨HL8, hh8, hr8, hm8⟩, hs8⟩; have HH8 := Lib.hid hh8; have HR8 := Lib.hid hr8; have HM8 := Lib.hid hm8; have HS8 := Lib.hid hs8; clear hh8 hr8 hm8 hs8)
        have HRG8 : Hid (RangeAt w8 (W.heap.size + 1) mi (li.map intV) todo') := Lib.hid (HR7.out.spared HS8.out (by have := HBH.out; omega) (fun k hk e => HBB.out (e ▸ (HMB.out k hk).1)))
        go_roundw
        case rel =>
          refine ⟨todo', HL8, HRG8, Lib.hid (fun p hp => HSUB.out p (HX.out.2.2.1 p hp)), HH8, Lib.hid (HRC.out.trans HR8.out), Lib.hid (fun q hq => ?_), Lib.hid (HSP7.out.trans HS8.out (fun _ h => .inl (.inl h)))⟩
          rcases HPC.out q hq with h | h
          · rcases HX.out.2.1 _ h with h | h
            · right
              obtain ⟨⟨qa, qc⟩, qs⟩ := q
              unfold intV at h
              injection h with e1 e2
              dsimp only at e1 e2
              injection e2 with _ e2
              have e3 : qs = st := by omega
              rw [e3, e1, Nat.min_comm]
              exact HM8.out
            · exact .inl h
          · exact .inr (Nat.le_trans h (HR8.out.up _))
        case measure =>
          rw [HRG8.out.left, HLE.out]
          exact HX.out.2.2.2
end Go.Proofs.YtdnhbledndgbcaaGreat
namespace Go.Proofs.YtdnhbledndgbcaaGreat
open Go.RowKit
inductive WayK (kn : Kn) : Nk → Nat → Prop where
  | nil (x : Nk) : WayK kn x 0
  | cons {x y : Nk} {st n : Nat} (he : EdgeK kn x y st) (hn : WayK kn y n) : WayK kn x (n + st)
theorem lvs_le (e : Ex) : ∀ st, st ≤ 1 → ∀ p ∈ lvsE e st, p.2 ≤ 1 := by
  refine Ex.all (P := fun e => ∀ st, st ≤ 1 → ∀ p ∈ lvsE e st, p.2 ≤ 1) (fun k n o ks ih st hst p hp => ?_) e
  unfold lvsE at hp
  split at hp
  · rw [List.mem_singleton.1 hp]; exact hst
  · have hL : ∀ (l : List Ex), (∀ x ∈ l, x ∈ ks) → ∀ i, ∀ p ∈ lvsL k l i st, p.2 ≤ 1 := by
      intro l
      induction l with
      | nil => intro _ i p hp; unfold lvsL at hp; cases hp
      | cons x r ihr =>
        intro hs i p hp
        unfold lvsL at hp
        rcases List.mem_append.1 hp with hp | hp
        · exact ih x (hs x (List.mem_cons_self ..)) _ (by split <;> omega) p hp
        · exact ihr (fun y hy => hs y (List.mem_cons_of_mem _ hy)) (i + 1) p hp
    exact hL ks (fun _ h => h) 0 p hp
theorem EdgeK.le {kn : Kn} {z y : Nk} {n : Nat} (h : EdgeK kn z y n) : n ≤ 1 := by
  obtain ⟨r, _, _, h⟩ := h
  unfold depsK at h
  rcases List.mem_append.1 h with h | h
  · obtain ⟨q, _, e⟩ := List.mem_map.1 h
    injection e with _ e
    omega
  · split at h
    · obtain ⟨p, hp, h⟩ := List.mem_flatMap.1 h
      have := lvs_le r.expr 0 (Nat.zero_le _) p hp
      unfold leafD at h
      rcases List.mem_cons.1 h with h | h
      · injection h with _ h; omega
      · split at h
        · obtain ⟨q, _, e⟩ := List.mem_map.1 h
          injection e with _ e
          omega
        · cases h
    · cases h
def HeightsAre (W : World) (kn : Kn) (most : Nat) (e : Ending) (w' : World) : Prop := ∃ (bh : Nat) (HL : List (Nk × Nat)), e = .returned (.map (some bh)) ∧ W.heap.size ≤ bh ∧ MapAt w' bh (HL.map intV) ∧ Below W.heap.size W w' ∧ (∀ y, ∃ n, WayK kn y n ∧ hv HL y = min n most) ∧ ∀ z y n, EdgeK kn z y n → min most (hv HL y + n) ≤ hv HL z
theorem box_raise (w2 : World) (ba : Nat) (v : Value) (hv : v.oneCell' = true) : ∃ w3, w3 = (w2.alloc (.cells #[.map (some ba)] 124)).alloc (.cells #[v] 126) ∧
    (store ⟨w2.heap.size + 1, 0, none⟩ v).run Tryz.prog ((w2.alloc (.cells #[.map (some ba)] 124)).alloc (.cells #[.nilFunc] 126)) = .ok () w3 ∧
    Blk w3 w2.heap.size [.map (some ba)] 124 ∧ Blk w3 (w2.heap.size + 1) [v] 126 ∧ Below w2.heap.size w2 w3 ∧ w3.heap.size = w2.heap.size + 2 := by
  have hq2 : Blk ((w2.alloc (.cells #[.map (some ba)] 124)).alloc (.cells #[.nilFunc] 126)) (w2.heap.size + 1) [.nilFunc] 126 := by
    have := Blk.new (w2.alloc (.cells #[.map (some ba)] 124)) [.nilFunc] 126
    rwa [World.size_alloc] at this
  have x3 := hq2.cell (i := 0) (by simp)
  have f3 := hq2.free 0
  refine ⟨_, rfl, ?_, (Blk.new _ _ _).alloc _, ?_, ((Below.refl _ _).alloc (Nat.le_refl _) _).alloc (by simp) _, by simp⟩
  · rw [run_store _ _ _ _ _ hv, x3, f3]
    rw [World.setCell_alloc_at (n := w2.heap.size + 1) (hn := by simp)]
    simp
  · have := Blk.new (w2.alloc (.cells #[.map (some ba)] 124)) [v] 126
    rwa [World.size_alloc] at this
set_option maxRecDepth 100000 in
set_option maxHeartbeats 4000000 in
theorem heights_any (most : Nat) (hmo : most ≤ 1000000) (W : World) (F1 : Nat → Prop) (b : Nat) (L : List (Nk × Value)) (kn : Kn) (hB : ∀ x, ((kn x).getD noRel).refs.length ≤ 1000000) (hF1 : ∀ k, W.heap.size ≤ k → F1 k) (h : KnAt W F1 b L kn) :
    Calls Tryz.prog 60 #[.map (some b), .int .i64 (most : Int)] W (HeightsAre W kn most) := by
  have hmf : ∀ (fn : Fn) (first cap : Array Value) (w : World), (Instr.makeFunc fn first cap).run Tryz.prog w = .ok (.func fn first cap) w := fun _ _ _ _ => rfl
  have hmm := @run_makeMap Tryz.prog
  obtain ⟨W1, hW1⟩ : ∃ W1, W1 = ((W.alloc (.cells #[.int .i64 (most : Int)] 3)).alloc (.map #[] 0)).alloc (.cells #[.map (some (W.heap.size + 1))] 102) := ⟨_, rfl⟩
  have hb1 : Below W.heap.size W W1 := by rw [hW1]; exact (((Below.refl _ _).alloc (Nat.le_refl _) _).alloc (by simp) _).alloc (by simp; omega) _
  have hk1 : Blk W1 W.heap.size [.int .i64 (most : Int)] 3 := by rw [hW1]; exact ((Blk.new _ _ _).alloc _).alloc _
  have hm1 : MapAt W1 (W.heap.size + 1) [] := by
    rw [hW1]
    have := (MapAt.made (W.alloc (.cells #[.int .i64 (most : Int)] 3))).below ((Below.refl _ _).alloc (Nat.le_refl _) (.cells #[.map (some (W.heap.size + 1))] 102))
    rw [World.size_alloc] at this
    exact this
  have hk2 : Blk W1 (W.heap.size + 2) [.map (some (W.heap.size + 1))] 102 := by
    rw [hW1]
    have := Blk.new ((W.alloc (.cells #[.int .i64 (most : Int)] 3)).alloc (.map #[] 0)) [.map (some (W.heap.size + 1))] 102
    rw [World.size_alloc, World.size_alloc] at this
    exact this
  have hZ1 : W1.heap.size = W.heap.size + 3 := by rw [hW1]; simp
  have HD := Lib.hid (dependents_any W1 F1 b L kn hB (fun k hk => hF1 k (by omega)) (h.below hb1))
  have HW1 := Lib.hid hW1
  have HB1 := Lib.hid hb1
  have HK1 := Lib.hid hk1
  have HK2 := Lib.hid hk2
  have HM1 := Lib.hid hm1
  have HZ1 := Lib.hid hZ1
  have HMO := Lib.hid hmo
  clear h hb1 hk1 hk2 hm1 hZ1 hW1 hmo hB hF1
  go_enter Tryz.func60, Tryz.ntmps60
  go_wp2_with (go_at_call 81; rw [← HW1.out]; refine HD.out.mono ?_; rintro e w2 ⟨ba, LA, In, rfl, hd2, ⟨hba, hla⟩, hb2, hsnd, hful⟩
               have hk2 := HK2.out.below hb2 HK2.out.lt
               have hk1 := HK1.out.below hb2 HK1.out.lt
               have hm2 := HM1.out.below hb2
               have HL2 := Lib.hid (And.intro hba (And.intro hla (And.intro hsnd hful)))
               have HZ2 := Lib.hid hb2.size
               have HB2 := Lib.hid (HB1.out.trans (hb2.mono (by rw [HZ1.out]; omega)))
               obtain ⟨w3, hw3, hst3, hr1, hr2, hsp3, hz3⟩ := box_raise w2 ba (raiV W.heap.size (W.heap.size + 1 + 1) w2.heap.size (w2.heap.size + 1)) rfl
               have hd3 := hd2.below hsp3
               have y3 := hr1.cell (i := 0) (by simp)
               obtain ⟨w4, hrun4, hr4, hb4, hz4⟩ := run_range (m := some ba) hd3.map Tryz.underlying124
               simp only [List.getElem_cons_zero] at y3
               have HR4 : Hid (RangeAt w4 (w2.heap.size + 2) (some ba) (LA.map mapV) (LA.map mapV)) := Lib.hid (by rw [← hz3]; exact hr4)
               have HD4 := Lib.hid (hd3.below hb4)
               have HK4 : Hid (Blk w4 W.heap.size [.int .i64 (most : Int)] 3 ∧ Blk w4 (W.heap.size + 1 + 1) [.map (some (W.heap.size + 1))] 102 ∧ Blk w4 w2.heap.size [.map (some ba)] 124 ∧ Blk w4 (w2.heap.size + 1) [raiV W.heap.size (W.heap.size + 1 + 1) w2.heap.size (w2.heap.size + 1)] 126) := Lib.hid ⟨(hk1.below hsp3 hk1.lt).below hb4 (hk1.below hsp3 hk1.lt).lt, (hk2.below hsp3 hk2.lt).below hb4 (hk2.below hsp3 hk2.lt).lt, hr1.below hb4 hr1.lt, hr2.below hb4 hr2.lt⟩
               have HM4 := Lib.hid ((hm2.below hsp3).below hb4)
               have HB4 : Hid (Below W.heap.size W w4) := Lib.hid ((HB2.out.trans (hsp3.mono HB2.out.size)).trans (hb4.mono (by have := HB2.out.size; omega)))
               have HZ4 : Hid (w4.heap.size = w2.heap.size + 3) := Lib.hid (by omega)
               have HDB : Hid (∀ k, depB ba LA k → W.heap.size + 3 ≤ k ∧ k < w2.heap.size) := Lib.hid (fun k hk => by
                 obtain ⟨L', hL'⟩ := hd2.isMap hk
                 refine ⟨?_, hL'.lt⟩
                 have := HZ1.out
                 rcases hk with rfl | hk
                 · omega
                 · obtain ⟨p, hp, rfl⟩ := List.mem_map.1 hk
                   have := hla p hp
                   omega)
               rw [hz3, hw3] at hrun4
               rw [hw3] at y3 hst3
               clear hba hla hsnd hful hb2 hk1 hk2 hm2 hr1 hr2 hsp3 hd3 hz3 hr4 hb4 hz4 hd2 hw3)
  clear hst3 y3 hrun4
  clear hmf hmm
  have HRn : Hid (∀ y z st, (z, st) ∈ In y → (∃ n, WayK kn z n ∧ min st most = min n most) ∧ st ≤ 1) := Lib.hid (fun y z st hz => by
    have he := HL2.out.2.2.1 y z st hz
    exact ⟨⟨0 + st, .cons he (.nil y), by rw [Nat.zero_add]⟩, he.le⟩)
  have HRS : Hid (∀ (y : Nk) (v : Nat) (z : Nk) (st : Nat), (∃ n, WayK kn y n ∧ v = min n most) → (z, st) ∈ In y → ∃ n, WayK kn z n ∧ min (v + st) most = min n most) := Lib.hid (fun y v z st ⟨n, h1, h2⟩ hz => ⟨n + st, .cons (HL2.out.2.2.1 y z st hz) h1, by omega⟩)
  have HR0 : Hid (∀ y, ∃ n, WayK kn y n ∧ hv [] y = min n most) := Lib.hid (fun y => ⟨0, .nil y, by rw [Nat.zero_min]; rfl⟩)
  have HINU : Hid (∀ y z st, (z, st) ∈ In y → z ∈ LA.flatMap (fun p => (In p.1).map (·.1))) := Lib.hid (fun y z st hz => by
    by_cases hy : y ∈ LA.map (·.1)
    · obtain ⟨p, hp, rfl⟩ := List.mem_map.1 hy
      exact List.mem_flatMap.2 ⟨p, hp, List.mem_map.2 ⟨_, hz, rfl⟩⟩
    · rw [HD4.out.no y hy] at hz; cases hz)
  have HWb : Hid (W.heap.size + 3 ≤ w2.heap.size) := Lib.hid (by have h1 := HZ2.out; have h2 := HZ1.out; omega)
  go_loopw [18] (fun _ wr => ∃ (todo : List (Nk × Value)) (HLc : List (Nk × Nat)), Hid (RangeAt wr (w2.heap.size + 2) (some ba) (LA.map mapV) todo) ∧ Hid (∀ p ∈ todo, p ∈ LA.map mapV) ∧ Hid (MapAt wr (W.heap.size + 1) (HLc.map intV)) ∧ Hid (Rai most In (fun y v => ∃ n, WayK kn y n ∧ v = min n most) (hv []) (hv HLc)) ∧ Hid (∀ p ∈ LA, mapV p ∈ todo ∨ ∀ q ∈ In p.1, min most q.2 ≤ hv HLc q.1) ∧ Hid (Spared w4 wr (fun k => k = W.heap.size + 1 ∨ k = w2.heap.size + 2))) (fun _ wr => rangeN wr (w2.heap.size + 2) (some ba))
  case atStart => exact ⟨_, [], HR4, Lib.hid (fun _ h => h), HM4, Lib.hid (Rai.refl HR0.out), Lib.hid (fun p hp => .inl (List.mem_map_of_mem hp)), Lib.hid (Spared.refl _ _)⟩
  case round =>
    obtain ⟨todo, HLc, HRG, HSUB, HHC, HRC, HPC, HSC⟩ := hrel
    have hleft := HRG.out.left
    have hk2 := HSC.out.blk HK4.out.2.1 (by have := HWb.out; omega)
    rcases run_step_all HRG.out with ⟨h0, hnx⟩ | ⟨x, v, todo', w5, hx, hsub, hs', hlen, hr5, hnx, hg5, hz5, hen⟩
    · have x2 := hk2.cell (i := 0) (by simp)
      simp only [List.getElem_cons_zero] at x2
      have HE : Hid (∀ p ∈ LA, ∀ q ∈ In p.1, min most q.2 ≤ hv HLc q.1) := Lib.hid (fun p hp => by
        rcases HPC.out p hp with h | h
        · rw [h0] at h; cases h
        · exact h)
      clear h0 hleft hk2
      go_wp2_with fail
      go_ret
      refine ⟨W.heap.size + 1, HLc, rfl, by omega, HHC.out, HSC.out.below HB4.out (fun k hk => by have := HWb.out; rcases hk with rfl | rfl <;> omega), HRC.out.ok, fun z y n he => ?_⟩
      obtain ⟨n', hn, hz⟩ := HL2.out.2.2.2 z y n he
      have hc : min most (hv HLc y + n') ≤ hv HLc z := by
        rcases HRC.out.cl y with h | h
        · have h9 : hv HLc y = 0 := h
          rw [h9, Nat.zero_add]
          by_cases hy : y ∈ LA.map (·.1)
          · obtain ⟨p, hp, rfl⟩ := List.mem_map.1 hy
            exact HE.out p hp _ hz
          · rw [HD4.out.no y hy] at hz; cases hz
        · exact h z n' hz
      omega
    · obtain ⟨p, hp, hpe⟩ := List.mem_map.1 (HSUB.out _ hx)
      unfold mapV at hpe
      injection hpe with hp1 hp2
      subst hp1 hp2
      obtain ⟨⟨a, c⟩, nb⟩ := p
      dsimp only at hnx hen
      have hsp5 : Spared wr w5 (fun k => k = w2.heap.size + 2) := Spared.of_grown hg5 (fun k e _ => by injection e with e; exact e.symm)
      have hS5 : Spared w4 w5 (fun k => k = W.heap.size + 1 ∨ k = w2.heap.size + 2) := HSC.out.trans hsp5 (fun k h => .inl (.inr h))
      have hD5 : DepAt w5 ba LA In := HD4.out.spared hS5 (fun k hk => by have := HDB.out k hk; omega)
      have hH5 : MapAt w5 (W.heap.size + 1) (HLc.map intV) := HHC.out.spared hsp5 (by have := HWb.out; omega)
      obtain ⟨w6, hrun6, hr6, hb6, hz6⟩ := run_range (m := some nb) (hD5.inner _ hp).1 Tryz.underlying102
      obtain ⟨R1, hR1⟩ : ∃ R1, w5.heap.size = R1 := ⟨_, rfl⟩
      rw [hR1] at hrun6 hr6
      have HR1 : Hid (w2.heap.size + 3 ≤ R1) := Lib.hid (by rw [← hR1, ← HZ4.out]; exact hS5.size)
      have HRG6 := Lib.hid hr6
      have HH6 := Lib.hid (hH5.below hb6)
      have HD6 := Lib.hid (hD5.below hb6)
      have HS6 : Hid (Spared w4 w6 (fun k => k = W.heap.size + 1 ∨ k = w2.heap.size + 2)) := Lib.hid (hS5.trans (Spared.of_below hb6 (fun _ => False)) (fun _ h => h.elim))
      have HRO6 : Hid (RangeAt w6 (w2.heap.size + 2) (some ba) (LA.map mapV) todo') := Lib.hid (hr5.below hb6)
      have HX := Lib.hid (And.intro hx (And.intro hsub (And.intro hs' hlen)))
      have HP := Lib.hid hp
      have HLE := Lib.hid hleft
      have HNB : Hid (depB ba LA nb) := Lib.hid (.inr (List.mem_map.2 ⟨_, hp, rfl⟩))
      clear hk2 hx hsub hs' hlen hr5 hg5 hz5 hsp5 hS5 hD5 hH5 hr6 hb6 hz6 hR1 hleft
      go_wp2_with fail
      clear hnx hen hrun6
      obtain ⟨li, hli⟩ : ∃ li, In (a, c) = li := ⟨_, rfl⟩
      have HLI := Lib.hid hli
      have HRG6' : Hid (RangeAt w6 R1 (some nb) (li.map intV) (li.map intV)) := Lib.hid (by rw [← hli]; exact HRG6.out)
      clear hli HRG6
      go_loopw [24] (fun _ wq => ∃ (todo2 : List (Nk × Value)) (HLd : List (Nk × Nat)), Hid (RangeAt wq R1 (some nb) (li.map intV) todo2) ∧ Hid (∀ p ∈ todo2, p ∈ li.map intV) ∧ Hid (MapAt wq (W.heap.size + 1) (HLd.map intV)) ∧ Hid (Rai most In (fun y v => ∃ n, WayK kn y n ∧ v = min n most) (hv HLc) (hv HLd)) ∧ Hid (∀ q ∈ li, intV q ∈ todo2 ∨ min most q.2 ≤ hv HLd q.1) ∧ Hid (Spared w6 wq (fun k => k = W.heap.size + 1 ∨ k = R1))) (fun _ wq => rangeN wq R1 (some nb))
      case atStart => exact ⟨_, HLc, HRG6', Lib.hid (fun _ h => h), HH6, Lib.hid (Rai.refl HRC.out.ok), Lib.hid (fun q hq => .inl (List.mem_map_of_mem hq)), Lib.hid (Spared.refl _ _)⟩
      case round =>
        rename World => wq
        obtain ⟨todo2, HLd, HRQ, HSUBQ, HHQ, HRQC, HPQ, HSQ⟩ := hrel
        have hleft := HRQ.out.left
        rcases run_step_all HRQ.out with ⟨h0, hnx⟩ | ⟨y, v, todo3, w7, hx, hsub, hs', hlen, hr7, hnx, hg7, hz7, hen⟩
        · have HPE : Hid (∀ q ∈ li, min most q.2 ≤ hv HLd q.1) := Lib.hid (fun q hq => by
            rcases HPQ.out q hq with h | h
            · rw [h0] at h; cases h
            · exact h)
          have HRO9 : Hid (RangeAt wq (w2.heap.size + 2) (some ba) (LA.map mapV) todo') := Lib.hid (HRO6.out.spared HSQ.out (by have := HWb.out; have := HR1.out; omega) (fun b' hb' => by
            injection hb' with hb'
            have h1 := HDB.out ba (.inl rfl)
            have h2 := HR1.out
            subst hb'
            omega))
          clear h0 hleft
          go_wp2_with fail
          go_roundw
          case rel =>
            refine ⟨todo', HLd, HRO9, Lib.hid (fun p hp => HSUB.out p (HX.out.2.2.1 p hp)), HHQ, Lib.hid (HRC.out.trans HRQC.out), Lib.hid (fun p hp => ?_), Lib.hid (HS6.out.trans HSQ.out (fun k hk => ?_))⟩
            · rcases HPC.out p hp with h | h
              · rcases HX.out.2.1 _ h with h | h
                · right
                  obtain ⟨pk, pb⟩ := p
                  unfold mapV at h
                  injection h with e1 e2
                  dsimp only at e1 ⊢
                  rw [e1, HLI.out]
                  exact HPE.out
                · exact .inl h
              · exact .inr (fun q hq => Nat.le_trans (h q hq) (HRQC.out.up _))
            · rcases hk with h | h
              · exact .inl (.inl h)
              · right
                have h1 := HR1.out
                have h2 := HZ4.out
                omega
          case measure =>
            rw [HRO9.out.left, HLE.out]
            exact HX.out.2.2.2
        · obtain ⟨q, hq, hqe⟩ := List.mem_map.1 (HSUBQ.out _ hx)
          obtain ⟨⟨za, zc⟩, st⟩ := q
          unfold intV at hqe
          injection hqe with hq1 hq2
          dsimp only at hq1 hq2
          subst hq1 hq2
          dsimp only at hnx hen
          have hsp7 : Spared wq w7 (fun k => k = R1) := Spared.of_grown hg7 (fun k e _ => by injection e with e; exact e.symm)
          have hH7 : MapAt w7 (W.heap.size + 1) (HLd.map intV) := HHQ.out.spared hsp7 (by have := HWb.out; have := HR1.out; omega)
          have hS7 : Spared w6 w7 (fun k => k = W.heap.size + 1 ∨ k = R1) := HSQ.out.trans hsp7 (fun k h => .inl (.inr h))
          obtain ⟨w8, hw8⟩ : ∃ w8, w8 = w7.alloc (.cells #[strV za, strV zc] 97) := ⟨_, rfl⟩
          have hb8 : Below w7.heap.size w7 w8 := by rw [hw8]; exact (Below.refl _ _).alloc (Nat.le_refl _) _
          have hk8 : Blk w8 w7.heap.size [strV za, strV zc] 97 := by rw [hw8]; exact Blk.new _ _ _
          have hS8 : Spared w6 w8 (fun k => k = W.heap.size + 1 ∨ k = R1) := hS7.trans (Spared.of_below hb8 (fun _ => False)) (fun _ h => h.elim)
          have hS48 : Spared w4 w8 (fun k => k = W.heap.size + 1 ∨ k = w2.heap.size + 2) := HS6.out.trans hS8 (fun k hk => by
            rcases hk with h | h
            · exact .inl (.inl h)
            · right
              have h1 := HR1.out
              have h2 := HZ4.out
              omega)
          have hwb := HWb.out
          have i1 := hS48.blk HK4.out.1 (by omega)
          have i2 := hS48.blk HK4.out.2.1 (by omega)
          have i3 := hS48.blk HK4.out.2.2.1 (by omega)
          have i4 := hS48.blk HK4.out.2.2.2 (by omega)
          have hD8 : DepAt w8 ba LA In := HD6.out.spared hS8 (fun k hk => by have := HDB.out k hk; have := HR1.out; omega)
          have hmem : ((za, zc), st) ∈ In (a, c) := by rw [HLI.out]; exact hq
          have hRn := HRn.out _ _ _ hmem
          have hcall := raise_any most HMO.out In (fun y z st h => (HRn.out y z st h).2) (fun y v => ∃ n, WayK kn y n ∧ v = min n most) HRS.out (fun y v ⟨n, _, h⟩ => by omega) (LA.flatMap (fun p => (In p.1).map (·.1))) HINU.out ba (W.heap.size + 1) LA (fun hk => by have := HDB.out _ hk; omega) W.heap.size (W.heap.size + 1 + 1) w2.heap.size (w2.heap.size + 1) _ _ _ _
            _ w8 HLd (za, zc) st (Nat.le_refl _) (HINU.out _ _ _ hmem) (by omega) HRQC.out.ok hRn.1 (hH7.below hb8) hD8 i1 i2 i3 i4
          have HC := Lib.hid hcall
          have v0 := hk8.cell (i := 0) (by simp)
          have v1 := hk8.cell (i := 1) (by simp)
          have u4 := i4.cell (i := 0) (by simp)
          simp only [List.getElem_cons_succ, List.getElem_cons_zero] at v0 v1 u4
          rw [hw8] at v0 v1 u4
          have HR8 := Lib.hid (hr7.below hb8)
          have HX2 := Lib.hid (And.intro hx (And.intro hsub (And.intro hs' hlen)))
          have HLE2 := Lib.hid hleft
          have HW8 := Lib.hid hw8
          have HSP8 := Lib.hid hS8
          clear hx hsub hs' hlen hleft hr7 hg7 hz7 hq hsp7 hH7 hw8 hb8 hk8 hS7 hS8 hS48 hwb i1 i2 i3 i4 hD8 hmem hRn hcall
          go_wp2_with (go_at_call 82; rw [← HW8.out]; refine HC.out.mono ?_; rintro e w9 ⟨rfl, ⟨HL9, hh9, hr9, hm9⟩, hs9⟩; have HH9 := Lib.hid hh9; have HR9 := Lib.hid hr9; have HM9 := Lib.hid hm9; have HS9 := Lib.hid hs9; clear hh9 hr9 hm9 hs9)
          have HRG9 : Hid (RangeAt w9 R1 (some nb) (li.map intV) todo3) := Lib.hid (HR8.out.spared HS9.out (by have := HWb.out; have := HR1.out; omega) (fun b' hb' => by
            injection hb' with hb'
            have h1 := HDB.out nb HNB.out
            subst hb'
            omega))
          go_roundw
          case rel =>
            refine ⟨todo3, HL9, HRG9, Lib.hid (fun p hp => HSUBQ.out p (HX2.out.2.2.1 p hp)), HH9, Lib.hid (HRQC.out.trans HR9.out), Lib.hid (fun q hq => ?_), Lib.hid (HSP8.out.trans HS9.out (fun _ h => .inl (.inl h)))⟩
            rcases HPQ.out q hq with h | h
            · rcases HX2.out.2.1 _ h with h | h
              · right
                obtain ⟨⟨qa, qc⟩, qs⟩ := q
                unfold intV at h
                injection h with e1 e2
                dsimp only at e1 e2
                injection e2 with _ e2
                have e3 : qs = st := by omega
                rw [e3, e1, Nat.min_comm]
                exact HM9.out
              · exact .inl h
            · exact .inr (Nat.le_trans h (HR9.out.up _))
          case measure =>
            rw [HRG9.out.left, HLE2.out]
            exact HX2.out.2.2.2
end Go.Proofs.YtdnhbledndgbcaaGreat
