/-
  What is wrong with the names of a relation, and of all of them, by the index. Conditions: the schema and the index are there.
  The program's unknowns: the first relation that names what is not there. Conditions: the schema and the index are there.
  examine's closure: whether a relation has no level. Conditions: the rows of levels are there.
-/
import Derived.Test.YtdnhbledndgbcaaGreatCRoG
import Derived.Test.YtdnhbledndgbcaaGreatCRoR
import Derived.Test.YtdnhbledndgbcaaGreatCRoI
namespace Go.Proofs.YtdnhbledndgbcaaGreat
open Go.RowKit
theorem orEs_snoc (l : List Nat) (x : Nat) : orEs (l ++ [x]) = orEs [orEs l, x] := by
  induction l with
  | nil => simp [orEs]
  | cons a r ih =>
    have e1 : orEs (a :: r) = if a = 0 then orEs r else a := rfl
    have e2 : orEs ((a :: r) ++ [x]) = if a = 0 then orEs (r ++ [x]) else a := rfl
    rw [e2, e1]
    by_cases h : a = 0
    · rw [if_pos h, if_pos h, ih]
    · rw [if_neg h, if_neg h]
      show a = if a = 0 then _ else a
      rw [if_neg h]
theorem es_two (w : World) (t : TypeId) (a b : Nat) : EsAt (w.alloc (.cells #[.int .i64 (a : Int), .int .i64 (b : Int)] t)) w.heap.size [a, b] := by
  have hk : Blk (w.alloc (.cells #[.int .i64 (a : Int), .int .i64 (b : Int)] t)) w.heap.size [.int .i64 (a : Int), .int .i64 (b : Int)] t := Blk.new _ _ _
  refine ⟨hk.lt, fun j hj => ?_⟩
  simp only [List.length_cons, List.length_nil] at hj
  rcases (by omega : j = 0 ∨ j = 1) with rfl | rfl
  · exact hk.cell (i := 0) (by simp)
  · exact hk.cell (i := 1) (by simp)
set_option maxRecDepth 100000 in
set_option maxHeartbeats 2000000 in
theorem unkLeafC_any (typ : Txt) (e : Ex) (st : Nat) (W : World) (F : Nat → Prop) (cs : List Value) (b : Nat) (L : List (Nk × Value)) (kn : Kn) (h : KnAt W F b L kn) (hB : ∀ x, ((kn x).getD noRel).refs.length ≤ 1000000) (hE : ExAt W F e cs) {b1 b2 b3 : Nat} {t1 t2 t3 : TypeId} {e0 : Nat}
    (h1 : Blk W b1 [.int .i64 (e0 : Int)] t1) (h2 : Blk W b2 [.map (some b)] t2) (h3 : Blk W b3 [strV typ] t3) (hn2 : b1 ≠ b2) (hn3 : b1 ≠ b3) :
    Calls Tryz.prog 78 #[.agg cs.toArray, .int .i64 (st : Int), .pointer (some ⟨b1, 0, none⟩), .pointer (some ⟨b2, 0, none⟩), .pointer (some ⟨b3, 0, none⟩)] W fun r w' => r = .returned (.tuple #[]) ∧ Blk w' b1 [.int .i64 (orEs [e0, leafK kn typ e] : Int)] t1 ∧ Spared W w' (fun x => x = b1) := by
  obtain ⟨kd, nm, ov, ks⟩ := e
  have hE0 := hE
  obtain ⟨E, m, rfl, ⟨⟨k1, k2⟩, -, -, -⟩, -⟩ := hE.row
  show Calls _ _ #[.agg #[.int .i64 kd, strV nm, strV ov, .slice E ks.length m], _, _, _, _] _ _
  obtain ⟨v, hv⟩ : ∃ v, orEs [e0, leafK kn typ (.mk kd nm ov ks)] = v := ⟨_, rfl⟩
  rw [hv]
  have hlf := fun w (hw : Below W.heap.size W w) => unknownLeaf_any typ (.mk kd nm ov ks) w F _ b L kn (h.below hw) hB (hE0.below hw)
  obtain ⟨q, hq⟩ : ∃ q, leafK kn typ (.mk kd nm ov ks) = q := ⟨_, rfl⟩
  rw [hq] at hlf hv
  have HLF : Hid (∀ w, Below W.heap.size W w → Calls Tryz.prog 80 #[.map (some b), strV typ, .agg #[.int .i64 kd, strV nm, strV ov, .slice E ks.length m]] w fun r w' => r = .returned (.int .i64 (q : Int)) ∧ Below w.heap.size w w') := Lib.hid hlf
  have HOR : Hid (∀ w, Calls Tryz.prog 79 #[.slice (some ⟨w.heap.size, 0, none⟩) 2 2] (w.alloc (.cells #[.int .i64 (e0 : Int), .int .i64 (q : Int)] 31)) fun r w' => r = .returned (.int .i64 (v : Int)) ∧ Below w.heap.size w w') := Lib.hid (fun w => by
    have h := orEs_any (w.alloc (.cells #[.int .i64 (e0 : Int), .int .i64 (q : Int)] 31)) w.heap.size 2 [e0, q] (es_two w 31 e0 q) (by simp)
    rw [hv] at h
    exact h.mono (fun r w' hh => ⟨hh.1, ((Below.refl w.heap.size w).alloc (Nat.le_refl _) _).trans (hh.2.mono (by simp))⟩))
  clear hlf hq hE0 hE h
  generalize ks.length = kl at *
  obtain ⟨W1, hW1⟩ : ∃ W1, W1 = W.alloc (.cells #[.int .i64 kd, strV nm, strV ov, .slice E kl m] 44) := ⟨_, rfl⟩
  have hb1 : Below W.heap.size W W1 := by rw [hW1]; exact (Below.refl _ _).alloc (Nat.le_refl _) _
  have hk1 : Blk W1 W.heap.size [.int .i64 kd, strV nm, strV ov, .slice E kl m] 44 := by rw [hW1]; exact Blk.new _ _ _
  have g1 := h1.below hb1 h1.lt
  have g2 := h2.below hb1 h2.lt
  have g3 := h3.below hb1 h3.lt
  have hl1 := h1.lt
  have HL1 := Lib.hid hl1
  have hN : ∀ w : World, Below W1.heap.size W1 w → (w.cell? ⟨b2, 0, none⟩ = some (.map (some b)) ∧ w.cell? ⟨b3, 0, none⟩ = some (strV typ) ∧ (w.cell? ⟨W.heap.size, 0, none⟩ = some (.int .i64 kd) ∧ w.cell? ⟨W.heap.size, 1, none⟩ = some (strV nm) ∧ w.cell? ⟨W.heap.size, 2, none⟩ = some (strV ov) ∧ w.cell? ⟨W.heap.size, 3, none⟩ = some (.slice E kl m))) := fun w hw => by
    have h := hk1.below hw hk1.lt
    exact ⟨(g2.below hw g2.lt).cell (i := 0) (by simp), (g3.below hw g3.lt).cell (i := 0) (by simp), h.cell (i := 0) (by simp), h.cell (i := 1) (by simp), h.cell (i := 2) (by simp), h.cell (i := 3) (by simp)⟩
  have HG1 := Lib.hid g1
  have HN := Lib.hid hN
  have HB1 := Lib.hid hb1
  have HW1 := Lib.hid hW1
  have HNE := Lib.hid (And.intro hn2 hn3)
  clear hN hk1 hW1 g1 g2 g3 h1 h2 h3 hb1 hn2 hn3 hl1
  have HST : Hid (∀ w : World, (w.cell? ⟨b2, 0, none⟩ = some (.map (some b)) ∧ w.cell? ⟨b3, 0, none⟩ = some (strV typ) ∧ (w.cell? ⟨W.heap.size, 0, none⟩ = some (.int .i64 kd) ∧ w.cell? ⟨W.heap.size, 1, none⟩ = some (strV nm) ∧ w.cell? ⟨W.heap.size, 2, none⟩ = some (strV ov) ∧ w.cell? ⟨W.heap.size, 3, none⟩ = some (.slice E kl m))) → ((w.setCell ⟨b1, 0, none⟩ (.int .i64 (v : Int))).cell? ⟨b2, 0, none⟩ = some (.map (some b)) ∧ (w.setCell ⟨b1, 0, none⟩ (.int .i64 (v : Int))).cell? ⟨b3, 0, none⟩ = some (strV typ) ∧ ((w.setCell ⟨b1, 0, none⟩ (.int .i64 (v : Int))).cell? ⟨W.heap.size, 0, none⟩ = some (.int .i64 kd) ∧ (w.setCell ⟨b1, 0, none⟩ (.int .i64 (v : Int))).cell? ⟨W.heap.size, 1, none⟩ = some (strV nm) ∧ (w.setCell ⟨b1, 0, none⟩ (.int .i64 (v : Int))).cell? ⟨W.heap.size, 2, none⟩ = some (strV ov) ∧ (w.setCell ⟨b1, 0, none⟩ (.int .i64 (v : Int))).cell? ⟨W.heap.size, 3, none⟩ = some (.slice E kl m)))) := Lib.hid (fun w hw => by
    have hh : ∀ k, k ≠ b1 → (w.setCell ⟨b1, 0, none⟩ (.int .i64 (v : Int))).heap[k]? = w.heap[k]? := fun k hk => Below.heap_setCell _ _ _ _ hk
    have h4 : W.heap.size ≠ b1 := by have := HL1.out; omega
    exact ⟨(World.cell?_of_block (hh _ (Ne.symm HNE.out.1))).trans hw.1, (World.cell?_of_block (hh _ (Ne.symm HNE.out.2))).trans hw.2.1, (World.cell?_of_block (hh _ h4)).trans hw.2.2.1, (World.cell?_of_block (hh _ h4)).trans hw.2.2.2.1, (World.cell?_of_block (hh _ h4)).trans hw.2.2.2.2.1, (World.cell?_of_block (hh _ h4)).trans hw.2.2.2.2.2⟩)
  have hS0 := HN.out W1.drew (Below.refl _ _).drew
  have hc0 : W1.drew.cell? ⟨b1, 0, none⟩ = some (.int .i64 (e0 : Int)) := HG1.out.drew.cell (i := 0) (by simp)
  go_enter Tryz.func78, Tryz.ntmps78
  go_wp2_with fail
  rw [← HW1.out]
  refine wp_region_held_drew (S := fun (w : World) => (w.cell? ⟨b2, 0, none⟩ = some (.map (some b)) ∧ w.cell? ⟨b3, 0, none⟩ = some (strV typ) ∧ (w.cell? ⟨W.heap.size, 0, none⟩ = some (.int .i64 kd) ∧ w.cell? ⟨W.heap.size, 1, none⟩ = some (strV nm) ∧ w.cell? ⟨W.heap.size, 2, none⟩ = some (strV ov) ∧ w.cell? ⟨W.heap.size, 3, none⟩ = some (.slice E kl m)))) (by kernel_rfl) hS0 (fun _ => ?_)
  refine wpAnyH_take (i := 1) (v := .map (some b)) rfl (by kernel_rfl) (by kernel_rfl) (by kernel_rfl) (fun _ _ _ h => h) (Or.inl ⟨by rfl, fun w hw => by (obtain ⟨q1, q2, q3, q4, q5, q6⟩ := hw; go_simp)⟩) hS0 ?_
  simp only [Act.put, List.setIfInBounds_toArray]
  refine wpAnyH_take (i := 2) (v := strV typ) rfl (by kernel_rfl) (by kernel_rfl) (by kernel_rfl) (fun _ _ _ h => h) (Or.inl ⟨by rfl, fun w hw => by (obtain ⟨q1, q2, q3, q4, q5, q6⟩ := hw; go_simp)⟩) hS0 ?_
  simp only [Act.put]
  refine wpAnyH_take (i := 3) (v := .agg #[.int .i64 kd, strV nm, strV ov, .slice E kl m]) rfl (by kernel_rfl) (by kernel_rfl) (by kernel_rfl) (fun _ _ _ h => h) (Or.inl ⟨by rfl, fun w hw => by (obtain ⟨q1, q2, q3, q4, q5, q6⟩ := hw; go_simp)⟩) hS0 ?_
  simp only [Act.put]
  refine wpAnyH_ready (rs := [0, 4]) (by kernel_rfl) (by simp) (AllReadyH.cons rfl (fun K hK => ?_) (AllReadyH.cons rfl (fun K hK => ?_) AllReadyH.nil))
  · go_simp
    refine hK.out _ _ hS0 (fun _ => ?_)
    clear hK K
    refine wpAnyH_ready (rs := [4]) (by kernel_rfl) (by simp) (AllReadyH.cons rfl (fun K hK => ?_) AllReadyH.nil)
    go_simp
    go_wp2_with (go_at_call 80; refine (HLF.out _ HB1.out.drew).mono ?_; rintro r w7 ⟨rfl, hb7⟩; have HB7 := Lib.hid (undrew hb7); clear hb7)
    refine hK.out _ _ (HN.out w7 HB7.out) (fun _ => ?_)
    clear hK K
    refine wpAnyH_ready (rs := [5]) (by kernel_rfl) (by simp) (AllReadyH.cons rfl (fun K hK => ?_) AllReadyH.nil)
    go_simp
    refine hK.out _ _ (HN.out _ (HB7.out.alloc HB7.out.size (.cells #[.int .i64 (e0 : Int), .int .i64 (q : Int)] 31))) (fun _ => ?_)
    clear hK K
    refine wpAnyH_ready (rs := [6]) (by kernel_rfl) (by simp) (AllReadyH.cons rfl (fun K hK => ?_) AllReadyH.nil)
    go_simp
    go_wp2_with (go_at_call 79; with_reducible refine (HOR.out _).mono ?_; rintro r w8 ⟨rfl, hb8⟩; have HB8 := Lib.hid (hop HB7.out hb8); clear hb8)
    refine hK.out _ _ (HN.out w8 HB8.out) (fun _ => ?_)
    clear hK K
    have hk8 := HG1.out.below HB8.out HG1.out.lt
    have hfr := hk8.free 0
    have hc8 := hk8.cell (i := 0) (by simp)
    simp only [List.getElem_cons_zero] at hc8
    refine wpAnyH_ready (rs := [7]) (by kernel_rfl) (by simp) (AllReadyH.cons rfl (fun K hK => ?_) AllReadyH.nil)
    go_simp
    refine hK.out _ _ (HST.out _ (HN.out w8 HB8.out)) (fun _ => ?_)
    clear hK K
    refine wpAnyH_done (by kernel_rfl) ?_ _
    go_wp2_with fail
    go_end0
    refine ⟨rfl, ?_, ?_⟩
    · simpa using hk8.set 0 (.int .i64 (v : Int))
    · exact (Spared.of_below (HB1.out.trans (HB8.out.mono HB1.out.size)) (fun x => x = b1)).setCell (g := b1) rfl 0 _
  · go_simp
    go_wp2_with (go_at_call 80; refine (HLF.out _ HB1.out.drew).mono ?_; rintro r w7 ⟨rfl, hb7⟩; have HB7 := Lib.hid (undrew hb7); clear hb7)
    refine hK.out _ _ (HN.out w7 HB7.out) (fun _ => ?_)
    clear hK K
    have hc7 := (HG1.out.below HB7.out HG1.out.lt).cell (i := 0) (by simp)
    simp only [List.getElem_cons_zero] at hc7
    refine wpAnyH_ready (rs := [0]) (by kernel_rfl) (by simp) (AllReadyH.cons rfl (fun K hK => ?_) AllReadyH.nil)
    go_simp
    refine hK.out _ _ (HN.out w7 HB7.out) (fun _ => ?_)
    clear hK K
    refine wpAnyH_ready (rs := [5]) (by kernel_rfl) (by simp) (AllReadyH.cons rfl (fun K hK => ?_) AllReadyH.nil)
    go_simp
    refine hK.out _ _ (HN.out _ (HB7.out.alloc HB7.out.size (.cells #[.int .i64 (e0 : Int), .int .i64 (q : Int)] 31))) (fun _ => ?_)
    clear hK K
    refine wpAnyH_ready (rs := [6]) (by kernel_rfl) (by simp) (AllReadyH.cons rfl (fun K hK => ?_) AllReadyH.nil)
    go_simp
    go_wp2_with (go_at_call 79; with_reducible refine (HOR.out _).mono ?_; rintro r w8 ⟨rfl, hb8⟩; have HB8 := Lib.hid (hop HB7.out hb8); clear hb8)
    refine hK.out _ _ (HN.out w8 HB8.out) (fun _ => ?_)
    clear hK K
    have hk8 := HG1.out.below HB8.out HG1.out.lt
    have hfr := hk8.free 0
    have hc8 := hk8.cell (i := 0) (by simp)
    simp only [List.getElem_cons_zero] at hc8
    refine wpAnyH_ready (rs := [7]) (by kernel_rfl) (by simp) (AllReadyH.cons rfl (fun K hK => ?_) AllReadyH.nil)
    go_simp
    refine hK.out _ _ (HST.out _ (HN.out w8 HB8.out)) (fun _ => ?_)
    clear hK K
    refine wpAnyH_done (by kernel_rfl) ?_ _
    go_wp2_with fail
    go_end0
    refine ⟨rfl, ?_, ?_⟩
    · simpa using hk8.set 0 (.int .i64 (v : Int))
    · exact (Spared.of_below (HB1.out.trans (HB8.out.mono HB1.out.size)) (fun x => x = b1)).setCell (g := b1) rfl 0 _
def unkR (kn : Kn) (r : Rf) : Bool := !(kn r).isSome
def unkRel (kn : Kn) (typ : Txt) (r : Rl) : Nat :=
  if r.refs.any (unkR kn) then 6 else if r.refs.length = 0 then orEs ((lvsE r.expr 0).map (fun p => leafK kn typ p.1)) else 0
theorem RfAt.shC {W : World} {F : Nat → Prop} (x : Rf) (cs : List Value) (h : RfAt W F x cs) : ShRef cs := ⟨x.1, x.2, h.1⟩
set_option maxRecDepth 100000 in
set_option maxHeartbeats 1000000 in
theorem unkRC_any (x : Rf) (W : World) (F : Nat → Prop) (cs : List Value) (b : Nat) (L : List (Nk × Value)) (kn : Kn) (h : KnAt W F b L kn) {b2 : Nat} {t2 : TypeId} (h2 : Blk W b2 [.map (some b)] t2) (hx : RfAt W F x cs) :
    Calls Tryz.prog 75 #[.agg cs.toArray, .pointer (some ⟨b2, 0, none⟩)] W fun r w' => r = .returned (.bool (unkR kn x)) ∧ Below W.heap.size W w' := by
  obtain ⟨a, c⟩ := x
  obtain ⟨rfl, -, -⟩ := hx
  show Calls _ _ #[.agg #[strV a, strV c], _] _ _
  have hb := (Below.refl W.heap.size W).alloc (Nat.le_refl _) (.cells #[strV a, strV c] 40)
  have HC := Lib.hid (has_any (a, c) _ F b L kn (h.below hb))
  have y0 := (h2.below hb h2.lt).cell (i := 0) (by simp)
  simp only [List.getElem_cons_zero] at y0
  have HB := Lib.hid hb
  unfold unkR
  have HC : Hid (Calls Tryz.prog 76 #[.map (some b), .agg #[strV a, strV c]] (W.alloc (.cells #[strV a, strV c] 40)) fun r w' => r = .returned (.bool (kn (a, c)).isSome) ∧ Below (W.alloc (.cells #[strV a, strV c] 40)).heap.size (W.alloc (.cells #[strV a, strV c] 40)) w') := HC
  obtain ⟨q, hq⟩ : ∃ q, (kn (a, c)).isSome = q := ⟨_, rfl⟩
  rw [hq] at HC ⊢
  clear h h2 hb hq
  go_enter Tryz.func75, Tryz.ntmps75
  go_wp2_with (go_at_call 76; refine HC.out.mono ?_; rintro r w5 ⟨rfl, hb5⟩; have HB5 := Lib.hid (hop HB.out hb5); clear hb5)
  go_ret
  exact ⟨rfl, HB5.out⟩
set_option maxRecDepth 100000 in
theorem enter_unkRC (args : Array Value) (w : World) : (callFunc 75 args).run Tryz.prog w = .ok (.enter 75 args) w := rfl
set_option maxRecDepth 100000 in
theorem enter_unkLC (args : Array Value) (w : World) : (callFunc 78 args).run Tryz.prog w = .ok (.enter 78 args) w := rfl
set_option maxRecDepth 100000 in
set_option maxHeartbeats 2000000 in
theorem unknown_any (typ : Txt) (x : Rl) (W : World) (F : Nat → Prop) (cs : List Value) (b : Nat) (L : List (Nk × Value)) (kn : Kn) (h : KnAt W F b L kn) (hB : ∀ x, ((kn x).getD noRel).refs.length ≤ 1000000) (hx : RlAt W F x cs) :
    Calls Tryz.prog 59 #[.map (some b), strV typ, .agg cs.toArray] W fun r w' => r = .returned (.int .i64 (unkRel kn typ x : Int)) ∧ Below W.heap.size W w' := by
  have hmf : ∀ (fn : Fn) (first cap : Array Value) (w : World), (Instr.makeFunc fn first cap).run Tryz.prog w = .ok (.func fn first cap) w := fun _ _ _ _ => rfl
  obtain ⟨A, c, k, n, o, E, m, c', rfl, ⟨-, hl⟩, hr, he⟩ := hx.six
  show Calls _ _ #[.map (some b), strV typ, .agg #[strV x.name, .slice A x.refs.length c, .int .i64 k, strV n, strV o, .slice E m c']] _ _
  obtain ⟨v, hv⟩ : ∃ v, v = unkRel kn typ x := ⟨_, rfl⟩
  rw [← hv]
  unfold unkRel at hv
  obtain ⟨W1, hW1⟩ : ∃ W1, W1 = ((W.alloc (.cells #[.map (some b)] 66)).alloc (.cells #[strV typ] 9)).alloc (.cells #[strV x.name, .slice A x.refs.length c, .int .i64 k, strV n, strV o, .slice E m c'] 46) := ⟨_, rfl⟩
  have hb1 : Below W.heap.size W W1 := by rw [hW1]; exact (((Below.refl _ _).alloc (Nat.le_refl _) _).alloc (by simp) _).alloc (by simp; omega) _
  have hk1 : Blk W1 W.heap.size [.map (some b)] 66 := by rw [hW1]; exact ((Blk.new _ _ _).alloc _).alloc _
  have hk2 : Blk W1 (W.heap.size + 1) [strV typ] 9 := by
    rw [hW1]
    have := (Blk.new (W.alloc (.cells #[.map (some b)] 66)) [strV typ] 9).alloc (.cells #[strV x.name, .slice A x.refs.length c, .int .i64 k, strV n, strV o, .slice E m c'] 46)
    rw [World.size_alloc] at this
    exact this
  have hk3 : Blk W1 (W.heap.size + 2) [strV x.name, .slice A x.refs.length c, .int .i64 k, strV n, strV o, .slice E m c'] 46 := by
    rw [hW1]
    have := Blk.new ((W.alloc (.cells #[.map (some b)] 66)).alloc (.cells #[strV typ] 9)) [strV x.name, .slice A x.refs.length c, .int .i64 k, strV n, strV o, .slice E m c'] 46
    rw [World.size_alloc, World.size_alloc] at this
    exact this
  have HX : Hid (∀ w, Below W1.heap.size W1 w → w.cell? ⟨W.heap.size + 2, 1, none⟩ = some (.slice A x.refs.length c) ∧ w.cell? ⟨W.heap.size + 2, 2, none⟩ = some (.int .i64 k) ∧ w.cell? ⟨W.heap.size + 2, 3, none⟩ = some (strV n) ∧ w.cell? ⟨W.heap.size + 2, 4, none⟩ = some (strV o) ∧ w.cell? ⟨W.heap.size + 2, 5, none⟩ = some (.slice E m c')) := Lib.hid (fun w hw => by
    have h1 := hk3.below hw hk3.lt
    exact ⟨h1.cell (i := 1) (by simp), h1.cell (i := 2) (by simp), h1.cell (i := 3) (by simp), h1.cell (i := 4) (by simp), h1.cell (i := 5) (by simp)⟩)
  have hask : EAskC 2 75 (fun v => #[v, .pointer (some ⟨W.heap.size, 0, none⟩)]) ShRef (unkR kn) W1 A x.refs :=
    RowAt.asksC (RowAt.moved (Spared.of_below hb1 F) (fun _ h => .inl h) (fun _ _ _ h => h) hr) RfAt.shC (fun y _ cs hcs w hw => unkRC_any y w F cs b L kn (h.below (hb1.trans (hw.mono hb1.size))) (hk1.below hw hk1.lt) hcs)
  have HIX := Lib.hid (indexC_Ref1 enter_unkRC c hask hl)
  have hany := atN_any (unkR kn) x.refs 0
  obtain ⟨x0, -⟩ := HX.out W1 (Below.refl _ _)
  have HF : Hid (∀ w, Below W1.heap.size W1 w → Below W.heap.size W w) := Lib.hid (fun w hw => hb1.trans (hw.mono hb1.size))
  have HW1 := Lib.hid hW1
  rw [hW1] at x0
  have HZ1 : Hid (W1.heap.size = W.heap.size + 3) := by rw [hW1]; exact Lib.hid (by simp)
  clear hask hr
  obtain ⟨q, hq⟩ : ∃ q, atN (unkR kn) x.refs 0 = q := ⟨_, rfl⟩
  rw [hq] at HIX hany
  by_cases hqa : x.refs.any (unkR kn) = true
  · have HV : Hid (v = 6) := Lib.hid (by rw [hv, if_pos hqa])
    have hq0 : 0 ≤ q := hany.2 hqa
    clear hany hqa hv hq h hx he hb1 hk1 hk2 hk3 hW1 hB
    go_enter Tryz.func59, Tryz.ntmps59
    go_wp2_with (go_at_call 74; rw [← HW1.out]; refine HIX.out.mono ?_; rintro r w5 ⟨rfl, hb5⟩; have HB5 := Lib.hid hb5; clear hb5)
    go_ret
    exact ⟨by rw [HV.out]; rfl, HF.out _ HB5.out⟩
  rw [if_neg hqa] at hv
  have hq0 : ¬ 0 ≤ q := fun h => hqa (hany.1 h)
  have hq1 : q < 0 := by omega
  clear hany hqa hq
  by_cases hr0 : x.refs.length = 0
  · rw [if_pos hr0] at hv
    have HLV : Hid (∀ w5, Below W1.heap.size W1 w5 → Calls Tryz.prog 77 #[.agg #[.int .i64 k, strV n, strV o, .slice E m c'], .int .i64 0, .func (.func 78) #[] #[.pointer (some ⟨w5.heap.size, 0, none⟩), .pointer (some ⟨W.heap.size, 0, none⟩), .pointer (some ⟨W.heap.size + 1, 0, none⟩)]] (w5.alloc (.cells #[.int .i64 0] 31)) fun r w' => r = .returned (.tuple #[]) ∧ Blk w' w5.heap.size [.int .i64 (v : Int)] 31 ∧ Spared (w5.alloc (.cells #[.int .i64 0] 31)) w' (fun x => x = w5.heap.size)) := Lib.hid (fun w5 hw5 => by
      have hb6 : Below W1.heap.size W1 (w5.alloc (.cells #[.int .i64 0] 31)) := hw5.alloc hw5.size _
      have hbw := hb1.trans (hb6.mono hb1.size)
      have hf6 : Blk (w5.alloc (.cells #[.int .i64 0] 31)) w5.heap.size [.int .i64 0] 31 := Blk.new _ _ _
      have hn1 : w5.heap.size ≠ W.heap.size := by have := hw5.size; have := HZ1.out; omega
      have hn2 : w5.heap.size ≠ W.heap.size + 1 := by have := hw5.size; have := HZ1.out; omega
      have hWm : W.heap.size ≤ w5.heap.size := by have := hw5.size; have := HZ1.out; omega
      generalize w5.alloc (.cells #[.int .i64 0] 31) = w6 at *
      generalize w5.heap.size = b1 at *
      have hkn6 : KnAt w6 (fun x => x = b1) b L kn := ⟨h.map.below hbw, h.no, fun y r hy => by
        obtain ⟨cs, e1, e2⟩ := h.yes y r hy
        exact ⟨cs, e1, e2.moved (Spared.of_below hbw F) (fun i hi => .inr (by rw [hi]; exact hWm))⟩⟩
      have hbb : b ≠ b1 := by have := h.map.lt; omega
      have he6 : ExAt w6 (fun x => x = b1) x.expr [.int .i64 k, strV n, strV o, .slice E m c'] := ExAt.moved (Spared.of_below hbw F) (fun i hi => .inr (by rw [hi]; exact hWm)) _ _ he
      have g1 := hk1.below hb6 hk1.lt
      have g2 := hk2.below hb6 hk2.lt
      have hlv := leaves_any enter_unkLC (p1 := .pointer (some ⟨b1, 0, none⟩)) (p2 := .pointer (some ⟨W.heap.size, 0, none⟩)) (p3 := .pointer (some ⟨W.heap.size + 1, 0, none⟩)) w6 (fun x => x = b1)
        (fun (l : List (Ex × Nat)) (w : World) => Blk w b1 [.int .i64 (orEs (l.map (fun (p : Ex × Nat) => leafK kn typ p.1)) : Int)] 31 ∧ Spared w6 w (fun x => x = b1)) (fun k hk => by rw [hk]; exact hf6.lt) (fun l w hi => hi.2)
        (fun l w w' hi hbl => ⟨hi.1.below hbl hi.1.lt, hi.2.trans (Spared.of_below hbl (fun _ => False)) (fun _ h => h.elim)⟩)
        (fun l w y st cs hi hy _ => by
          have hq := unkLeafC_any typ y st w (fun x => x = b1) cs b L kn (hkn6.spared hi.2 (fun _ h => h) hbb) hB hy hi.1 (hi.2.blk g1 (Ne.symm hn1)) (hi.2.blk g2 (Ne.symm hn2)) hn1 hn2
          refine hq.mono (fun r w' hh => ⟨hh.1, ⟨?_, hi.2.trans hh.2.2 (fun _ h => .inl h)⟩, Nomap.of_spared hh.2.2⟩)
          rw [List.map_append, List.map_cons, List.map_nil, orEs_snoc]
          exact hh.2.1)
        x.expr 0 [] w6 _ (Nat.zero_le _) he6 ⟨hf6, Spared.refl _ _⟩
      rw [hv]
      exact hlv.mono (fun r w' hh => ⟨hh.1, hh.2.1.1, hh.2.1.2⟩))
    have hd0 : ((x.refs.length : Int) == 0) = true := beq_iff_eq.2 (by omega)
    clear hv h hx he hb1 hk1 hk2 hk3 hW1 hB hr0
    generalize x.refs.length = rl at *
    go_enter Tryz.func59, Tryz.ntmps59
    go_wp2_with (first
      | (go_at_call 74; rw [← HW1.out]; refine HIX.out.mono ?_; rintro r w5 ⟨rfl, hb5⟩; have HB5 := Lib.hid hb5; have HL5 := Lib.hid (HLV.out w5 hb5); have HB6 := Lib.hid (hb5.alloc hb5.size (.cells #[.int .i64 0] 31)); obtain ⟨y0, y1, y2, y3, y4⟩ := HX.out _ HB6.out; clear hb5)
      | (go_at_call 77; refine HL5.out.mono ?_; rintro r w7 ⟨rfl, hk7, hs7⟩; have z0 := hk7.cell (i := 0) (by simp); simp only [List.getElem_cons_zero] at z0; have HS7 := Lib.hid hs7; clear hk7 hs7))
    go_ret
    refine ⟨rfl, HS7.out.below (HF.out _ HB6.out) (fun k hk => ?_)⟩
    have h1 := (HF.out _ HB5.out).size
    rw [hk]
    exact h1
  · have HV : Hid (v = 0) := Lib.hid (by rw [hv, if_neg hr0])
    have hd0 : ((x.refs.length : Int) == 0) = false := beq_eq_false_iff_ne.2 (by omega)
    clear hv h hx he hb1 hk1 hk2 hk3 hW1 hB hr0
    generalize x.refs.length = rl at *
    go_enter Tryz.func59, Tryz.ntmps59
    go_wp2_with (go_at_call 74; rw [← HW1.out]; refine HIX.out.mono ?_; rintro r w5 ⟨rfl, hb5⟩; have HB5 := Lib.hid hb5; have HB6 := Lib.hid (hb5.alloc hb5.size (.cells #[.int .i64 0] 31)); obtain ⟨y0, -⟩ := HX.out _ HB6.out; clear hb5)
    go_ret
    exact ⟨by rw [HV.out]; rfl, HF.out _ HB6.out⟩
end Go.Proofs.YtdnhbledndgbcaaGreat
namespace Go.Proofs.YtdnhbledndgbcaaGreat
open Go.RowKit
def unkF (kn : Kn) (s : Sc) (i j : Nat) : Nat := unkRel kn (nameT s i) (relAt s (i : Int) (j : Int))
theorem relAt_at {s : Sc} {i j : Nat} (hi : i < s.length) (hj : j < s[i].rels.length) : relAt s (i : Int) (j : Int) = s[i].rels[j] := by
  unfold relAt
  rw [ofT_at hi, Int.toNat_natCast, List.getElem?_eq_getElem hj]; rfl
set_option maxRecDepth 100000 in
set_option maxHeartbeats 2000000 in
theorem unkC_any (s : Sc) (F : Nat → Prop) (A : Option Addr) (c : Nat) (W : World) (b : Nat) (L : List (Nk × Value)) (kn : Kn) (h : KnAt W F b L kn) (hB : ∀ x, ((kn x).getD noRel).refs.length ≤ 1000000) {b1 b2 : Nat} {t2 : TypeId} {i j : Nat} (hi : i < s.length) (hj : j < s[i].rels.length)
    (h1 : b1 < W.heap.size ∧ W.cell? ⟨b1, 0, none⟩ = some (.slice A s.length c)) (h2 : Blk W b2 [.map (some b)] t2) (hs : ScAt W F A s) (_ : s.length ≤ 9223372036854775807) :
    Calls Tryz.prog 58 #[.int .i64 (i : Int), .int .i64 (j : Int), .pointer (some ⟨b1, 0, none⟩), .pointer (some ⟨b2, 0, none⟩)] W fun r w' => r = .returned (.int .i64 (unkF kn s i j : Int)) ∧ Below W.heap.size W w' := by
  obtain ⟨v, hv⟩ : ∃ v, v = unkF kn s i j := ⟨_, rfl⟩
  rw [← hv]
  unfold unkF at hv
  rw [nameT_at hi, relAt_at hi hj] at hv
  obtain ⟨b0, off, B, d, rfl, ⟨_, hrl⟩, hr, hc⟩ := RowAt.ty hs hi
  obtain ⟨y0, y1⟩ := hc W (Below.refl _ _)
  obtain ⟨g, og, n1, B1, m1, c1, k1, p1, q1, E1, m2, c2, rfl, hE, hcells⟩ := RowAt.rel hr hj
  have hx0 := h1.2
  generalize s[i].name = nm at *
  generalize s[i].rels = rs at *
  obtain ⟨W1, hW1⟩ : ∃ W1, W1 = W.alloc (.cells #[strV nm, .slice (some ⟨g, og, none⟩) rs.length d] 38) := ⟨_, rfl⟩
  have hb1 : Below W.heap.size W W1 := by rw [hW1]; exact (Below.refl _ _).alloc (Nat.le_refl _) _
  have hk1 : Blk W1 W.heap.size [strV nm, .slice (some ⟨g, og, none⟩) rs.length d] 38 := by rw [hW1]; exact Blk.new _ _ _
  have hN : ∀ w : World, Below W1.heap.size W1 w → (w.cell? ⟨b2, 0, none⟩ = some (.map (some b)) ∧ w.cell? ⟨W.heap.size, 0, none⟩ = some (strV nm) ∧ w.cell? ⟨W.heap.size, 1, none⟩ = some (.slice (some ⟨g, og, none⟩) rs.length d) ∧ (w.cell? ⟨g, og + j * 6, none⟩ = some (strV n1) ∧ w.cell? ⟨g, og + j * 6 + 1, none⟩ = some (.slice B1 m1 c1) ∧ w.cell? ⟨g, og + j * 6 + 2, none⟩ = some (.int .i64 k1) ∧ w.cell? ⟨g, og + j * 6 + 3, none⟩ = some (strV p1) ∧ w.cell? ⟨g, og + j * 6 + 4, none⟩ = some (strV q1) ∧ w.cell? ⟨g, og + j * 6 + 5, none⟩ = some (.slice E1 m2 c2))) := fun w hw => by
    have h3 := hk1.below hw hk1.lt
    have h4 := (h2.below hb1 h2.lt).below hw (h2.below hb1 h2.lt).lt
    have h5 := hcells w (hb1.trans (hw.mono hb1.size))
    exact ⟨h4.cell (i := 0) (by simp), h3.cell (i := 0) (by simp), h3.cell (i := 1) (by simp), h5⟩
  have HC : Hid (Calls Tryz.prog 59 #[.map (some b), strV nm, .agg #[strV n1, .slice B1 m1 c1, .int .i64 k1, strV p1, strV q1, .slice E1 m2 c2]] W1.drew fun r w' => r = .returned (.int .i64 (v : Int)) ∧ Below W1.drew.heap.size W1.drew w') := Lib.hid (by
    rw [hv]
    exact unknown_any nm rs[j] W1.drew F _ b L kn (h.below hb1.drew) hB (hE.below hb1.drew))
  have HN := Lib.hid hN
  have HB1 := Lib.hid hb1
  have HW1 := Lib.hid hW1
  clear hv h hB h1 h2 hs hr hc hE hcells hN hk1 hb1 hW1
  have hS0 := HN.out W1.drew (Below.refl _ _).drew
  go_enter Tryz.func58, Tryz.ntmps58
  go_wp2_with fail
  rw [← HW1.out]
  go_region_held_law (fun (w : World) => (w.cell? ⟨b2, 0, none⟩ = some (.map (some b)) ∧ w.cell? ⟨W.heap.size, 0, none⟩ = some (strV nm) ∧ w.cell? ⟨W.heap.size, 1, none⟩ = some (.slice (some ⟨g, og, none⟩) rs.length d) ∧ (w.cell? ⟨g, og + j * 6, none⟩ = some (strV n1) ∧ w.cell? ⟨g, og + j * 6 + 1, none⟩ = some (.slice B1 m1 c1) ∧ w.cell? ⟨g, og + j * 6 + 2, none⟩ = some (.int .i64 k1) ∧ w.cell? ⟨g, og + j * 6 + 3, none⟩ = some (strV p1) ∧ w.cell? ⟨g, og + j * 6 + 4, none⟩ = some (strV q1) ∧ w.cell? ⟨g, og + j * 6 + 5, none⟩ = some (.slice E1 m2 c2))))
    (with_reducible assumption)
    (first | (go_at_call 59; refine HC.out.mono ?_; rintro r w7 ⟨rfl, hb7⟩; have HB7 := Lib.hid (undrew hb7); have hS7 := HN.out w7 HB7.out; clear hb7))
  go_wp2_with fail
  go_ret
  exact ⟨rfl, HB1.out.trans (HB7.out.mono HB1.out.size)⟩
set_option maxRecDepth 100000 in
theorem enter_unkC (args : Array Value) (w : World) : (callFunc 58 args).run Tryz.prog w = .ok (.enter 58 args) w := rfl
def unkS (kn : Kn) (s : Sc) : Fa := frN (unkF kn s) s 0
set_option maxRecDepth 100000 in
set_option maxHeartbeats 2000000 in
theorem unknowns_any (s : Sc) (F : Nat → Prop) (A : Option Addr) (c : Nat) (hl : s.length ≤ 9223372036854775807) (W : World) (hs : ScAt W F A s) (b : Nat) (L : List (Nk × Value)) (kn : Kn) (h : KnAt W F b L kn) (hB : ∀ x, ((kn x).getD noRel).refs.length ≤ 1000000) :
    Calls Tryz.prog 29 #[.map (some b), .agg #[.slice A s.length c]] W fun r w' => r = .returned (faV (unkS kn s)) ∧ Below W.heap.size W w' := by
  have hmf : ∀ (fn : Fn) (first cap : Array Value) (w : World), (Instr.makeFunc fn first cap).run Tryz.prog w = .ok (.func fn first cap) w := fun _ _ _ _ => rfl
  obtain ⟨v, hv⟩ : ∃ v, v = unkS kn s := ⟨_, rfl⟩
  rw [← hv]
  unfold unkS at hv
  obtain ⟨W1, hW⟩ : ∃ W1, W1 = ((W.alloc (.cells #[.map (some b)] 66)).alloc (.cells #[.slice A s.length c] 24)).alloc (.cells #[.int .i64 0, .int .i64 0, .int .i64 0] 33) := ⟨_, rfl⟩
  have hb1 : Below W.heap.size W W1 := by rw [hW]; exact (((Below.refl _ _).alloc (Nat.le_refl _) _).alloc (by simp) _).alloc (by simp; omega) _
  have hk1 : Blk W1 W.heap.size [.map (some b)] 66 := by rw [hW]; exact ((Blk.new _ _ _).alloc _).alloc _
  have hk2 : Blk W1 (W.heap.size + 1) [.slice A s.length c] 24 := by
    rw [hW]
    have := (Blk.new (W.alloc (.cells #[.map (some b)] 66)) [.slice A s.length c] 24).alloc (.cells #[.int .i64 0, .int .i64 0, .int .i64 0] 33)
    rw [World.size_alloc] at this
    exact this
  have hk3 : Blk W1 (W.heap.size + 2) [.int .i64 0, .int .i64 0, .int .i64 0] 33 := by
    rw [hW]
    have := Blk.new ((W.alloc (.cells #[.map (some b)] 66)).alloc (.cells #[.slice A s.length c] 24)) [.int .i64 0, .int .i64 0, .int .i64 0] 33
    rw [World.size_alloc, World.size_alloc] at this
    exact this
  have HX : Hid (∀ w, Below W1.heap.size W1 w → w.cell? ⟨W.heap.size + 2, 0, none⟩ = some (.int .i64 0) ∧ w.cell? ⟨W.heap.size + 2, 1, none⟩ = some (.int .i64 0) ∧ w.cell? ⟨W.heap.size + 2, 2, none⟩ = some (.int .i64 0) ∧ w.frozen? ⟨W.heap.size + 2, 0, none⟩ = false ∧ w.frozen? ⟨W.heap.size + 2, 1, none⟩ = false ∧ w.frozen? ⟨W.heap.size + 2, 2, none⟩ = false) := Lib.hid (fun w hw => by
    have h2 := hk3.below hw hk3.lt
    exact ⟨h2.cell (i := 0) (by simp), h2.cell (i := 1) (by simp), h2.cell (i := 2) (by simp), h2.free 0, h2.free 1, h2.free 2⟩)
  have HF : Hid (∀ w, Below W1.heap.size W1 w → Below W.heap.size W w) := Lib.hid (fun w hw => hb1.trans (hw.mono hb1.size))
  have HFR := Lib.hid (firstRel2_any s F A c hl W1 (hs.below hb1) enter_unkC (p1 := .pointer (some ⟨W.heap.size + 1, 0, none⟩)) (p2 := .pointer (some ⟨W.heap.size, 0, none⟩)) (unkF kn s) (fun w hw i hi k hk =>
    unkC_any s F A c w b L kn (h.below (HF.out w hw)) hB hi hk ⟨(hk2.below hw hk2.lt).lt, (hk2.below hw hk2.lt).cell (i := 0) (by simp)⟩ (hk1.below hw hk1.lt) (hs.below (HF.out w hw)) hl))
  have x0 := hk2.cell (i := 0) (by simp)
  simp only [List.getElem_cons_zero] at x0
  rw [hW] at x0
  rw [← hv] at HFR
  have HW := Lib.hid hW
  clear hW hs hv h hk1 hk2 hk3 hb1
  obtain ⟨z1, z2, z3⟩ := v
  go_enter Tryz.func29, Tryz.ntmps29
  go_wp2_with (go_at_call 31; rw [← HW.out]; refine HFR.out.mono ?_; rintro r w5 ⟨rfl, hb5⟩; have HB5 := Lib.hid hb5; obtain ⟨v0, v1, v2, f0, f1, f2⟩ := HX.out w5 hb5; clear hb5)
  refine bodyPost_ret (v := .agg #[.int .i64 z1, .int .i64 z2, .int .i64 (z3 : Int)]) (by simp [results, Tryz.results29, go_sem, v0, v1, v2]) rfl ?_
  exact ⟨rfl, (((HF.out w5 HB5.out).setCell (p := ⟨W.heap.size + 2, 0, none⟩) (by simp) _).setCell (p := ⟨W.heap.size + 2, 1, none⟩) (by simp) _).setCell (p := ⟨W.heap.size + 2, 2, none⟩) (by simp) _⟩
end Go.Proofs.YtdnhbledndgbcaaGreat
namespace Go.Proofs.YtdnhbledndgbcaaGreat
open Go.RowKit
def exF (ls : List (List Nat)) (most : Nat) (i j : Nat) : Nat := if ((ls[i]?).getD [])[j]? = some most then 11 else 0
theorem IlAt.at {w : World} {F : Nat → Prop} {A : Option Addr} {ls : List (List Nat)} (h : IlAt w F A ls) {i j : Nat} (hi : i < ls.length) (hj : j < ls[i].length) :
    ∃ b off b1 off1 c1, A = some ⟨b, off, none⟩ ∧ b < w.heap.size ∧ w.cell? ⟨b, off + i, none⟩ = some (.slice (some ⟨b1, off1, none⟩) ls[i].length c1) ∧ b1 < w.heap.size ∧ w.cell? ⟨b1, off1 + j, none⟩ = some (nv ls[i][j]) := by
  rcases h with h | ⟨b, off, hA, hlt, hF, hc⟩
  · subst h; simp at hi
  · obtain ⟨cs, ⟨A1, c1, rfl, h1⟩, h2⟩ := hc i hi
    rcases h1 with h1 | ⟨b1, off1, rfl, hlt1, hF1, hc1⟩
    · rw [h1] at hj; simp at hj
    · obtain ⟨cs1, h3, h4⟩ := hc1 j hj
      have h5 := h2 0 (by omega)
      have h6 := h4 0 (by omega)
      rw [h3] at h6
      refine ⟨b, off, b1, off1, c1, hA, hlt, ?_, hlt1, ?_⟩
      · simpa using h5
      · simpa using h6
set_option maxRecDepth 100000 in
set_option maxHeartbeats 2000000 in
theorem exC_any (ls : List (List Nat)) (most : Nat) (W : World) (F : Nat → Prop) (A : Option Addr) (c : Nat) {b2 b3 : Nat} {t2 t3 : TypeId} {i j : Nat} (hi : i < ls.length) (hj : j < ls[i].length) (h2 : Blk W b2 [.slice A ls.length c] t2) (h3 : Blk W b3 [nv most] t3) (h : IlAt W F A ls) :
    Calls Tryz.prog 32 #[.int .i64 (i : Int), .int .i64 (j : Int), .pointer (some ⟨b2, 0, none⟩), .pointer (some ⟨b3, 0, none⟩)] W fun r w' => r = .returned (.int .i64 (exF ls most i j : Int)) ∧ Below W.heap.size W w' := by
  obtain ⟨b, off, b1, off1, c1, rfl, hlb, hx1, hlb1, hx2⟩ := h.at hi hj
  have hv : exF ls most i j = if ls[i][j] = most then 11 else 0 := by
    unfold exF
    rw [List.getElem?_eq_getElem hi, Option.getD_some, List.getElem?_eq_getElem hj]
    simp
  rw [hv]
  have hli : ls[i].length = ls[i].length := rfl
  generalize ls[i][j] = val at *
  generalize ls[i].length = n at *
  have hN : ∀ w : World, Below W.heap.size W w → (w.cell? ⟨b2, 0, none⟩ = some (.slice (some ⟨b, off, none⟩) ls.length c) ∧ w.cell? ⟨b, off + i, none⟩ = some (.slice (some ⟨b1, off1, none⟩) n c1) ∧ w.cell? ⟨b1, off1 + j, none⟩ = some (.int .i64 (val : Int)) ∧ w.cell? ⟨b3, 0, none⟩ = some (.int .i64 (most : Int))) := fun w hw => by
    have hs : Spared W w (fun _ => False) := Spared.of_below hw _
    exact ⟨(h2.below hw h2.lt).cell (i := 0) (by simp), (hs.cellOf hlb id (off + i)).trans hx1, (hs.cellOf hlb1 id (off1 + j)).trans hx2, (h3.below hw h3.lt).cell (i := 0) (by simp)⟩
  have hS0 := hN W.drew (Below.refl _ _).drew
  have HN := Lib.hid hN
  obtain ⟨q, hq⟩ : ∃ q, q = decide (val = most) := ⟨_, rfl⟩
  have hq1 : ((val : Int) == (most : Int)) = q := by
    rw [hq]
    by_cases h : val = most
    · simp [h]
    · have h9 : ¬ (val : Int) = (most : Int) := by omega
      simp [h, h9]
  have hq2 : decide ((val : Int) = (most : Int)) = q := by rw [← hq1]; rfl
  have HC : Hid (Calls Tryz.prog 33 #[.bool q, .int .i64 11] W.drew fun r w' => r = .returned (.int .i64 ((if q then 11 else 0 : Nat) : Int)) ∧ Below W.drew.heap.size W.drew w') := Lib.hid (when_any q 11 W.drew)
  have HV : Hid ((if val = most then 11 else 0 : Nat) = (if q then 11 else 0)) := Lib.hid (by rw [hq]; by_cases h : val = most <;> simp [h])
  have hil : (i : Int) < (ls.length : Int) := by omega
  have hjl : (j : Int) < (n : Int) := by omega
  generalize ls.length = m at *
  clear hN h h2 h3 hx1 hx2 hv hli hq
  rw [HV.out]
  clear HV
  generalize (if q = true then 11 else 0 : Nat) = res at *
  go_enter Tryz.func32, Tryz.ntmps32
  go_wp2_with fail
  go_region_held_law (fun (w : World) => (w.cell? ⟨b2, 0, none⟩ = some (.slice (some ⟨b, off, none⟩) m c) ∧ w.cell? ⟨b, off + i, none⟩ = some (.slice (some ⟨b1, off1, none⟩) n c1) ∧ w.cell? ⟨b1, off1 + j, none⟩ = some (.int .i64 (val : Int)) ∧ w.cell? ⟨b3, 0, none⟩ = some (.int .i64 (most : Int))))
    (with_reducible assumption)
    (first | (go_at_call 33; refine HC.out.mono ?_; rintro r w7 ⟨rfl, hb7⟩; have HB7 := Lib.hid (undrew hb7); have hS7 := HN.out w7 HB7.out; clear hb7))
  go_wp2_with fail
  go_ret
  exact ⟨rfl, HB7.out⟩
set_option maxRecDepth 100000 in
theorem enter_exC (args : Array Value) (w : World) : (callFunc 32 args).run Tryz.prog w = .ok (.enter 32 args) w := rfl
end Go.Proofs.YtdnhbledndgbcaaGreat
