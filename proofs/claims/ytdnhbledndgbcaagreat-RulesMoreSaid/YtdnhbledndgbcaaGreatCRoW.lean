/-
  dependencies: what a relation depends on, passed on one by one to a closure, by the closure's contract. Conditions: the index is there, and stays so whatever the closure does.
  dependents: for each node those that depend on it, and how far each stands above it. Condition: the index is there.
-/
import Derived.Test.YtdnhbledndgbcaaGreatCRoG
namespace Go.Proofs.YtdnhbledndgbcaaGreat
open Go.RowKit
theorem filter_drop {α : Type} {f : α → Bool} {l : List α} {j : Nat} (h : j < l.length) : (l.drop j).filter f = (if f l[j] then [l[j]] else []) ++ (l.drop (j + 1)).filter f := by
  rw [List.drop_eq_getElem_cons h, List.filter_cons]
  split <;> rfl
theorem cells_of {w : World} {b o : Nat} {v : Value} (h : w.cell? ⟨b, o, none⟩ = some v) : ∀ es c, w.heap[b]? ≠ some (.map es c) := fun es c e => by
  simp [World.cell?, e] at h
theorem RowAt.pairN {W : World} {F1 : Nat → Prop} {A : Option Addr} {ks : List Rf} (h : RowAt 2 RfAt W F1 A ks) {j : Nat} (hj : j < ks.length) {F : Nat → Prop} (hFF : ∀ k, F k → F1 k) :
    ∃ b off, A = some ⟨b, off, none⟩ ∧ ∀ W', Nomap W W' F → W'.cell? ⟨b, off + j * 2, none⟩ = some (strV ks[j].1) ∧ W'.cell? ⟨b, off + j * 2 + 1, none⟩ = some (strV ks[j].2) := by
  rcases h with rfl | ⟨b, off, rfl, hb, hF, hk⟩
  · simp at hj
  · obtain ⟨cs, ⟨rfl, _⟩, h2⟩ := hk j hj
    have c0 := h2 0 (by decide)
    have c1 := h2 1 (by decide)
    refine ⟨b, off, rfl, fun W' hW => ?_⟩
    have hs := hW.block b hb (fun hf => hF (hFF b hf)) (cells_of c0)
    exact ⟨(World.cell?_of_block hs).trans c0, (World.cell?_of_block hs).trans c1⟩
set_option maxRecDepth 100000 in
theorem enter_depC (args : Array Value) (w : World) : (callFunc 105 args).run Tryz.prog w = .ok (.enter 105 args) w := rfl
set_option maxRecDepth 100000 in
set_option maxHeartbeats 4000000 in
theorem deps_any {g : Nat} (eg : ∀ args w, (callFunc g args).run Tryz.prog w = .ok (.enter g args) w) {p1 p2 : Value} (F F1 : Nat → Prop) (b : Nat) (L : List (Nk × Value)) (kn : Kn) (hB : ∀ x, ((kn x).getD noRel).refs.length ≤ 1000000) (I : List (Nk × Nat) → World → Prop) (W : World) (hF : ∀ k, F k → k < W.heap.size) (hFF : ∀ k, F k → F1 k)
    (hS : ∀ l w, I l w → KnAt w F1 b L kn ∧ Spared W w F) (hI : ∀ l w w', I l w → Below w.heap.size w w' → I l w')
    (hp : ∀ l w (on : Nk) (st : Nat), I l w → st ≤ 1 → Calls Tryz.prog g #[.agg #[strV on.1, strV on.2], .int .i64 (st : Int), p1, p2] w fun r w' => r = .returned (.tuple #[]) ∧ I (l ++ [(on, st)]) w' ∧ Nomap w w' F)
    (x : Nk) (r : Rl) (hx : kn x = some r) (l : List (Nk × Nat)) (hl : I l W) :
    Calls Tryz.prog 92 #[.map (some b), .agg #[strV x.1, strV x.2], .func (.func g) #[] #[p1, p2]] W fun e w' => e = .returned (.tuple #[]) ∧ I (l ++ depsK kn x.1 r) w' ∧ Nomap W w' F := by
  have hmf : ∀ (fn : Fn) (first cap : Array Value) (w : World), (Instr.makeFunc fn first cap).run Tryz.prog w = .ok (.func fn first cap) w := fun _ _ _ _ => rfl
  obtain ⟨typ, rn⟩ := x
  obtain ⟨V, hV⟩ : ∃ V, V = l ++ depsK kn typ r := ⟨_, rfl⟩
  show Calls _ _ _ _ fun e w' => e = .returned (.tuple #[]) ∧ I (l ++ depsK kn typ r) w' ∧ Nomap W w' F
  rw [← hV]
  unfold depsK at hV
  obtain ⟨W1, hW1⟩ : ∃ W1, W1 = ((W.alloc (.cells #[.map (some b)] 66)).alloc (.cells #[strV typ, strV rn] 97)).alloc (.cells #[.func (.func g) #[] #[p1, p2]] 126) := ⟨_, rfl⟩
  have hb1 : Below W.heap.size W W1 := by rw [hW1]; exact (((Below.refl _ _).alloc (Nat.le_refl _) _).alloc (by simp) _).alloc (by simp; omega) _
  have hk1 : Blk W1 W.heap.size [.map (some b)] 66 := by rw [hW1]; exact ((Blk.new _ _ _).alloc _).alloc _
  have hk2 : Blk W1 (W.heap.size + 1) [strV typ, strV rn] 97 := by
    rw [hW1]
    have := (Blk.new (W.alloc (.cells #[.map (some b)] 66)) [strV typ, strV rn] 97).alloc (.cells #[.func (.func g) #[] #[p1, p2]] 126)
    rw [World.size_alloc] at this
    exact this
  have hk3 : Blk W1 (W.heap.size + 2) [.func (.func g) #[] #[p1, p2]] 126 := by
    rw [hW1]
    have := Blk.new ((W.alloc (.cells #[.map (some b)] 66)).alloc (.cells #[strV typ, strV rn] 97)) [.func (.func g) #[] #[p1, p2]] 126
    rw [World.size_alloc, World.size_alloc] at this
    exact this
  have hZ1 : W1.heap.size = W.heap.size + 3 := by rw [hW1]; simp
  have hknW := (hS l W hl).1
  obtain ⟨n, A, m, c, k, p, q, E, m', c', hrl, hml, _, hlk⟩ := (hknW.below hb1).look (typ, rn)
  rw [hx] at hrl hml
  simp only [Option.getD_some] at hrl hml
  have hm6 := hB (typ, rn)
  rw [hx] at hm6
  simp only [Option.getD_some] at hm6
  obtain ⟨-, -, ⟨-, hrl2⟩, hrr, hre⟩ := hrl.parts
  have hex : ExAt W F r.expr [.int .i64 k, strV p, strV q, .slice E m' c'] := by
    obtain ⟨cs, h1, h2⟩ := hknW.yes (typ, rn) r hx
    have h3 := run_look hknW.map Tryz.underlying66 (zero_rel W) (typ, rn) false
    have h4 := run_look (hknW.below hb1).map Tryz.underlying66 (zero_rel W1) (typ, rn) false
    rw [h1] at h4
    have h5 : (Instr.lookup 66 (.map (some b)) (nkV (typ, rn)) false).run Tryz.prog W1 = .ok (.agg #[strV n, .slice A m c, .int .i64 k, strV p, strV q, .slice E m' c']) W1 := hlk
    rw [h5] at h4
    injection h4 with h4 _
    have h6 : cs = [strV n, .slice A m c, .int .i64 k, strV p, strV q, .slice E m' c'] := by
      simp only [Option.getD_some, Bool.false_eq_true, if_false, Value.agg.injEq] at h4
      have := congrArg Array.toList h4
      simpa using this.symm
    rw [h6] at h2
    obtain ⟨-, -, -, -, h7⟩ := h2.parts
    exact ExAt.moved (Spared.refl W F1) (fun i hi => .inl (hFF i hi)) _ _ h7
  obtain ⟨W3, hW3⟩ : ∃ W3, W3 = W1.alloc (.cells #[strV n, .slice A m c, .int .i64 k, strV p, strV q, .slice E m' c'] 46) := ⟨_, rfl⟩
  have hb3 : Below W1.heap.size W1 W3 := by rw [hW3]; exact (Below.refl _ _).alloc (Nat.le_refl _) _
  have hk4 : Blk W3 (W.heap.size + 3) [strV n, .slice A m c, .int .i64 k, strV p, strV q, .slice E m' c'] 46 := by rw [hW3, ← hZ1]; exact Blk.new _ _ _
  have hbW3 := hb1.trans (hb3.mono hb1.size)
  have hnF : ∀ k, W.heap.size ≤ k → ¬ F k := fun k hk hf => by have := hF k hf; omega
  have g1 := hk1.below hb3 hk1.lt
  have g2 := hk2.below hb3 hk2.lt
  have g3 := hk3.below hb3 hk3.lt
  have HX : Hid (∀ w, Nomap W3 w F → w.cell? ⟨W.heap.size + 2, 0, none⟩ = some (.func (.func g) #[] #[p1, p2]) ∧ w.cell? ⟨W.heap.size + 3, 1, none⟩ = some (.slice A m c) ∧ w.cell? ⟨W.heap.size + 3, 2, none⟩ = some (.int .i64 k) ∧ w.cell? ⟨W.heap.size + 3, 3, none⟩ = some (strV p) ∧ w.cell? ⟨W.heap.size + 3, 4, none⟩ = some (strV q) ∧ w.cell? ⟨W.heap.size + 3, 5, none⟩ = some (.slice E m' c')) := Lib.hid (fun w hw => by
    have h1 := hw.blk hk4 (hnF _ (by omega))
    have h2 := hw.blk g3 (hnF _ (by omega))
    exact ⟨h2.cell (i := 0) (by simp), h1.cell (i := 1) (by simp), h1.cell (i := 2) (by simp), h1.cell (i := 3) (by simp), h1.cell (i := 4) (by simp), h1.cell (i := 5) (by simp)⟩)
  have HLV : Hid (∀ l0 w, I l0 w → Nomap W3 w F → Calls Tryz.prog 77 #[.agg #[.int .i64 k, strV p, strV q, .slice E m' c'], .int .i64 0, .func (.func 105) #[] #[.pointer (some ⟨W.heap.size + 1, 0, none⟩), .pointer (some ⟨W.heap.size + 2, 0, none⟩), .pointer (some ⟨W.heap.size, 0, none⟩)]] w fun e w' => e = .returned (.tuple #[]) ∧ I (l0 ++ (lvsE r.expr 0).flatMap (leafD kn typ)) w' ∧ Nomap w w' F) := Lib.hid (fun l0 w hl0 hn0 => by
    have hlv := leaves_any enter_depC (p1 := .pointer (some ⟨W.heap.size + 1, 0, none⟩)) (p2 := .pointer (some ⟨W.heap.size + 2, 0, none⟩)) (p3 := .pointer (some ⟨W.heap.size, 0, none⟩)) W F
      (fun (lv : List (Ex × Nat)) (w : World) => I (l0 ++ lv.flatMap (leafD kn typ)) w ∧ Nomap W3 w F) hF (fun lv w hi => (hS _ _ hi.1).2)
      (fun lv w w' hi hbl => ⟨hI _ _ _ hi.1 hbl, hi.2.trans (Nomap.of_below hbl F)⟩)
      (fun lv w y st cs hi hy hst => by
        have hq := depC_any eg F F1 W.heap.size b L kn hB I hF (fun l w h => ⟨(hS l w h).1, (hS l w h).2.size⟩) hI hp y st hst _ w F cs hy hi.1 typ rn (hi.2.blk g2 (hnF _ (by omega))) (hi.2.blk g3 (hnF _ (by omega))) (hi.2.blk g1 (hnF _ (by omega))) ⟨hnF _ (by omega), hnF _ (by omega), hnF _ (by omega)⟩
        refine hq.mono (fun e w' hh => ⟨hh.1, ⟨?_, hi.2.trans hh.2.2⟩, hh.2.2⟩)
        rw [List.flatMap_append, List.flatMap_cons, List.flatMap_nil, List.append_nil, ← List.append_assoc]
        exact hh.2.1)
      r.expr 0 [] w _ (Nat.zero_le _) hex ⟨by simpa using hl0, hn0⟩
    exact hlv.mono (fun e w' hh => ⟨hh.1, by simpa using hh.2.1.1, hh.2.2⟩))
  have hI3 := hI _ _ _ hl hbW3
  have HN3 := Lib.hid (Nomap.of_below hbW3 F)
  have HRR : Hid (RowAt 2 RfAt W3 F1 A r.refs) := Lib.hid (RowAt.moved (Spared.of_below hb3 F1) (fun _ h => .inl h) (fun _ _ _ h => h) hrr)
  have x1 := hk1.cell (i := 0) (by simp)
  have x2 := hk2.cell (i := 0) (by simp)
  have x3 := hk2.cell (i := 1) (by simp)
  simp only [List.getElem_cons_succ, List.getElem_cons_zero] at x1 x2 x3
  rw [hW1] at x1 x2 x3 hlk
  have HI3 := Lib.hid hI3
  have HII := Lib.hid hI
  have HP := Lib.hid hp
  have HFF := Lib.hid hFF
  have HW13 : Hid (W3 = (((W.alloc (.cells #[.map (some b)] 66)).alloc (.cells #[strV typ, strV rn] 97)).alloc (.cells #[.func (.func g) #[] #[p1, p2]] 126)).alloc (.cells #[strV n, .slice A m c, .int .i64 k, strV p, strV q, .slice E m' c'] 46)) := Lib.hid (by rw [hW3, hW1])
  have HV : Hid (V = l ++ (((r.refs.drop 0).filter (fun f => decide (f.2 ≠ []))).map (fun f => (f, 0)) ++ (if r.refs.length = 0 then (lvsE r.expr 0).flatMap (leafD kn typ) else []))) := Lib.hid (by rw [hV, List.drop_zero])
  obtain ⟨y0, y1, y2, y3, y4, y5⟩ := HX.out W3 (Nomap.refl _ _)
  rw [HW13.out] at y1
  subst hml
  clear hx hl hS hI hp hB hF hFF hV hb1 hk1 hk2 hk3 hZ1 hknW hrl hrr hre hex hb3 hk4 hbW3 hnF g1 g2 g3 hI3 y0 y2 y3 y4 y5 hW3 hW1
  generalize (lvsE r.expr 0).flatMap (leafD kn typ) = LVS at *
  generalize r.refs = rf at *
  go_enter Tryz.func92, Tryz.ntmps92
  go_wp2_with fail
  rw [← HW13.out]
  go_loopw [15] (fun i wr => ∃ (j : Nat) (l2 : List (Nk × Nat)), j ≤ rf.length ∧ i = .int .i64 j ∧ Hid (V = l2 ++ (((rf.drop j).filter (fun f => decide (f.2 ≠ []))).map (fun f => (f, 0)) ++ (if rf.length = 0 then LVS else []))) ∧ Hid (I l2 wr) ∧ Hid (Nomap W3 wr F)) (fun i _ => rf.length - (intOf i).toNat)
  case atStart => exact ⟨0, l, by omega, rfl, HV, HI3, Lib.hid (Nomap.refl _ _)⟩
  case round =>
    obtain ⟨j, l2, hj, rfl, H, HI2, HN2⟩ := hrel
    obtain ⟨y0, y1, y2, y3, y4, y5⟩ := HX.out wr HN2.out
    by_cases hlt : j < rf.length
    · obtain ⟨b9, off9, rfl, hc9⟩ := HRR.out.pairN hlt HFF.out
      obtain ⟨q0, q1⟩ := hc9 wr HN2.out
      have HD := Lib.hid (filter_drop (f := fun f : Rf => decide (f.2 ≠ [])) hlt)
      obtain ⟨t, ht⟩ : ∃ t, rf[j] = t := ⟨_, rfl⟩
      rw [ht] at q0 q1 HD
      obtain ⟨t1, t2⟩ := t
      dsimp only at q0 q1
      clear ht hc9
      obtain ⟨w7, hw7⟩ : ∃ w7, w7 = wr.alloc (.cells #[strV t1, strV t2] 40) := ⟨_, rfl⟩
      have hb7 : Below wr.heap.size wr w7 := by rw [hw7]; exact (Below.refl _ _).alloc (Nat.le_refl _) _
      have hk7 : Blk w7 wr.heap.size [strV t1, strV t2] 40 := by rw [hw7]; exact Blk.new _ _ _
      have HN7 : Hid (Nomap W3 w7 F) := Lib.hid (HN2.out.trans (Nomap.of_below hb7 F))
      obtain ⟨u0, _⟩ := HX.out w7 HN7.out
      have v0 := hk7.cell (i := 0) (by simp)
      have v1 := hk7.cell (i := 1) (by simp)
      simp only [List.getElem_cons_succ, List.getElem_cons_zero] at v0 v1
      have HI7 := Lib.hid (HII.out _ _ _ HI2.out hb7)
      have HC7 : Hid (Calls Tryz.prog g #[.agg #[strV t1, strV t2], .int .i64 0, p1, p2] w7 fun r w' => r = .returned (.tuple #[]) ∧ I (l2 ++ [((t1, t2), 0)]) w' ∧ Nomap w7 w' F) := Lib.hid (HP.out l2 w7 (t1, t2) 0 HI7.out (Nat.zero_le _))
      rw [hw7] at u0 v0 v1
      have HW7 := Lib.hid hw7
      clear hb7 hk7 hw7 y0 y1 y2 y3 y4 y5
      by_cases h2 : t2 = []
      · subst h2
        have HN : Hid (V = l2 ++ (((rf.drop (j + 1)).filter (fun f => decide (f.2 ≠ []))).map (fun f => (f, 0)) ++ (if rf.length = 0 then LVS else []))) := Lib.hid (by rw [H.out, HD.out]; rfl)
        clear HC7
        go_wp2_with fail
        go_roundw
        case rel => exact ⟨j + 1, l2, by omega, by go_num, HN, by rw [← HW7.out]; exact HI7, by rw [← HW7.out]; exact HN7⟩
        case measure => simp [intOf]; omega
      · have he := nonempty h2
        have HN : Hid (V = (l2 ++ [((t1, t2), 0)]) ++ (((rf.drop (j + 1)).filter (fun f => decide (f.2 ≠ []))).map (fun f => (f, 0)) ++ (if rf.length = 0 then LVS else []))) := Lib.hid (by
          rw [H.out, HD.out, if_pos (decide_eq_true h2)]; simp)
        go_wp2_with (go_at_fn g; rw [← HW7.out]; refine HC7.out.mono ?_; rintro r w8 ⟨rfl, hi8, hn8⟩; have HI8 := Lib.hid hi8; have HN8 := Lib.hid (HN7.out.trans hn8); clear hi8 hn8)
        go_roundw
        case rel => exact ⟨j + 1, _, by omega, by go_num, HN, HI8, HN8⟩
        case measure => simp [intOf]; omega
    · have HN : Hid (V = l2 ++ (if rf.length = 0 then LVS else [])) := Lib.hid (by rw [H.out, List.drop_of_length_le (by omega)]; rfl)
      by_cases h0 : rf.length = 0
      · have HN2' : Hid (V = l2 ++ LVS) := Lib.hid (by rw [HN.out, if_pos h0])
        have HC := Lib.hid (HLV.out l2 wr HI2.out HN2.out)
        have hd : decide (0 < rf.length) = false := decide_eq_false (by omega)
        have hd2 : decide ((0 : Int) < (rf.length : Int)) = false := decide_eq_false (by omega)
        go_wp2_with (go_at_call 77; refine HC.out.mono ?_; rintro r w8 ⟨rfl, hi8, hn8⟩; have HI8 := Lib.hid hi8; have HN8 := Lib.hid hn8; clear hi8 hn8)
        go_end0
        rw [HN2'.out]
        exact ⟨rfl, HI8.out, HN3.out.trans (HN2.out.trans HN8.out)⟩
      · have HN2' : Hid (V = l2) := Lib.hid (by rw [HN.out, if_neg h0, List.append_nil])
        have hne : ¬ rf = [] := fun e => h0 (by rw [e]; rfl)
        have hd3 : decide (rf = []) = false := decide_eq_false hne
        have hd : decide (0 < rf.length) = true := decide_eq_true (by omega)
        have hd2 : (0 : Int) < (rf.length : Int) := by omega
        clear h0
        go_wp2_with fail
        refine bodyPost_ret (results_none rfl _ _ _) rfl ?_
        rw [HN2'.out]
        exact ⟨rfl, HI2.out, HN3.out.trans HN2.out⟩
end Go.Proofs.YtdnhbledndgbcaaGreat
namespace Go.Proofs.YtdnhbledndgbcaaGreat
open Go.RowKit
def EdgeK (kn : Kn) (z y : Nk) (n : Nat) : Prop := ∃ r, kn z = some r ∧ z.2 ≠ [] ∧ (y, n) ∈ depsK kn z.1 r
def DGrow (In0 In : Nk → List (Nk × Nat)) (dfrom : Nk) (l : List (Nk × Nat)) : Prop :=
  (∀ y z n, (z, n) ∈ In y → (z, n) ∈ In0 y ∨ (z = dfrom ∧ (y, n) ∈ l)) ∧ (∀ y z n, (z, n) ∈ In0 y → ∃ n', n ≤ n' ∧ (z, n') ∈ In y) ∧ (∀ y n, (y, n) ∈ l → ∃ n', n ≤ n' ∧ (dfrom, n') ∈ In y)
theorem DGrow.refl (In : Nk → List (Nk × Nat)) (dfrom : Nk) : DGrow In In dfrom [] := ⟨fun _ _ _ h => .inl h, fun _ _ n h => ⟨n, Nat.le_refl _, h⟩, fun _ _ h => nomatch h⟩
theorem DGrow.put {In0 In : Nk → List (Nk × Nat)} {dfrom : Nk} {l : List (Nk × Nat)} (h : DGrow In0 In dfrom l) {on : Nk} (hn : ((In on).map (·.1)).Nodup) (st : Nat) : DGrow In0 (dput In on dfrom st) dfrom (l ++ [(on, st)]) := by
  obtain ⟨h1, h2, h3⟩ := h
  obtain ⟨m, hm⟩ : ∃ m, max ((lookK (In on) dfrom).getD 0) st = m := ⟨_, rfl⟩
  have hst : st ≤ m := by omega
  have hmem : ∀ y z n, (z, n) ∈ dput In on dfrom st y ↔ (if y = on then ((z, n) = (dfrom, m) ∨ ((z, n) ∈ In on ∧ z ≠ dfrom)) else (z, n) ∈ In y) := fun y z n => by
    unfold dput
    rw [hm]
    split
    · exact putK_mem hn (z, n)
    · exact Iff.rfl
  have hup : ∀ y z n, (z, n) ∈ In y → ∃ n', n ≤ n' ∧ (z, n') ∈ dput In on dfrom st y := fun y z n hz => by
    by_cases hy : y = on
    · subst hy
      by_cases hzf : z = dfrom
      · subst hzf
        refine ⟨m, ?_, (hmem _ _ _).2 (by rw [if_pos rfl]; exact .inl rfl)⟩
        have := (lookK_mem hn).2 hz
        rw [this] at hm
        simp only [Option.getD_some] at hm
        omega
      · exact ⟨n, Nat.le_refl _, (hmem _ _ _).2 (by rw [if_pos rfl]; exact .inr ⟨hz, hzf⟩)⟩
    · exact ⟨n, Nat.le_refl _, (hmem _ _ _).2 (by rw [if_neg hy]; exact hz)⟩
  refine ⟨fun y z n hz => ?_, fun y z n hz => ?_, fun y n hy => ?_⟩
  · rw [hmem] at hz
    have hl : ∀ q, q ∈ l → q ∈ l ++ [(on, st)] := fun q hq => List.mem_append_left _ hq
    split at hz
    · rename_i e
      subst e
      rcases hz with hz | ⟨hz, _⟩
      · injection hz with e1 e2
        subst e1 e2
        cases hq : lookK (In y) z with
        | none =>
          rw [hq] at hm
          have : st = n := by simpa using hm
          exact .inr ⟨rfl, by rw [← this]; simp⟩
        | some o =>
          rw [hq] at hm
          simp only [Option.getD_some] at hm
          by_cases ho : o ≤ st
          · have : st = n := by omega
            exact .inr ⟨rfl, by rw [← this]; simp⟩
          · have : o = n := by omega
            subst this
            exact (h1 y z o ((lookK_mem hn).1 hq)).imp id (fun ⟨a, b⟩ => ⟨a, hl _ b⟩)
      · exact (h1 y z n hz).imp id (fun ⟨a, b⟩ => ⟨a, hl _ b⟩)
    · exact (h1 y z n hz).imp id (fun ⟨a, b⟩ => ⟨a, hl _ b⟩)
  · obtain ⟨n1, e1, e2⟩ := h2 y z n hz
    obtain ⟨n2, e3, e4⟩ := hup y z n1 e2
    exact ⟨n2, Nat.le_trans e1 e3, e4⟩
  · rcases List.mem_append.1 hy with hy | hy
    · obtain ⟨n1, e1, e2⟩ := h3 y n hy
      obtain ⟨n2, e3, e4⟩ := hup y dfrom n1 e2
      exact ⟨n2, Nat.le_trans e1 e3, e4⟩
    · rw [List.mem_singleton] at hy
      injection hy with e1 e2
      subst e1 e2
      exact ⟨m, hst, (hmem _ _ _).2 (by rw [if_pos rfl]; exact .inl rfl)⟩
theorem DepAt.nodup {w : World} {ba : Nat} {LA : List (Nk × Nat)} {In : Nk → List (Nk × Nat)} (h : DepAt w ba LA In) (y : Nk) : ((In y).map (·.1)).Nodup := by
  by_cases hy : y ∈ LA.map (·.1)
  · obtain ⟨p, hp, rfl⟩ := List.mem_map.1 hy
    have := (h.inner p hp).1.keys
    rwa [show ((In p.1).map intV).map (·.1) = (In p.1).map (·.1) from keys_map (fun n : Nat => Value.int .i64 (n : Int)) _] at this
  · rw [h.no y hy]; simp
theorem DepAt.isMap {w : World} {ba : Nat} {LA : List (Nk × Nat)} {In : Nk → List (Nk × Nat)} (h : DepAt w ba LA In) {k : Nat} (hk : depB ba LA k) : ∃ L, MapAt w k L := by
  rcases hk with rfl | hk
  · exact ⟨_, h.map⟩
  · obtain ⟨p, hp, rfl⟩ := List.mem_map.1 hk
    exact ⟨_, (h.inner p hp).1⟩
theorem map_not {w : World} {k : Nat} {L : List (Nk × Value)} (h : MapAt w k L) {o : Obj} (ho : w.heap[k]? = some o) : ∃ es c, o = .map es c := by
  obtain ⟨es, c, h1, _⟩ := h
  rw [h1] at ho
  injection ho with ho
  exact ⟨es, c, ho.symm⟩
theorem DepAt.not_cells {w : World} {ba : Nat} {LA : List (Nk × Nat)} {In : Nk → List (Nk × Nat)} (h : DepAt w ba LA In) {g : Nat} {l : List Value} {t : TypeId} (hg : Blk w g l t) : ¬ depB ba LA g := fun hk => by
  obtain ⟨L, hL⟩ := h.isMap hk
  obtain ⟨es, c, e⟩ := map_not hL hg
  cases e
theorem DepAt.not_iter {w : World} {ba : Nat} {LA : List (Nk × Nat)} {In : Nk → List (Nk × Nat)} (h : DepAt w ba LA In) {r : Nat} {m : Option Nat} {L todo : List (Nk × Value)} (hr : RangeAt w r m L todo) : ¬ depB ba LA r := fun hk => by
  obtain ⟨L', hL⟩ := h.isMap hk
  cases m with
  | none =>
    obtain ⟨_, _, s, seen, c, h3⟩ := hr
    obtain ⟨es, c, e⟩ := map_not hL h3
    cases e
  | some b =>
    obtain ⟨es, clock, since, seen, c0, hb, hE, h3, h4⟩ := hr
    obtain ⟨es, c, e⟩ := map_not hL h3
    cases e
set_option maxRecDepth 100000 in
theorem enter_dep1 (args : Array Value) (w : World) : (callFunc 93 args).run Tryz.prog w = .ok (.enter 93 args) w := rfl
structure DpSt (W : World) (F1 : Nat → Prop) (b ba : Nat) (L : List (Nk × Value)) (kn : Kn) (wr : World) (todo : List (Nk × Value)) (LA : List (Nk × Nat)) (In : Nk → List (Nk × Nat)) : Prop where
  sub : ∀ p ∈ todo, p ∈ L
  dep : DepAt wr ba LA In
  new : ∀ p ∈ LA, W.heap.size ≤ p.2
  knw : KnAt wr F1 b L kn
  low : Below W.heap.size W wr
  box : Blk wr (W.heap.size + 1) [.map (some ba)] 124
  sound : ∀ y z n, (z, n) ∈ In y → EdgeK kn z y n
  full : ∀ p ∈ L, p ∈ todo ∨ ∀ y n, EdgeK kn p.1 y n → ∃ n', n ≤ n' ∧ (p.1, n') ∈ In y
theorem DpSt.step {W : World} {F1 : Nat → Prop} {b ba rr : Nat} {L : List (Nk × Value)} {kn : Kn} {w7 : World} {todo todo' : List (Nk × Value)} {LA : List (Nk × Nat)} {In : Nk → List (Nk × Nat)} (hba : W.heap.size ≤ ba) (hbb : b < W.heap.size) (hF1 : ∀ k, W.heap.size ≤ k → F1 k)
    (hB : ∀ x, ((kn x).getD noRel).refs.length ≤ 1000000) {x : Nk} {v : Value} (hx : (x, v) ∈ todo) (hsub : ∀ p ∈ todo, p = (x, v) ∨ p ∈ todo') (h : DpSt W F1 b ba L kn w7 todo LA In) (hr : RangeAt w7 rr (some b) L todo') (hs' : ∀ p ∈ todo', p ∈ todo) (hx2 : x.2 ≠ []) {b4 : Nat} (h4 : Blk w7 b4 [strV x.1, strV x.2] 97) :
    Calls Tryz.prog 92 #[.map (some b), .agg #[strV x.1, strV x.2], .func (.func 93) #[] #[.pointer (some ⟨W.heap.size + 1, 0, none⟩), .pointer (some ⟨b4, 0, none⟩)]] w7 fun e w8 => e = .returned (.tuple #[]) ∧ ∃ LA' In', RangeAt w8 rr (some b) L todo' ∧ DpSt W F1 b ba L kn w8 todo' LA' In' := by
  obtain ⟨r, hkr⟩ : ∃ r, kn x = some r := by
    cases hk : kn x with
    | some r => exact ⟨r, rfl⟩
    | none =>
      have h1 := h.knw.no x hk
      rw [(lookK_mem h.knw.map.keys).2 (h.sub _ hx)] at h1
      cases h1
  have hge : ∀ k, depB ba LA k → W.heap.size ≤ k := fun k hk => by
    rcases hk with rfl | hk
    · exact hba
    · obtain ⟨p, hp, rfl⟩ := List.mem_map.1 hk
      exact h.new p hp
  have hlt : ∀ k, depB ba LA k → k < w7.heap.size := fun k hk => by
    obtain ⟨L', hL'⟩ := h.dep.isMap hk
    exact hL'.lt
  have hW7 := h.low.size
  have hcall := deps_any enter_dep1 (p1 := .pointer (some ⟨W.heap.size + 1, 0, none⟩)) (p2 := .pointer (some ⟨b4, 0, none⟩)) (depB ba LA) F1 b L kn hB
    (fun (l : List (Nk × Nat)) (w : World) => ∃ (LA' : List (Nk × Nat)) (In' : Nk → List (Nk × Nat)), DepAt w ba LA' In' ∧ (∀ p ∈ LA', p ∈ LA ∨ w7.heap.size ≤ p.2) ∧ DGrow In In' x l ∧ KnAt w F1 b L kn ∧ Spared w7 w (depB ba LA)) w7 hlt (fun k hk => hF1 k (hge k hk))
    (fun l w ⟨LA', In', _, _, _, e4, e5⟩ => ⟨e4, e5⟩)
    (fun l w w' ⟨LA', In', e1, e2, e3, e4, e5⟩ hb => ⟨LA', In', e1.below hb, e2, e3, e4.below hb, e5.trans (Spared.of_below hb (fun _ => False)) (fun _ h => h.elim)⟩)
    (fun l w on st ⟨LA', In', e1, e2, e3, e4, e5⟩ _ => by
      have hge' : ∀ k, depB ba LA' k → depB ba LA k ∨ w7.heap.size ≤ k := fun k hk => by
        rcases hk with rfl | hk
        · exact .inl (.inl rfl)
        · obtain ⟨p, hp, rfl⟩ := List.mem_map.1 hk
          exact (e2 p hp).imp (fun h => .inr (List.mem_map_of_mem h)) id
      have hc := dep1_any on x st w ba LA' In' e1 (e5.blk h.box (h.dep.not_cells h.box)) (e5.blk h4 (h.dep.not_cells h4))
      refine hc.mono (fun e w' hh => ?_)
      obtain ⟨f1, ⟨LA2, f2, f3⟩, f4⟩ := hh
      refine ⟨f1, ⟨LA2, _, f2, fun p hp => ?_, e3.put (e1.nodup on) st, e4.spared f4 (fun k hk => ?_) (fun hk => ?_), e5.trans f4 hge'⟩, ⟨f4.os, f4.tape, f4.output, f4.size, fun k hk _ hnm => f4.block k hk (fun hd => ?_)⟩⟩
      · rcases f3 p hp with h1 | h1
        · exact e2 p h1
        · exact .inr (Nat.le_trans e5.size h1)
      · rcases hge' k hk with h1 | h1
        · exact hF1 k (hge k h1)
        · exact hF1 k (by omega)
      · rcases hge' b hk with h1 | h1
        · have := hge b h1; omega
        · omega
      · obtain ⟨L', es, c, hL, _⟩ := e1.isMap hd
        exact hnm es c hL)
    x r hkr [] ⟨LA, In, h.dep, fun p hp => .inl hp, DGrow.refl In x, h.knw, Spared.refl _ _⟩
  refine hcall.mono (fun e w8 hh => ?_)
  obtain ⟨f1, ⟨LA', In', e1, e2, e3, e4, e5⟩, _⟩ := hh
  rw [List.nil_append] at e3
  refine ⟨f1, LA', In', hr.spared e5 (h.dep.not_iter hr) (fun b' hb' => ?_), ⟨fun p hp => h.sub p (hs' p hp), e1, fun p hp => ?_, e4, e5.below h.low hge, e5.blk h.box (h.dep.not_cells h.box), fun y z n hz => ?_, fun p hp => ?_⟩⟩
  · injection hb' with hb'
    subst hb'
    intro hd
    have := hge b hd
    omega
  · rcases e2 p hp with h1 | h1
    · exact h.new p h1
    · omega
  · rcases e3.1 y z n hz with h1 | ⟨rfl, h1⟩
    · exact h.sound y z n h1
    · exact ⟨r, hkr, hx2, h1⟩
  · rcases h.full p hp with h1 | h1
    · rcases hsub p h1 with rfl | h2
      · right
        intro y n he
        obtain ⟨r', hr', _, hm⟩ := he
        dsimp only at hr' hm ⊢
        rw [hkr] at hr'
        injection hr' with hr'
        subst hr'
        exact e3.2.2 y n hm
      · exact .inl h2
    · right
      intro y n he
      obtain ⟨n1, g1, g2⟩ := h1 y n he
      obtain ⟨n2, g3, g4⟩ := e3.2.1 y p.1 n1 g2
      exact ⟨n2, Nat.le_trans g1 g3, g4⟩
def DepsAre (W : World) (kn : Kn) (e : Ending) (w' : World) : Prop := ∃ (ba : Nat) (LA : List (Nk × Nat)) (In : Nk → List (Nk × Nat)), e = .returned (.map (some ba)) ∧ DepAt w' ba LA In ∧ (W.heap.size ≤ ba ∧ ∀ p ∈ LA, W.heap.size ≤ p.2) ∧ Below W.heap.size W w' ∧ (∀ y z n, (z, n) ∈ In y → EdgeK kn z y n) ∧ ∀ z y n, EdgeK kn z y n → ∃ n', n ≤ n' ∧ (z, n') ∈ In y
set_option maxRecDepth 100000 in
set_option maxHeartbeats 4000000 in
theorem dependents_any (W : World) (F1 : Nat → Prop) (b : Nat) (L : List (Nk × Value)) (kn : Kn) (hB : ∀ x, ((kn x).getD noRel).refs.length ≤ 1000000) (hF1 : ∀ k, W.heap.size ≤ k → F1 k) (h : KnAt W F1 b L kn) :
    Calls Tryz.prog 81 #[.map (some b)] W (DepsAre W kn) := by
  have hmf : ∀ (fn : Fn) (first cap : Array Value) (w : World), (Instr.makeFunc fn first cap).run Tryz.prog w = .ok (.func fn first cap) w := fun _ _ _ _ => rfl
  have hmm := @run_makeMap Tryz.prog
  have hbb := h.map.lt
  obtain ⟨W2, hW2⟩ : ∃ W2, W2 = (W.alloc (.map #[] 0)).alloc (.cells #[.map (some W.heap.size)] 124) := ⟨_, rfl⟩
  have hb2 : Below W.heap.size W W2 := by rw [hW2]; exact ((Below.refl _ _).alloc (Nat.le_refl _) _).alloc (by simp) _
  have hm2 : MapAt W2 W.heap.size [] := by rw [hW2]; exact (MapAt.made W).below ((Below.refl _ _).alloc (Nat.le_refl _) _)
  have hk2 : Blk W2 (W.heap.size + 1) [.map (some W.heap.size)] 124 := by
    rw [hW2]
    have := Blk.new (W.alloc (.map #[] 0)) [.map (some W.heap.size)] 124
    rw [World.size_alloc] at this
    exact this
  have hZ2 : W2.heap.size = W.heap.size + 2 := by rw [hW2]; simp
  have hkn2 := h.below hb2
  obtain ⟨w3, hrun, hr3, hb3, hz3⟩ := run_range (m := some b) hkn2.map Tryz.underlying66
  have hd2 : DepAt W2 W.heap.size [] (fun _ => []) := ⟨hm2, fun p hp => (nomatch hp), fun p hp => (nomatch hp), fun _ _ => rfl⟩
  have HR3 : Hid (RangeAt w3 (W.heap.size + 2) (some b) L L) := Lib.hid (by rw [← hZ2]; exact hr3)
  have HST : Hid (DpSt W F1 b W.heap.size L kn w3 L [] (fun _ => [])) := Lib.hid ⟨fun _ h => h, hd2.below hb3, fun p hp => (nomatch hp), hkn2.below hb3, hb2.trans (hb3.mono hb2.size), hk2.below hb3 hk2.lt, fun _ _ _ h => (nomatch h), fun p hp => .inl hp⟩
  rw [hZ2, hW2] at hrun
  have HB := Lib.hid hB
  have HF1 := Lib.hid hF1
  have HBB := Lib.hid hbb
  clear h hb2 hm2 hk2 hkn2 hr3 hb3 hz3 hd2 hB hF1 hbb hZ2 hW2
  go_enter Tryz.func81, Tryz.ntmps81
  go_wp2_with fail
  clear hrun
  go_loopw [8] (fun _ wr => ∃ todo LA In, Hid (RangeAt wr (W.heap.size + 2) (some b) L todo) ∧ Hid (DpSt W F1 b W.heap.size L kn wr todo LA In)) (fun _ wr => rangeN wr (W.heap.size + 2) (some b))
  case atStart => exact ⟨L, [], _, HR3, HST⟩
  case round =>
    obtain ⟨todo, LA, In, HRG, HS⟩ := hrel
    have hleft := HRG.out.left
    rcases run_step_all HRG.out with ⟨h0, hnx⟩ | ⟨x, v, todo', w1, hx, hsub, hs', hlen, hr1, hnx, hg1, hz1, hen⟩
    · have hbox := HS.out.box.cell (i := 0) (by simp)
      simp only [List.getElem_cons_zero] at hbox
      have HT := Lib.hid h0
      clear h0 hleft
      go_wp2_with fail
      go_ret
      have hS := HS.out
      refine ⟨W.heap.size, LA, In, rfl, hS.dep, ⟨Nat.le_refl _, hS.new⟩, hS.low, hS.sound, fun z y n he => ?_⟩
      have he' := he
      obtain ⟨r, hr, _⟩ := he'
      obtain ⟨cs, h1, _⟩ := hS.knw.yes z r hr
      rcases hS.full _ ((lookK_mem hS.knw.map.keys).1 h1) with h2 | h2
      · rw [HT.out] at h2; cases h2
      · exact h2 y n he
    · obtain ⟨a, c⟩ := x
      dsimp only at hnx hen
      have hsp1 : Spared wr w1 (fun k => k = W.heap.size + 2) := Spared.of_grown hg1 (fun k e _ => by injection e with e; exact e.symm)
      have hnd := HS.out.dep.not_iter HRG.out
      have hne2 : ¬ (b = W.heap.size + 2) := by have := HBB.out; omega
      have hS1 : DpSt W F1 b W.heap.size L kn w1 todo LA In := by
        have hS := HS.out
        exact ⟨hS.sub, hS.dep.spared hsp1 (fun k hk e => hnd (e ▸ hk)), hS.new, hS.knw.spared hsp1 (fun k hk => by rw [hk]; exact HF1.out _ (by omega)) hne2, hsp1.below hS.low (fun k hk => by rw [hk]; omega), hsp1.blk hS.box (by omega), hS.sound, hS.full⟩
      obtain ⟨w7, hw7⟩ : ∃ w7, w7 = w1.alloc (.cells #[strV a, strV c] 97) := ⟨_, rfl⟩
      have hb7 : Below w1.heap.size w1 w7 := by rw [hw7]; exact (Below.refl _ _).alloc (Nat.le_refl _) _
      have hk7 : Blk w7 w1.heap.size [strV a, strV c] 97 := by rw [hw7]; exact Blk.new _ _ _
      have hr7 := hr1.below hb7
      have hS7 : DpSt W F1 b W.heap.size L kn w7 todo LA In :=
        ⟨hS1.sub, hS1.dep.below hb7, hS1.new, hS1.knw.below hb7, hS1.low.trans (hb7.mono hS1.low.size), hS1.box.below hb7 hS1.box.lt, hS1.sound, hS1.full⟩
      have v0 := hk7.cell (i := 0) (by simp)
      have v1 := hk7.cell (i := 1) (by simp)
      have x0 := hS7.box.cell (i := 0) (by simp)
      simp only [List.getElem_cons_succ, List.getElem_cons_zero] at v0 v1 x0
      have HX := Lib.hid (And.intro hx (And.intro hsub (And.intro hs' hlen)))
      have HLE := Lib.hid hleft
      have HW7 := Lib.hid hw7
      by_cases hc : c = []
      · subst hc
        have HR7 := Lib.hid hr7
        have HS7 : Hid (DpSt W F1 b W.heap.size L kn w7 todo' LA In) := Lib.hid ⟨fun p hp => hS7.sub p (hs' p hp), hS7.dep, hS7.new, hS7.knw, hS7.low, hS7.box, hS7.sound, fun p hp => by
          rcases hS7.full p hp with h1 | h1
          · rcases hsub p h1 with rfl | h2
            · right
              rintro y n ⟨r, _, h3, _⟩
              exact absurd rfl h3
            · exact .inl h2
          · exact .inr h1⟩
        rw [hw7] at v0 v1 x0
        clear hx hsub hs' hlen hleft hg1 hz1 hsp1 hnd hne2 hS1 hb7 hk7 hr7 hS7 hw7 hr1
        go_wp2_with fail
        go_roundw
        case rel => exact ⟨todo', LA, In, by rw [← HW7.out]; exact HR7, by rw [← HW7.out]; exact HS7⟩
        case measure =>
          rw [← HW7.out, HR7.out.left, HLE.out]
          exact HX.out.2.2.2
      · have he := nonempty hc
        have HC := Lib.hid (hS7.step (Nat.le_refl _) HBB.out HF1.out HB.out hx hsub hr7 hs' hc hk7)
        have HC : Hid (Calls Tryz.prog 92 #[.map (some b), .agg #[strV a, strV c], .func (.func 93) #[] #[.pointer (some ⟨W.heap.size + 1, 0, none⟩), .pointer (some ⟨w1.heap.size, 0, none⟩)]] w7 fun e w8 => e = .returned (.tuple #[]) ∧ ∃ LA' In', RangeAt w8 (W.heap.size + 2) (some b) L todo' ∧ DpSt W F1 b W.heap.size L kn w8 todo' LA' In') := HC
        rw [hw7] at v0 v1 x0
        clear hx hsub hs' hlen hleft hg1 hz1 hsp1 hnd hne2 hS1 hb7 hk7 hr7 hS7 hw7 hr1
        go_wp2_with (go_at_call 92; rw [← HW7.out]; refine HC.out.mono ?_; rintro e w8 ⟨rfl, LA8, In8, hr8, hs8⟩; have HR8 := Lib.hid hr8; have HS8 := Lib.hid hs8; clear hr8 hs8)
        go_roundw
        case rel => exact ⟨todo', LA8, In8, HR8, HS8⟩
        case measure =>
          rw [HR8.out.left, HLE.out]
          exact HX.out.2.2.2
end Go.Proofs.YtdnhbledndgbcaaGreat
