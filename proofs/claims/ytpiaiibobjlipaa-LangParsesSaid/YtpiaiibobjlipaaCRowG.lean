/-
  The parser's separated, over refs. Conditions: how the parser lies in memory.
  The parser's direct and defined. Conditions: how the parser lies in memory; no bracket is open.
  Rows of structs of the call's own whose cells lead to other memory: kept where other blocks turn, grown by one, and as a row that lies outside some blocks. No program is named.
-/
import Derived.Test.YtpiaiibobjlipaaCLpS
import Derived.Test.YtpiaiibobjlipaaCPaW
import Derived.Test.YtpiaiibobjlipaaCRowS
import Derived.Test.YtpiaiibobjlipaaCPaE
import Derived.Laws.OwnMore
namespace Go.Proofs.Ytpiaiibobjlipaa
open Go.RowKit
def refsV (W : World) (g : Nat) (w : World) (l : List Rf) (v : Value) : Prop := ∃ A c, v = .slice A l.length c ∧ RowAt 2 RfAt w (Old g W) A l ∧ l.length ≤ 5000
def sepP (ts : List Tk) : Rs (List Rf) := (refP ts).then fun x r => (refsLoop r.length r).then fun l r => .ok (x :: l) r
theorem PAt.belowB {W W' : World} {g : Nat} {s : ByteArray} {i op B : Nat} (h : PAt W g s i op) (hb : Below B W W') (hg : g < B) : PAt W' g s i op := ⟨h.1, h.2.1, h.2.2.below hb hg⟩
def SepAt (W : World) (g : Nat) (s : ByteArray) (i op : Nat) (R : Rs (List Rf)) (w : World) (xs : List Rf) (A : Option Addr) (n c i' m : Nat) : Prop :=
  (w.ownsRow W.heap.size 78 2 (.slice A n c) n (xs.flatMap rfC) ∧ PAt w g s i' op ∧ Spared W w (onG g)) ∧ (n = xs.length ∧ n ≤ i' ∧ ∀ x ∈ xs, small x.1 ∧ small x.2) ∧ i < i' ∧ (toks s.data.toList i').length ≤ m ∧
    R = (refsLoop m (toks s.data.toList i')).then fun l ts => .ok (xs ++ l) ts
set_option maxHeartbeats 1000000 in
theorem psep_any {W : World} {g : Nat} {s : ByteArray} {i op : Nat} (h : PAt W g s i op) :
    Calls Try.prog 86 #[.pointer (some ⟨g, 0, none⟩), strV [124], .func (.func 87) #[.pointer (some ⟨g, 0, none⟩)] #[]] W (POut (refsV W g) W g s i op (sepP (toks s.data.toList i))) := by
  have hg := h.lt
  have HF1 := Lib.hid (pref_any h)
  obtain ⟨R, hR⟩ : ∃ R, R = sepP (toks s.data.toList i) := ⟨_, rfl⟩
  rw [← hR]
  have HR := Lib.hid hR
  obtain ⟨i0, z0, hRW⟩ := rowRef
  have HRW := Lib.hid hRW
  clear h hR hRW
  cases hr1 : refP (toks s.data.toList i) with
  | no d =>
    rw [hr1] at HF1
    have HR1 := Lib.hid hr1
    clear hr1
    go_enter Try.func86, Try.ntmps86
    go_wp2_with fail
    refine HF1.out.mono ?_
    rintro e w1 ⟨rfl, hs1⟩
    go_wp2_with fail
    exact ⟨rfl, POut.no_ (by rw [HR.out, sepP, HR1.out]; rfl) hs1⟩
  | ok x r1 =>
    rw [hr1] at HF1
    have HR1 := Lib.hid hr1
    clear hr1
    go_enter Try.func86, Try.ntmps86
    go_wp2_with fail
    refine HF1.out.mono ?_
    rintro e w1 ⟨_, rfl, ⟨rfl, hx1, hx2⟩, i1, e1, l1, hp1, hs1⟩
    subst e1
    obtain ⟨w2, hw2⟩ : ∃ w2, w2 = w1.alloc (.cells #[strV x.1, strV x.2] 78) := ⟨_, rfl⟩
    have HL : Hid (SepAt W g s i op R w2 [x] (some ⟨w1.heap.size, 0, none⟩) 1 1 i1 (toks s.data.toList i1).length) := by
      have hb := (Below.refl w1.heap.size w1).alloc (Nat.le_refl _) (.cells #[strV x.1, strV x.2] 78)
      refine Lib.hid ⟨⟨?_, ?_, ?_⟩, ⟨rfl, by omega, ?_⟩, l1, Nat.le_refl _, ?_⟩
      · rw [hw2]
        exact World.ownsRow_lit w1 #[strV x.1, strV x.2] 1 hs1.size (by decide) rfl
      · rw [hw2]; exact hp1.below hb
      · rw [hw2]; exact sp_trans hs1 (Spared.of_below hb (onG g))
      · intro y hy
        rw [List.mem_singleton.1 hy]
        exact ⟨hx1, hx2⟩
      · rw [HR.out, sepP, HR1.out]; rfl
    have HW2 := Lib.hid hw2
    clear hx1 hx2 l1 hp1 hs1 hw2 HF1 HR HR1
    go_wp2_with fail
    rw [← HW2.out]
    go_loopw [7] (fun v wr => ∃ (xs : List Rf) (A : Option Addr) (n c i' m : Nat), v = .slice A n c ∧ Hid (SepAt W g s i op R wr xs A n c i' m)) (fun _ wr => 5000 - (intOf ((wr.cell? ⟨g, 1, none⟩).getD (.int .i64 0))).toNat)
    case atStart => exact ⟨_, _, _, _, _, _, rfl, HL⟩
    case round =>
      clear HL
      obtain ⟨xs, A, n, c, i', m, rfl, HL⟩ := hrel
      have HP := Lib.hid HL.out.1.2.1
      by_cases hq : (nx (toks s.data.toList i')).1 = [124]
      · have HQ := Lib.hid hq
        have HA := Lib.hid (accept_yes HP.out (t := [124]) (.inr (.inr ⟨124, by decide, rfl⟩)) (by decide) hq)
        clear hq
        go_wp2_with fail
        go_at_call 47
        refine HA.out.mono ?_
        rintro e w3 ⟨rfl, i3, e3, l3, hp3, hs3⟩
        have HE3 := Lib.hid e3
        have HS3 := Lib.hid (sp_trans HL.out.1.2.2 hs3)
        have HO3 := Lib.hid (own_spared HL.out.1.1 hs3 (fun k hk => by have e : k = g := hk; omega))
        have HF3 := Lib.hid (pref_any hp3)
        have HL3 := Lib.hid l3
        have HPL := Lib.hid (And.intro hp3.1 hp3.2.1)
        clear e3 hs3 hp3 HA l3
        cases hr3 : refP (toks s.data.toList i3) with
        | no d =>
          rw [hr3] at HF3
          have HR3 := Lib.hid hr3
          clear hr3
          go_wp2_with fail
          go_at_call 87
          refine HF3.out.mono ?_
          rintro e w4 ⟨rfl, hs4⟩
          go_wp2_with fail
          refine ⟨rfl, POut.no_ (d := d) ?_ (sp_trans HS3.out hs4)⟩
          obtain ⟨_, _, _, hm, hR⟩ := HL.out
          have hne := HP.out.1.ne
          obtain ⟨k, rfl⟩ : ∃ k, m = k + 1 := ⟨m - 1, by omega⟩
          rw [hR, refsLoop, if_pos HQ.out, HE3.out, HR3.out]; rfl
        | ok y r4 =>
          rw [hr3] at HF3
          have HR3 := Lib.hid hr3
          clear hr3
          have HN4 : Hid (n ≤ 1000000) := Lib.hid (by
            have h1 := HP.out.1.1
            have h2 := HP.out.2.1
            have h3 := HL.out.2.1.2.1
            rw [size_list] at h1
            omega)
          go_wp2_with fail
          go_at_call 87
          refine HF3.out.mono ?_
          rintro e w4 ⟨_, rfl, ⟨rfl, hy1, hy2⟩, i4, e4, l4, hp4, hs4⟩
          have HO4 := Lib.hid (own_spared HO3.out hs4 (fun k hk => by have e : k = g := hk; omega))
          have HY := Lib.hid (And.intro hy1 hy2)
          have HS4 := Lib.hid (sp_trans HS3.out hs4)
          have HP4 := Lib.hid hp4
          have HE4 := Lib.hid e4
          have HL4 := Lib.hid l4
          clear hy1 hy2 e4 l4 hp4 hs4 HO3 HS3 HF3
          go_wp2_with (at_builtin; refine wpList_append_at w4 rfl (.tmp 14) (.tmp 17) 46 rfl HRW.out (by decide) (by decide) W.heap.size A n c _ (rfC y) rfl rfl rfl HS4.out.size HO4.out (rf_one y) HN4.out ?_; intro A' c' w5 hown hbel)
          go_roundw
          case rel =>
            refine ⟨xs ++ [y], A', n + 1, c', i4, m - 1, rfl, Lib.hid ⟨⟨by simpa using hown, HP4.out.belowB hbel hg, HS4.out.keep hbel (Nat.le_refl _)⟩, ⟨?_, ?_, ?_⟩, ?_, ?_, ?_⟩⟩
            · have := HL.out.2.1.1; simp; omega
            · have := HL.out.2.1.2.1; have := HL3.out; have := HL4.out; omega
            · intro z hz
              rcases List.mem_append.1 hz with hz | hz
              · exact HL.out.2.1.2.2 z hz
              · rw [List.mem_singleton.1 hz]
                exact HY.out
            · have := HL.out.2.2.1; have := HL3.out; have := HL4.out; omega
            · have h1 := HL.out.2.2.2.1
              have h2 := ref_lv _ _ _ HR3.out
              rw [HE4.out, ← HE3.out, List.length_tail] at h2
              omega
            · obtain ⟨_, _, _, hm, hR⟩ := HL.out
              have hne := HP.out.1.ne
              obtain ⟨k, rfl⟩ : ∃ k, m = k + 1 := ⟨m - 1, by omega⟩
              rw [hR, refsLoop, if_pos HQ.out, HE3.out, HR3.out, HE4.out]
              simp only [Rs.then, Nat.add_sub_cancel]
              cases refsLoop k (toks s.data.toList i4) <;> simp
          case measure =>
            have h1 := HP.out.from_
            have h2 := (HP4.out.belowB hbel hg).from_
            have h3 := HP4.out.1.1
            have h4 := HPL.out.2
            have h5 := HL3.out
            have h6 := HL4.out
            rw [size_list] at h3
            rw [h1, h2]
            simp [intOf]
            omega
      · have HQ := Lib.hid hq
        have HA := Lib.hid (accept_no HP.out (t := [124]) (.inr (.inr ⟨124, by decide, rfl⟩)) hq)
        clear hq
        go_wp2_with fail
        go_at_call 47
        refine HA.out.mono ?_
        rintro e w3 ⟨rfl, hb3⟩
        go_wp2_with fail
        go_ret
        obtain ⟨⟨ho, hp, hs⟩, ⟨hn, hni, hxs⟩, hi, hm, hR⟩ := HL.out
        have hne := hp.1.ne
        refine POut.ok_ (a := xs) (ts := toks s.data.toList i') ?_ ?_ ⟨i', rfl, hi, hp.below hb3, sp_trans hs (Spared.of_below hb3 (onG g))⟩
        · obtain ⟨k, rfl⟩ : ∃ k, m = k + 1 := ⟨m - 1, by omega⟩
          rw [hR, refsLoop, if_neg HQ.out]
          simp only [Rs.then, List.append_nil]
        · have h1 := hp.1.1
          have h2 := hp.2.1
          rw [size_list] at h1
          refine ⟨A, c, by rw [← hn]; rfl, ?_, by omega⟩
          refine row_of_own rfC (fun _ => rfl) hn (own_spared ho (Spared.of_below hb3 (onG g)) (fun k hk => by have e : k = g := hk; have := hp.lt; omega)) (fun k hk => ?_) (fun x hx => ⟨rfl, hxs x hx⟩)
          rcases hk with hk | hk <;> omega
end Go.Proofs.Ytpiaiibobjlipaa
namespace Go.Proofs.Ytpiaiibobjlipaa
open Go.RowKit
def relV (W : World) (g : Nat) (w : World) (x : Rl) (v : Value) : Prop := ∃ cs, v = .agg cs.toArray ∧ cs.length = 6 ∧ RlAt w (Old g W) x cs
theorem told_sep (ts : List Tk) : toldP ts = (nameP ts).then fun n r => (mustP [58] r).then fun _ r => (sepP r).then fun l r => .ok ⟨n, l, noEx⟩ r := by
  unfold toldP sepP
  congr 1
  funext n r
  congr 1
  funext _ r
  cases refP r with
  | no d => rfl
  | ok x r =>
    simp only [Rs.then]
    cases refsLoop r.length r <;> rfl
theorem POut.rl6 {W w : World} {g : Nat} {s : ByteArray} {i i' op : Nat} {R : Rs Rl} {e : Rl} {cs : List Value} (hg : g < W.heap.size) {b : Nat} (hb : W.heap.size ≤ b) (hR : R = .ok e (toks s.data.toList i')) (hi : i < i') (hP : PAt w g s i' op) (hS : Spared W w (onG g))
    (hl : cs.length = 6) (hE : RlAt w (fun x => x = g ∨ x < W.heap.size ∨ x = b) e cs) (u0 u1 u2 u3 u4 u5 : Value) :
    POut (relV W g) W g s i op R (.returned (.agg cs.toArray)) ((((((w.setCell ⟨b, 0, none⟩ u0).setCell ⟨b, 1, none⟩ u1).setCell ⟨b, 2, none⟩ u2).setCell ⟨b, 3, none⟩ u3).setCell ⟨b, 4, none⟩ u4).setCell ⟨b, 5, none⟩ u5) :=
  POut.ok_ hR ⟨_, rfl, hl, RlAt.moved (((((((Spared.refl w (fun x => x = g ∨ x < W.heap.size ∨ x = b)).setCell (g := b) (.inr (.inr rfl)) 0 _).setCell (g := b) (.inr (.inr rfl)) 1 _).setCell (g := b) (.inr (.inr rfl)) 2 _).setCell (g := b) (.inr (.inr rfl)) 3 _).setCell (g := b) (.inr (.inr rfl)) 4 _).setCell (g := b) (.inr (.inr rfl)) 5 _) (fun _ hi => .inl (hi.elim .inl (fun h => .inr (.inl h)))) hE⟩
    ⟨i', rfl, hi, (((((hP.setNew hg hb _ _).setNew hg hb _ _).setNew hg hb _ _).setNew hg hb _ _).setNew hg hb _ _).setNew hg hb _ _, (((((hS.setNew hb _ _).setNew hb _ _).setNew hb _ _).setNew hb _ _).setNew hb _ _).setNew hb _ _⟩
set_option maxHeartbeats 1000000 in
theorem direct_any {W : World} {g : Nat} {s : ByteArray} {i op : Nat} (h : PAt W g s i op) :
    Calls Try.prog 68 #[.pointer (some ⟨g, 0, none⟩)] W (POut (relV W g) W g s i op (toldP (toks s.data.toList i))) := by
  rw [told_sep]
  have hg := h.lt
  have hgn : g ≠ W.heap.size := Nat.ne_of_lt hg
  have hmf : ∀ (fn : Fn) (first cap : Array Value) (w : World), (Instr.makeFunc fn first cap).run Try.prog w = .ok (.func fn first cap) w := fun _ _ _ _ => rfl
  obtain ⟨W1, hW1⟩ : ∃ W1, W1 = W.alloc (.cells #[.string ⟨#[]⟩, .slice none 0 0, .int .i64 0, .string ⟨#[]⟩, .string ⟨#[]⟩, .slice none 0 0] 48) := ⟨_, rfl⟩
  have hb1 : Below W.heap.size W W1 := by rw [hW1]; exact (Below.refl W.heap.size W).alloc (Nat.le_refl _) _
  have HZ1 : Hid (Blk W1 W.heap.size [.string ⟨#[]⟩, .slice none 0 0, .int .i64 0, .string ⟨#[]⟩, .string ⟨#[]⟩, .slice none 0 0] 48) := by rw [hW1]; exact Lib.hid (Blk.new W _ _)
  have HS1 := Lib.hid (Spared.of_below hb1 (onG g))
  have HN1 := Lib.hid (pname_any (h.below hb1))
  have HW1 := Lib.hid hW1
  obtain ⟨R, hR⟩ : ∃ R, R = (nameP (toks s.data.toList i)).then fun n r => (mustP [58] r).then fun _ r => (sepP r).then fun l r => .ok (⟨n, l, noEx⟩ : Rl) r := ⟨_, rfl⟩
  rw [← hR]
  have HR := Lib.hid hR
  clear h hR hW1 hb1
  go_enter Try.func68, Try.ntmps68
  go_wp2_with fail
  rw [← HW1.out]
  go_at_call 67
  refine HN1.out.mono ?_
  rintro r w2 hpo
  rcases hpo.split with ⟨a, ts, _, hr2, rfl, ⟨rfl, ha⟩, i2, e2, l2, hp2, hs2⟩ | ⟨d', hr2, rfl, hs2⟩
  · subst e2
    obtain ⟨w3, hw3⟩ : ∃ w3, w3 = w2.alloc (.cells #[strV a, .slice none 0 0, .int .i64 0, .string ⟨#[]⟩, .string ⟨#[]⟩, .slice none 0 0] 48) := ⟨_, rfl⟩
    have hb3 : Below w2.heap.size w2 w3 := by rw [hw3]; exact (Below.refl _ _).alloc (Nat.le_refl _) _
    have HX3 : Hid (Blk w3 w2.heap.size [strV a, .slice none 0 0, .int .i64 0, .string ⟨#[]⟩, .string ⟨#[]⟩, .slice none 0 0] 48) := by rw [hw3]; exact Lib.hid (Blk.new _ _ _)
    have hz2 := hs2.blk HZ1.out (fun e => hgn e.symm)
    have HZL := Lib.hid hz2.lt
    have HZ3 := Lib.hid (hz2.below hb3 hz2.lt)
    have HS3 := Lib.hid (sp_trans (sp_trans HS1.out hs2) (Spared.of_below hb3 (onG g)))
    have hgm : g ≠ w2.heap.size := Nat.ne_of_lt hp2.lt
    have hzx : ¬ W.heap.size = w2.heap.size := Nat.ne_of_lt HZL.out
    have hxz : ¬ w2.heap.size = W.heap.size := fun e => hzx e.symm
    have HQ3 := Lib.hid (expect_any (hp2.below hb3) (t := [58]) (.inr (.inr ⟨58, by decide, rfl⟩)) (by decide))
    have HR2 := Lib.hid hr2
    have HL2 := Lib.hid l2
    have HA := Lib.hid ha
    have HW3 := Lib.hid hw3
    clear hb3 hz2 hp2 hs2 hr2 l2 ha hw3 hpo
    go_wp2_with fail
    rw [← HW3.out]
    go_at_call 49
    refine HQ3.out.mono ?_
    rintro r w4 hpo
    rcases hpo.split with ⟨_, ts, _, hr4, rfl, rfl, i4, e4, l4, hp4, hs4⟩ | ⟨d', hr4, rfl, hs4⟩
    · subst e4
      have HX4 := Lib.hid (hs4.blk HX3.out (fun e => hgm e.symm))
      have HZ4 := Lib.hid (hs4.blk HZ3.out (fun e => hgn e.symm))
      have HS4 := Lib.hid (sp_trans HS3.out hs4)
      have HR4 := Lib.hid hr4
      have HL4 := Lib.hid l4
      have HP4 := Lib.hid hp4
      clear hr4 l4 hp4 hs4 hpo HX3 HZ3 HS3 HQ3
      go_wp2_with fail
      have HSP := Lib.hid (psep_any HP4.out)
      go_wp2_with fail
      go_at_call 86
      refine HSP.out.mono ?_
      rintro r w5 hpo
      rcases hpo.split with ⟨rs, ts, _, hr5, rfl, ⟨A, c, rfl, hrow, hlen⟩, i5, e5, l5, hp5, hs5⟩ | ⟨d', hr5, rfl, hs5⟩
      · subst e5
        have hx5 := hs5.blk HX4.out (fun e => hgm e.symm)
        have hz5 := hs5.blk HZ4.out (fun e => hgn e.symm)
        have v0 := hz5.cell (i := 0) (by simp)
        have v1 := hz5.cell (i := 1) (by simp)
        have v2 := hz5.cell (i := 2) (by simp)
        have v3 := hz5.cell (i := 3) (by simp)
        have v4 := hz5.cell (i := 4) (by simp)
        have v5 := hz5.cell (i := 5) (by simp)
        have x0 := hx5.cell (i := 0) (by simp)
        have x1 := hx5.cell (i := 1) (by simp)
        have x2 := hx5.cell (i := 2) (by simp)
        have x3 := hx5.cell (i := 3) (by simp)
        have x4 := hx5.cell (i := 4) (by simp)
        have x5 := hx5.cell (i := 5) (by simp)
        simp only [List.getElem_cons_succ, List.getElem_cons_zero] at v0 v1 v2 v3 v4 v5 x0 x1 x2 x3 x4 x5
        have f0 := hz5.free 0
        have f1 := hz5.free 1
        have f2 := hz5.free 2
        have f3 := hz5.free 3
        have f4 := hz5.free 4
        have f5 := hz5.free 5
        have xf := hx5.free 1
        have hm4 := HX4.out.lt
        have hzw : W.heap.size ≤ w2.heap.size := Nat.le_of_lt HZL.out
        have HROW : Hid (RowAt 2 RfAt (w5.setCell ⟨w2.heap.size, 1, none⟩ (.slice A rs.length c)) (fun x => x = g ∨ x < W.heap.size ∨ x = W.heap.size) A rs) := Lib.hid (RowAt.moved (F := fun x => x = g ∨ x ≤ w2.heap.size) ((Spared.refl w5 _).setCell (g := w2.heap.size) (.inr (Nat.le_refl _)) 1 _) (fun i hi => .inl (hi.elim .inl (fun h => .inr (by have := HZL.out; omega)))) (fun _ _ _ h => h) (RowAt.moved (F := Old g w4) (Spared.refl w5 _) (fun i hi => .inl (hi.elim .inl (fun h => .inr (by omega)))) (fun _ _ _ h => h) hrow))
        have HP5 := Lib.hid (hp5.setNew hg hzw 1 (.slice A rs.length c))
        have HS5 := Lib.hid ((sp_trans HS4.out hs5).setNew hzw 1 (.slice A rs.length c))
        have HR5 := Lib.hid hr5
        have HL5 := Lib.hid l5
        have HLN := Lib.hid hlen
        clear hx5 hz5 hm4 hzw hrow hp5 hs5 hr5 l5 hlen hpo
        go_wp2_with fail
        refine bodyPost_ret (v := .agg #[strV a, .slice A rs.length c, .int .i64 0, .string ⟨#[]⟩, .string ⟨#[]⟩, .slice none 0 0]) (by simp [results, Try.results68, go_sem, v0, v1, v2, v3, v4, v5]) rfl ?_
        refine POut.rl6 (e := ⟨a, rs, noEx⟩) hg (Nat.le_refl _) (by rw [HR.out, HR2.out]; simp only [Rs.then]; rw [HR4.out]; simp only; rw [HR5.out]) (by have := HL2.out; have := HL4.out; have := HL5.out; omega) HP5.out HS5.out rfl ⟨A, c, [.int .i64 0, strV [], strV [], .slice none 0 0], rfl, ⟨HA.out, by have := HLN.out; show rs.length ≤ _; omega⟩, HROW.out, ExAt.of_row (k := 0) (n := []) (o := []) (ks := []) (A := none) (c := 0) ⟨⟨by decide, by decide⟩, Nat.zero_le _, Nat.zero_le _, Nat.zero_le _⟩ (.inl rfl)⟩ _ _ _ _ _ _
      · have HR5 := Lib.hid hr5
        clear hr5
        go_wp2_with fail
        exact ⟨rfl, POut.no_ (by rw [HR.out, HR2.out]; simp only [Rs.then]; rw [HR4.out]; simp only; rw [HR5.out]) (sp_trans HS4.out hs5)⟩
    · have HR4 := Lib.hid hr4
      clear hr4
      go_wp2_with fail
      exact ⟨rfl, POut.no_ (by rw [HR.out, HR2.out]; simp only [Rs.then]; rw [HR4.out]) (sp_trans HS3.out hs4)⟩
  · have HR2 := Lib.hid hr2
    clear hr2
    go_wp2_with fail
    exact ⟨rfl, POut.no_ (by rw [HR.out, HR2.out]; rfl) (sp_trans HS1.out hs2)⟩
set_option maxHeartbeats 1000000 in
theorem defined_any {W : World} {g : Nat} {s : ByteArray} {i : Nat} (h : PAt W g s i 0) :
    Calls Try.prog 69 #[.pointer (some ⟨g, 0, none⟩)] W (POut (relV W g) W g s i 0 (defP (toks s.data.toList i))) := by
  have hg := h.lt
  have hgn : g ≠ W.heap.size := Nat.ne_of_lt hg
  have hmf : ∀ (fn : Fn) (first cap : Array Value) (w : World), (Instr.makeFunc fn first cap).run Try.prog w = .ok (.func fn first cap) w := fun _ _ _ _ => rfl
  rw [show defP (toks s.data.toList i) = (nameP (toks s.data.toList i)).then fun n r => (mustP [58] r).then fun _ r => (exprD 12 r).then fun e r => .ok (⟨n, [], e⟩ : Rl) r from rfl]
  obtain ⟨W1, hW1⟩ : ∃ W1, W1 = W.alloc (.cells #[.string ⟨#[]⟩, .slice none 0 0, .int .i64 0, .string ⟨#[]⟩, .string ⟨#[]⟩, .slice none 0 0] 48) := ⟨_, rfl⟩
  have hb1 : Below W.heap.size W W1 := by rw [hW1]; exact (Below.refl W.heap.size W).alloc (Nat.le_refl _) _
  have HZ1 : Hid (Blk W1 W.heap.size [.string ⟨#[]⟩, .slice none 0 0, .int .i64 0, .string ⟨#[]⟩, .string ⟨#[]⟩, .slice none 0 0] 48) := by rw [hW1]; exact Lib.hid (Blk.new W _ _)
  have HS1 := Lib.hid (Spared.of_below hb1 (onG g))
  have HN1 := Lib.hid (pname_any (h.below hb1))
  have HW1 := Lib.hid hW1
  obtain ⟨R, hR⟩ : ∃ R, R = (nameP (toks s.data.toList i)).then fun n r => (mustP [58] r).then fun _ r => (exprD 12 r).then fun e r => .ok (⟨n, [], e⟩ : Rl) r := ⟨_, rfl⟩
  rw [← hR]
  have HR := Lib.hid hR
  clear h hR hW1 hb1
  go_enter Try.func69, Try.ntmps69
  go_wp2_with fail
  rw [← HW1.out]
  go_at_call 67
  refine HN1.out.mono ?_
  rintro r w2 hpo
  rcases hpo.split with ⟨a, ts, _, hr2, rfl, ⟨rfl, ha⟩, i2, e2, l2, hp2, hs2⟩ | ⟨d', hr2, rfl, hs2⟩
  · subst e2
    obtain ⟨w3, hw3⟩ : ∃ w3, w3 = w2.alloc (.cells #[strV a, .slice none 0 0, .int .i64 0, .string ⟨#[]⟩, .string ⟨#[]⟩, .slice none 0 0] 48) := ⟨_, rfl⟩
    have hb3 : Below w2.heap.size w2 w3 := by rw [hw3]; exact (Below.refl _ _).alloc (Nat.le_refl _) _
    have HX3 : Hid (Blk w3 w2.heap.size [strV a, .slice none 0 0, .int .i64 0, .string ⟨#[]⟩, .string ⟨#[]⟩, .slice none 0 0] 48) := by rw [hw3]; exact Lib.hid (Blk.new _ _ _)
    have hz2 := hs2.blk HZ1.out (fun e => hgn e.symm)
    have HZL := Lib.hid hz2.lt
    have HZ3 := Lib.hid (hz2.below hb3 hz2.lt)
    have HS3 := Lib.hid (sp_trans (sp_trans HS1.out hs2) (Spared.of_below hb3 (onG g)))
    have hgm : g ≠ w2.heap.size := Nat.ne_of_lt hp2.lt
    have hzx : ¬ W.heap.size = w2.heap.size := Nat.ne_of_lt HZL.out
    have hxz : ¬ w2.heap.size = W.heap.size := fun e => hzx e.symm
    have HQ3 := Lib.hid (expect_any (hp2.below hb3) (t := [58]) (.inr (.inr ⟨58, by decide, rfl⟩)) (by decide))
    have HR2 := Lib.hid hr2
    have HL2 := Lib.hid l2
    have HA := Lib.hid ha
    have HW3 := Lib.hid hw3
    clear hb3 hz2 hp2 hs2 hr2 l2 ha hw3 hpo
    go_wp2_with fail
    rw [← HW3.out]
    go_at_call 49
    refine HQ3.out.mono ?_
    rintro r w4 hpo
    rcases hpo.split with ⟨_, ts, _, hr4, rfl, rfl, i4, e4, l4, hp4, hs4⟩ | ⟨d', hr4, rfl, hs4⟩
    · subst e4
      have HX4 := Lib.hid (hs4.blk HX3.out (fun e => hgm e.symm))
      have HZ4 := Lib.hid (hs4.blk HZ3.out (fun e => hgn e.symm))
      have HS4 := Lib.hid (sp_trans HS3.out hs4)
      have HR4 := Lib.hid hr4
      have HL4 := Lib.hid l4
      have HP4 := Lib.hid hp4
      clear hr4 l4 hp4 hs4 hpo HX3 HZ3 HS3 HQ3
      go_wp2_with fail
      have HEX := Lib.hid (pexpr_all 12 0 rfl _ _ HP4.out)
      go_wp2_with fail
      go_at_call 88
      refine HEX.out.mono ?_
      rintro r w5 hpo
      rcases hpo.split with ⟨ex, ts, _, hr5, rfl, ⟨cs, rfl, hE5, _⟩, i5, e5, l5, hp5, hs5⟩ | ⟨d', hr5, rfl, hs5⟩
      · subst e5
        obtain ⟨p1, p2, p3, pA, pm, pc, rfl⟩ := hE5.shape
        have hx5 := hs5.blk HX4.out (fun e => hgm e.symm)
        have hz5 := hs5.blk HZ4.out (fun e => hgn e.symm)
        have v0 := hz5.cell (i := 0) (by simp)
        have v1 := hz5.cell (i := 1) (by simp)
        have v2 := hz5.cell (i := 2) (by simp)
        have v3 := hz5.cell (i := 3) (by simp)
        have v4 := hz5.cell (i := 4) (by simp)
        have v5 := hz5.cell (i := 5) (by simp)
        have x0 := hx5.cell (i := 0) (by simp)
        have x1 := hx5.cell (i := 1) (by simp)
        have x2 := hx5.cell (i := 2) (by simp)
        have x3 := hx5.cell (i := 3) (by simp)
        have x4 := hx5.cell (i := 4) (by simp)
        have x5 := hx5.cell (i := 5) (by simp)
        simp only [List.getElem_cons_succ, List.getElem_cons_zero] at v0 v1 v2 v3 v4 v5 x0 x1 x2 x3 x4 x5
        have f0 := hz5.free 0
        have f1 := hz5.free 1
        have f2 := hz5.free 2
        have f3 := hz5.free 3
        have f4 := hz5.free 4
        have f5 := hz5.free 5
        have xf2 := hx5.free 2
        have xf3 := hx5.free 3
        have xf4 := hx5.free 4
        have xf5 := hx5.free 5
        have hm4 := HX4.out.lt
        have hzw : W.heap.size ≤ w2.heap.size := Nat.le_of_lt HZL.out
        have HEX5 := Lib.hid (ExAt.moved (F := fun x => x = g ∨ x ≤ w2.heap.size) (G := fun x => x = g ∨ x < W.heap.size ∨ x = W.heap.size) (((((Spared.refl w5 (fun x => x = g ∨ x ≤ w2.heap.size)).setCell (g := w2.heap.size) (.inr (Nat.le_refl _)) 2 (.int .i64 p1)).setCell (g := w2.heap.size) (.inr (Nat.le_refl _)) 3 (strV p2)).setCell (g := w2.heap.size) (.inr (Nat.le_refl _)) 4 (strV p3)).setCell (g := w2.heap.size) (.inr (Nat.le_refl _)) 5 (.slice pA pm pc)) (fun i hi => .inl (hi.elim .inl (fun h => .inr (by have := HZL.out; omega)))) _ _ (ExAt.moved (F := Old g w4) (Spared.refl w5 _) (fun i hi => .inl (hi.elim .inl (fun h => .inr (by omega)))) _ _ hE5))
        have HP5 := Lib.hid ((((hp5.setNew hg hzw 2 (.int .i64 p1)).setNew hg hzw 3 (strV p2)).setNew hg hzw 4 (strV p3)).setNew hg hzw 5 (.slice pA pm pc))
        have HS5 := Lib.hid (((((sp_trans HS4.out hs5).setNew hzw 2 (.int .i64 p1)).setNew hzw 3 (strV p2)).setNew hzw 4 (strV p3)).setNew hzw 5 (.slice pA pm pc))
        have HR5 := Lib.hid hr5
        have HL5 := Lib.hid l5
        clear hx5 hz5 hm4 hzw hE5 hp5 hs5 hr5 l5 hpo
        go_wp2_with fail
        refine bodyPost_ret (v := .agg #[strV a, .slice none 0 0, .int .i64 p1, strV p2, strV p3, .slice pA pm pc]) (by simp [results, Try.results69, go_sem, v0, v1, v2, v3, v4, v5]) rfl ?_
        refine POut.rl6 (e := ⟨a, [], ex⟩) hg (Nat.le_refl _) (by rw [HR.out, HR2.out]; simp only [Rs.then]; rw [HR4.out]; simp only; rw [HR5.out]) (by have := HL2.out; have := HL4.out; have := HL5.out; omega) HP5.out HS5.out rfl ⟨none, 0, _, rfl, ⟨HA.out, Nat.zero_le _⟩, .inl rfl, HEX5.out⟩ _ _ _ _ _ _
      · have HR5 := Lib.hid hr5
        clear hr5
        go_wp2_with fail
        exact ⟨rfl, POut.no_ (by rw [HR.out, HR2.out]; simp only [Rs.then]; rw [HR4.out]; simp only; rw [HR5.out]) (sp_trans HS4.out hs5)⟩
    · have HR4 := Lib.hid hr4
      clear hr4
      go_wp2_with fail
      exact ⟨rfl, POut.no_ (by rw [HR.out, HR2.out]; simp only [Rs.then]; rw [HR4.out]) (sp_trans HS3.out hs4)⟩
  · have HR2 := Lib.hid hr2
    clear hr2
    go_wp2_with fail
    exact ⟨rfl, POut.no_ (by rw [HR.out, HR2.out]; rfl) (sp_trans HS1.out hs2)⟩
end Go.Proofs.Ytpiaiibobjlipaa
namespace Go.Proofs.Ytpiaiibobjlipaa
open Go.RowKit
def Keeps {α : Type} (R : World → (Nat → Prop) → α → List Value → Prop) : Prop := ∀ (W W' : World) (F G : Nat → Prop), Spared W W' F → (∀ i, G i → F i ∨ W.heap.size ≤ i) → ∀ x cs, R W F x cs → R W' G x cs
theorem keeps_rl : Keeps RlAt := fun _ _ _ _ hs hG _ _ h => h.moved hs hG
theorem keeps_ty : Keeps TyAt := fun _ _ _ _ hs hG _ _ h => h.moved hs hG
abbrev offR (g base : Nat) (v : Value) : Nat → Prop := fun b => b = g ∨ b < base ∨ some b = v.ownBlock
structure RowOf {α : Type} (R : World → (Nat → Prop) → α → List Value → Prop) (w : World) (base : Nat) (e : TypeId) (s g : Nat) (A : Option Addr) (n c : Nat) (ps : List (α × List Value)) : Prop where
  own : w.ownsRow base e s (.slice A n c) n (ps.flatMap (·.2))
  len : n = ps.length
  each : ∀ p ∈ ps, p.2.length = s ∧ R w (offR g base (.slice A n c)) p.1 p.2
section
variable {α : Type} {R : World → (Nat → Prop) → α → List Value → Prop} {w w' : World} {base : Nat} {e : TypeId} {s g : Nat} {A A' : Option Addr} {n c c' : Nat} {ps : List (α × List Value)}
theorem RowOf.nil (w : World) (base : Nat) (e : TypeId) (s g : Nat) : RowOf R w base e s g none 0 0 [] := ⟨World.ownsRow_nil _ _ _ _, rfl, fun p hp => by cases hp⟩
theorem RowOf.spared (hK : Keeps R) (h : RowOf R w base e s g A n c ps) (hg : g < base) (hs : Spared w w' (fun b => b = g ∨ b < base)) : RowOf R w' base e s g A n c ps := by
  refine ⟨own_spared h.own hs (fun i hi => by rcases hi with hi | hi <;> omega), h.len, fun p hp => ⟨(h.each p hp).1, hK _ _ _ _ (hs.mono (G := offR g base (.slice A n c)) (fun b hb => hb.elim .inl (fun h => .inr (.inl h)))) (fun _ h => .inl h) _ _ (h.each p hp).2⟩⟩
theorem RowOf.push (hK : Keeps R) (h : RowOf R w base e s g A n c ps) {x : α} {cs : List Value} (hl : cs.length = s) (hx : R w (offR g base (.slice A n c)) x cs)
    (ho : w'.ownsRow base e s (.slice A' (n + 1) c') (n + 1) (ps.flatMap (·.2) ++ cs)) (hg : (w.alloc (.cells cs.toArray e)).grownBy w' (Value.slice A n c).ownBlock) (hat : (Value.slice A' (n + 1) c').ownBlock = (Value.slice A n c).ownBlock ∨ (Value.slice A' (n + 1) c').ownBlock = some (w.heap.size + 1)) :
    RowOf R w' base e s g A' (n + 1) c' (ps ++ [(x, cs)]) := by
  have hmv : ∀ y ds, R w (offR g base (.slice A n c)) y ds → R w' (offR g base (.slice A' (n + 1) c')) y ds := fun y ds hy => by
    refine hK (w.alloc (.cells cs.toArray e)) w' (offR g base (.slice A n c)) _ (Spared.of_grown hg (fun k hk _ => .inr (.inr hk.symm))) (fun i hi => ?_) _ _ (hK w _ _ _ (Spared.of_below ((Below.refl w.heap.size w).alloc (Nat.le_refl _) _) _) (fun _ h => .inl h) _ _ hy)
    rcases hi with hi | hi | hi
    · exact .inl (.inl hi)
    · exact .inl (.inr (.inl hi))
    · rcases hat with e1 | e1
      · exact .inl (.inr (.inr (hi.trans e1)))
      · rw [e1] at hi
        injection hi with hi
        exact .inr (by rw [World.size_alloc]; omega)
  refine ⟨by simpa [List.flatMap_append] using ho, by have := h.len; simp; omega, fun p hp => ?_⟩
  rcases List.mem_append.1 hp with hp | hp
  · exact ⟨(h.each p hp).1, hmv _ _ (h.each p hp).2⟩
  · rw [List.mem_singleton.1 hp]
    exact ⟨hl, hmv _ _ hx⟩
theorem pairs_at : ∀ (l : List (α × List Value)) (_ : ∀ p ∈ l, p.2.length = s) (j : Nat) (h : j < l.length) (i : Nat), i < s → (l.flatMap (·.2))[j * s + i]? = (l[j]).2[i]?
  | x :: r, hf, 0, _, i, hi => by
    simp only [List.flatMap_cons, Nat.zero_mul, Nat.zero_add, List.getElem_cons_zero]
    rw [List.getElem?_append_left (by rw [hf x List.mem_cons_self]; exact hi)]
  | x :: r, hf, j + 1, h, i, hi => by
    have hx := hf x List.mem_cons_self
    simp only [List.flatMap_cons, List.getElem_cons_succ]
    rw [List.getElem?_append_right (by rw [hx, Nat.succ_mul]; omega), hx, show (j + 1) * s + i - s = j * s + i by rw [Nat.succ_mul]; omega]
    exact pairs_at r (fun p hp => hf p (List.mem_cons_of_mem _ hp)) j (by simpa using h) i hi
theorem RowOf.row (hK : Keeps R) (h : RowOf R w base e s g A n c ps) (hg : g < base) {G : Nat → Prop} (hG : ∀ i, G i → i = g ∨ i < base) : RowAt s R w G A (ps.map (·.1)) := by
  obtain ⟨⟨hl, ho⟩, rfl, he⟩ := h
  rcases ho with ⟨_, h0⟩ | ⟨b, cap, cur, hv, hb, hh, hnc, _, hsz, htake⟩
  · left
    rw [List.length_eq_zero_iff.1 h0]; rfl
  · injection hv with hA _ _
    refine .inr ⟨b, 0, hA, ?_, fun hf => by rcases hG b hf with h | h <;> omega, fun j hj => ?_⟩
    · rcases Nat.lt_or_ge b w.heap.size with hlt | hge
      · exact hlt
      · rw [Array.getElem?_eq_none hge] at hh; cases hh
    rw [List.length_map] at hj
    have hm := List.getElem_mem hj
    refine ⟨(ps[j]).2, ?_, fun i hi => ?_⟩
    · rw [List.getElem_map]
      exact hK _ _ _ _ (Spared.refl w (offR g base (.slice A ps.length c))) (fun i hi => .inl ((hG i hi).elim .inl (fun h => .inr (.inl h)))) _ _ (he _ hm).2
    · rw [Nat.zero_add, cell_of_row w b _ cur e (0, 0) hh, ← pairs_at ps (fun p hp => (he p hp).1) j hj i hi, ← htake]
      have hlt : j * s + i < ps.length * s := by
        have : (j + 1) * s ≤ ps.length * s := Nat.mul_le_mul_right s hj
        rw [Nat.succ_mul] at this
        omega
      rw [List.getElem?_take, if_pos hlt]
      simp
end
theorem step_append_row {P : Program} (w : World) {ops : Array Oper} {o : Oper} {a : Act} {K : Act → World → Prop} {Q : Exit → Act → World → Prop} {E : Prop} (hgd : o.guard = none) (s x : Operand) (t : TypeId)
    (ho : o.op = .call { callee := .builtin .append, args := #[s, x], argTypes := #[t, t] })
    {e : TypeId} {k b : Nat} {i : TypeInfo} {z : Value} (R : RowT P t e k b i z) (hk : 0 < k) (hb64 : b ≤ 128)
    (base : Nat) (A : Option Addr) (n c : Nat) (xs : List Value) (L : List Value) (hL : L.length = k) (hs : a.eval s = .slice A n c) (hx : a.eval x = .slice (some ⟨w.heap.size, 0, none⟩) 1 1)
    (hbase : base ≤ w.heap.size) (h : w.ownsRow base e k (.slice A n c) n xs) (hone : ∀ u ∈ L, u.oneCell' = true) (hn : n ≤ 1000000)
    (K0 : ∀ A' c' w', w'.ownsRow base e k (.slice A' (n + 1) c') (n + 1) (xs ++ L) → (w.alloc (.cells L.toArray e)).grownBy w' (Value.slice A n c).ownBlock →
      ((Value.slice A' (n + 1) c').ownBlock = (Value.slice A n c).ownBlock ∨ (Value.slice A' (n + 1) c').ownBlock = some (w.heap.size + 1)) → K (a.put o.dst (.slice A' (n + 1) c')) w') :
    if Region.wanted o (yielded ops a.tmps) = true then Oper.wp P o a (w.alloc (.cells L.toArray e)) K Q else E := by
  have hw : Region.wanted o (yielded ops a.tmps) = true := by simp [Region.wanted, hgd]
  rw [if_pos hw]
  have hlist : (w.alloc (.cells L.toArray e)).ownsRow base e k (.slice A n c) n xs := h.alloc _
  obtain ⟨v', w', hr, h2, h3, _, h5⟩ := run_append_own_at (P := P) (w.alloc (.cells L.toArray e)) base t o.type e i z k b R.ht R.hi R.hz R.hs R.hb R.zs hk _ n xs hlist ⟨w.heap.size, 0, none⟩ 1 1 L (by rw [hL, Nat.one_mul]) (cells_new _ _ _) hone (by unfold maxLen; omega) (Nat.le_trans (Nat.mul_le_mul_left _ hb64) (by omega)) (by rw [World.size_alloc]; omega)
  obtain ⟨A', c', rfl⟩ := ownrow_shape h2
  rw [World.size_alloc] at h5
  unfold Oper.wp execOp
  simp only [ho, resolve, invoke, builtin, Sem.run_bind, Sem.run_pure, Result.andThen_ok, List.map_toArray, List.map_cons, List.map_nil, hs, hx, hr]
  exact K0 A' c' w' h2 h3 h5
theorem step_call_or {P : Program} {ops : Array Oper} {o : Oper} {a : Act} {K : Act → World → Prop} {Q : Exit → Act → World → Prop} {E : Prop} {w : World} (hgd : o.guard = none) (f : FuncId) (hcall : ∀ (args : Array Value) (w : World), (callFunc f args).run P w = .ok (.enter f args) w) (x : Operand) {ts : Array TypeId} {u : Value}
    (ho : o.op = .call { callee := .value (.func f), args := #[x], argTypes := ts }) (hx : a.eval x = u) (h : Calls P f #[u] w fun e w' => (∃ r, e = .returned r ∧ K (a.put o.dst r) w') ∨ ∃ chain, e = .panicked chain ∧ Q (.panic chain) a w') :
    if Region.wanted o (yielded ops a.tmps) = true then Oper.wp P o a w K Q else E := by
  have hw : Region.wanted o (yielded ops a.tmps) = true := by simp [Region.wanted, hgd]
  rw [if_pos hw]
  subst hx
  have hrun : (execOp a.eval o).run P w = .ok (.enter f #[a.eval x]) w := by
    simp [execOp, ho, resolve, invoke, Act.eval, Deferred.ofValue, hcall]
  unfold Oper.wp
  rw [hrun, Oper.upon_enter]
  refine h.mono ?_
  rintro e w' (⟨r, rfl, hr⟩ | ⟨chain, rfl, hr⟩)
  · exact hr
  · exact hr
end Go.Proofs.Ytpiaiibobjlipaa
