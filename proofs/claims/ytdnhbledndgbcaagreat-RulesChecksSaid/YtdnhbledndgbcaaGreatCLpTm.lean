/-
  The chapter's examples of layer 12, as lists: parsed, their faults and levels. No program is named.
  The document's atom, in the reader: what stands in brackets is told by a contract of expr, one bracket deeper.
  The document's term, in the reader.
-/
import Derived.Test.YtdnhbledndgbcaaGreatCLaF
import Derived.Test.YtdnhbledndgbcaaGreatCRoQe
import Derived.Test.YtdnhbledndgbcaaGreatCRoCr
import Derived.Test.YtdnhbledndgbcaaGreatCRlTy
namespace Go.Proofs.YtdnhbledndgbcaaGreat
open Go.RowKit
def rkT1 : Txt := [116, 121, 112, 101, 32, 117, 32, 114, 101, 108, 97, 116, 105, 111, 110, 32, 97, 58, 32, 117, 32, 100, 101, 102, 105, 110, 101, 32, 98, 58, 32, 97, 32, 45, 32, 99, 32, 100, 101, 102, 105, 110, 101, 32, 99, 58, 32, 97, 32, 45, 32, 98]
def rkS1 : Sc := [⟨[117], [⟨[97], [([117], [])], noEx⟩, ⟨[98], [], .mk 4 [] [] [.mk 0 [97] [] [], .mk 0 [99] [] []]⟩, ⟨[99], [], .mk 4 [] [] [.mk 0 [97] [] [], .mk 0 [98] [] []]⟩]⟩]
theorem rk_parse1 : parseT rkT1 = (rkS1, (0, 0, 0)) := by
  unfold parseT
  rw [← tokF_eq 100 rkT1 1 1 (by decide), if_neg (by decide)]
  have h : wholeP (tokF 100 rkT1 1 1) = .ok rkS1 [([], 1, 53)] := by kernel_rfl
  rw [h]
def rkT2 : Txt := [116, 121, 112, 101, 32, 117, 32, 114, 101, 108, 97, 116, 105, 111, 110, 32, 97, 58, 32, 117, 32, 100, 101, 102, 105, 110, 101, 32, 98, 58, 32, 97, 32, 45, 32, 99, 32, 100, 101, 102, 105, 110, 101, 32, 99, 58, 32, 97]
def rkS2 : Sc := [⟨[117], [⟨[97], [([117], [])], noEx⟩, ⟨[98], [], .mk 4 [] [] [.mk 0 [97] [] [], .mk 0 [99] [] []]⟩, ⟨[99], [], .mk 0 [97] [] []⟩]⟩]
theorem rk_parse2 : parseT rkT2 = (rkS2, (0, 0, 0)) := by
  unfold parseT
  rw [← tokF_eq 100 rkT2 1 1 (by decide), if_neg (by decide)]
  have h : wholeP (tokF 100 rkT2 1 1) = .ok rkS2 [([], 1, 49)] := by kernel_rfl
  rw [h]
def rkT3 : Txt := [116, 121, 112, 101, 32, 117, 32, 114, 101, 108, 97, 116, 105, 111, 110, 32, 97, 58, 32, 117]
def rkS3 : Sc := [⟨[117], [⟨[97], [([117], [])], noEx⟩]⟩]
theorem rk_parse3 : parseT rkT3 = (rkS3, (0, 0, 0)) := by
  unfold parseT
  rw [← tokF_eq 100 rkT3 1 1 (by decide), if_neg (by decide)]
  have h : wholeP (tokF 100 rkT3 1 1) = .ok rkS3 [([], 1, 21)] := by kernel_rfl
  rw [h]
theorem rk_doc1 : docC rkS1 = (0, 1, 11) := by kernel_rfl
theorem rk_doc2 : docC rkS2 = (0, 0, 0) := by kernel_rfl
theorem rk_lev2 : levS rkS2 = [[0, 1, 0]] := by kernel_rfl
theorem rk_find3 : findR rkS3 [117] [97] = (⟨[97], [([117], [])], noEx⟩, true) := by kernel_rfl
def refsOk (s : Sc) : Bool := s.all fun t => t.rels.all fun r => decide (r.refs.length ≤ 1000000)
theorem refsOk_is {s : Sc} (h : refsOk s = true) : ∀ t ∈ s, ∀ r ∈ t.rels, r.refs.length ≤ 1000000 := fun t ht r hr =>
  of_decide_eq_true (List.all_eq_true.1 (List.all_eq_true.1 h t ht) r hr)
theorem rk_refs1 : refsOk rkS1 = true := by kernel_rfl
theorem rk_refs2 : refsOk rkS2 = true := by kernel_rfl
theorem rk_cp3 : cpR ⟨[97], [([117], [])], noEx⟩ := by
  refine ⟨⟨by decide, by decide⟩, fun r hr => ?_, ?_⟩
  · rw [List.mem_singleton.1 hr]
    exact ⟨by decide, by decide⟩
  · unfold noEx cpE cpL
    exact ⟨by decide, by decide, by decide, trivial⟩
end Go.Proofs.YtdnhbledndgbcaaGreat
namespace Go.Proofs.YtdnhbledndgbcaaGreat
open Go.RowKit
theorem Goes.skip {α : Type} {X R : List Tk → Rs α} {L : List Tk} {k k' : Nat} {d d' : Dg} {a : α} {s : Txt} (hk : k < L.length) (h : ¬ (d.2.2 = 0 ∧ L[k].1 = s)) (hr : Goes R L k d a k' d') :
    Goes (fun ts => if (nx ts).1 = s then X ts else R ts) L k d a k' d' := by
  obtain ⟨l, e, m, n⟩ := hr
  refine ⟨fun hd => ?_, e, m, n⟩
  have h1 : ¬ L[k].1 = s := fun hs => h ⟨hd, hs⟩
  simp only [nx_drop hk, h1, if_false]
  exact l hd
def SubIs (sub : Option (List Tk → Rs Ex)) (g : Nat) (Q : Option Addr × Nat) (L : List Tk) (op : Nat) : Prop :=
  match sub with
  | none => op = 12
  | some f => op < 12 ∧ ∀ (W : World) (k : Nat) (d : Dg), Rd W g Q L k (op + 1) d → k < L.length → Calls Tryz.prog 69 #[.pointer (some ⟨g, 0, none⟩)] W (ExOut 1 f (Old g W) W g Q L k (op + 1) d)
set_option maxHeartbeats 1000000 in
theorem atom_goes {sub : Option (List Tk → Rs Ex)} {W : World} {g : Nat} {Q : Option Addr × Nat} {L : List Tk} {k op : Nat} {d : Dg} (he : Ends L) (hsub : SubIs sub g Q L op) (h : Rd W g Q L k op d) (hk : k < L.length) :
    Calls Tryz.prog 94 #[.pointer (some ⟨g, 0, none⟩)] W (ExOut 1 (atomK sub) (Old g W) W g Q L k op d) := by
  have hop : op ≤ 12 := by
    cases sub with
    | none => exact Nat.le_of_eq hsub
    | some f => exact Nat.le_of_lt hsub.1
  have HSUB := Lib.hid hsub
  have HR1 := Lib.hid (h.below ((Below.refl W.heap.size W).alloc (Nat.le_refl _) (.cells #[.int .i64 0, .string ⟨#[]⟩, .string ⟨#[]⟩, .slice none 0 0] 44)))
  have HS1 := Lib.hid (Spared.of_below ((Below.refl W.heap.size W).alloc (Nat.le_refl _) (.cells #[.int .i64 0, .string ⟨#[]⟩, .string ⟨#[]⟩, .slice none 0 0] 44)) (onG g))
  have HZ1 := Lib.hid (Blk.new W [.int .i64 0, .string ⟨#[]⟩, .string ⟨#[]⟩, .slice none 0 0] 44)
  have hgn : g ≠ W.heap.size := Nat.ne_of_lt h.lt
  have HR0 := Lib.hid h
  have HNX := Lib.hid (next_any HR1.out hk)
  obtain ⟨T, hT⟩ : ∃ T, T = L[k] := ⟨_, rfl⟩
  rw [← hT] at HNX
  obtain ⟨t1, t2, t3⟩ := T
  dsimp only at HNX
  have HTK := Lib.hid hT
  clear h hsub hT
  go_enter Tryz.func94, Tryz.ntmps94
  go_wp2_with fail
  go_at_call 44
  with_reducible refine HNX.out.mono ?_
  rintro r w2 ⟨rfl, hb2⟩
  have HB3 := Lib.hid ((Below.refl w2.heap.size w2).alloc (Nat.le_refl _) (.cells #[strV t1, .int .i64 (t2 : Int), .int .i64 (t3 : Int)] 89))
  have HR2 := HR1.out.below hb2
  have HR3 := Lib.hid (HR2.below HB3.out)
  have HS3 := Lib.hid (sp_trans (sp_trans HS1.out (Spared.of_below hb2 _)) (Spared.of_below HB3.out (onG g)))
  have HZ3 := Lib.hid ((HZ1.out.below hb2 HZ1.out.lt).alloc (.cells #[strV t1, .int .i64 (t2 : Int), .int .i64 (t3 : Int)] 89))
  have HT3 := Lib.hid (Blk.new w2 [strV t1, .int .i64 (t2 : Int), .int .i64 (t3 : Int)] 89)
  have hgt : g ≠ w2.heap.size := Nat.ne_of_lt HR2.lt
  have HN2 : Hid (W.heap.size < w2.heap.size) := Lib.hid (HZ1.out.below hb2 HZ1.out.lt).lt
  have HI := Lib.hid (is_any HR3.out hk [40])
  clear hb2 HB3 HR2 HR1 HS1 HZ1 HNX
  by_cases hq : d.2.2 = 0 ∧ L[k].1 = [40]
  · rw [if_pos hq, decide_eq_true hq] at HI
    have HQ := Lib.hid hq
    have hk1 : k + 1 < L.length := he.more hk (by rw [hq.2]; decide) (by rw [hq.2]; decide)
    clear hq
    go_wp2_with fail
    go_at_call 41
    with_reducible refine HI.out.mono ?_
    rintro r w4 ⟨rfl, hr4, hs4⟩
    have HR4 := Lib.hid hr4
    have x2 := hr4.1.cell (i := 2) (by simp)
    simp only [List.getElem_cons_succ, List.getElem_cons_zero] at x2
    have f2 := hr4.1.free 2
    have HS5 := Lib.hid ((sp_trans HS3.out hs4).setCell (g := g) rfl 2 (.int .i64 ((op + 1 : Nat) : Int)))
    have HR5 := Lib.hid (hr4.set_open (op + 1))
    have hZ4 := hs4.blk HZ3.out (fun e => hgn e.symm)
    have HZ5 := Lib.hid (hZ4.other ⟨g, 2, none⟩ (.int .i64 ((op + 1 : Nat) : Int)) (fun e => hgn e.symm))
    have hT4 := hs4.blk HT3.out (fun e => hgt e.symm)
    have HT5 := Lib.hid (hT4.other ⟨g, 2, none⟩ (.int .i64 ((op + 1 : Nat) : Int)) (fun e => hgt e.symm))
    clear hr4 hs4 hZ4 hT4 HZ3 HT3 HS3 HR3 HI HR4
    rw [show ((op + 1 : Nat) : Int) = (op : Int) + 1 by omega] at HS5 HR5 HZ5 HT5
    rcases sub with _ | f
    · have HOP : Hid (op = 12) := Lib.hid HSUB.out
      have hx : decide ((12 : Int) < (op : Int) + 1) = true := by rw [HOP.out]; rfl
      have HF : Hid (∀ w5, Rd w5 g Q L (k + 1) (op + 1) d → Calls Tryz.prog 45 #[.pointer (some ⟨g, 0, none⟩), .agg #[strV t1, .int .i64 (t2 : Int), .int .i64 (t3 : Int)], .int .i64 9] w5 fun r w' => r = .returned (.tuple #[]) ∧ Rd w' g Q L (k + 1) (op + 1) (failT (t1, t2, t3) 9) ∧ Spared w5 w' (onG g)) := Lib.hid (fun w7 h7 => (fail_any h7 hk1 (t1, t2, t3) 9).mono fun r w' q => by rwa [if_pos HQ.out.1] at q)
      have hT5 := HT5.out
      have u0 := hT5.cell (i := 0) (by simp)
      have u1 := hT5.cell (i := 1) (by simp)
      have u2 := hT5.cell (i := 2) (by simp)
      simp only [List.getElem_cons_succ, List.getElem_cons_zero] at u0 u1 u2
      clear hT5
      go_wp2_with fail
      go_at_call 45
      with_reducible refine (HF.out _ HR5.out).mono ?_
      rintro r w6 ⟨rfl, hr6, hs6⟩
      have HR6 := Lib.hid hr6
      have HS6 := Lib.hid (sp_trans HS5.out hs6)
      have HZ6 := Lib.hid (hs6.blk HZ5.out (fun e => hgn e.symm))
      clear hr6 hs6 HZ5 HT5 HS5 HR5
      have hZ6 := HZ6.out
      have v0 := hZ6.cell (i := 0) (by simp)
      have v1 := hZ6.cell (i := 1) (by simp)
      have v2 := hZ6.cell (i := 2) (by simp)
      have v3 := hZ6.cell (i := 3) (by simp)
      simp only [List.getElem_cons_succ, List.getElem_cons_zero] at v0 v1 v2 v3
      have f0 := hZ6.free 0
      have f1 := hZ6.free 1
      have f2 := hZ6.free 2
      have f3 := hZ6.free 3
      clear hZ6
      go_wp2_with fail
      refine bodyPost_ret (v := .agg #[.int .i64 0, .string ⟨#[]⟩, .string ⟨#[]⟩, .slice none 0 0]) (by simp [results, Tryz.results94, go_sem, v0, v1, v2, v3]) rfl ?_
      unfold ExOut
      refine ⟨.mk 0 [] [] [], _, k + 1, op + 1, failT (t1, t2, t3) 9, rfl, ExAt.of_row (n := []) (o := []) ⟨⟨by decide, by decide⟩, Nat.zero_le _, Nat.zero_le _, Nat.zero_le _⟩ (.inl rfl), ⟨fun h => absurd h (fail9 _), Nat.le_succ _, Nat.le_refl _⟩, ?_, HR0.out.setNew (HR0.out.setNew (HR0.out.setNew (HR0.out.setNew HR6.out (Nat.le_refl _) 0 _) (Nat.le_refl _) 1 _) (Nat.le_refl _) 2 _) (Nat.le_refl _) 3 _, (((HS6.out.setNew (Nat.le_refl _) 0 _).setNew (Nat.le_refl _) 1 _).setNew (Nat.le_refl _) 2 _).setNew (Nat.le_refl _) 3 _⟩
      refine ⟨fun _ => .inr ⟨?_, fail9 _⟩, fun h => absurd HQ.out.1 h, by omega, hk1⟩
      unfold atomK
      rw [nx_drop hk, if_pos HQ.out.2, HTK.out]
    · have hopl : op < 12 := HSUB.out.1
      have HSB := Lib.hid HSUB.out.2
      have hx : decide ((12 : Int) < (op : Int) + 1) = false := decide_eq_false (by omega)
      clear HT5 hop
      go_wp2_with fail
      go_at_call 69
      with_reducible refine (HSB.out _ _ _ HR5.out hk1).mono ?_
      rintro r w6 ⟨e, cs, k6, op6, d6, rfl, he6, ⟨ht6, ho1, ho2⟩, hg6, hr6, hs6⟩
      obtain ⟨q1, q2, q3, qA, qm, qc, rfl⟩ := he6.shape
      have HB7 := Lib.hid ((Below.refl w6.heap.size w6).alloc (Nat.le_refl _) (.cells #[.int .i64 q1, strV q2, strV q3, .slice qA qm qc] 44))
      have HR7 := Lib.hid (hr6.below HB7.out)
      have hwn := HZ5.out.lt
      have he6' : ExAt w6 (fun b => b = g ∨ b ≤ W.heap.size) e _ := ExAt.moved (Spared.refl w6 _) (fun i hi => .inl (hi.elim .inl (fun h => .inr (by omega)))) _ _ he6
      have HE7 := Lib.hid (he6'.below HB7.out)
      clear hwn he6'
      have HG6 := Lib.hid hg6
      have HT6 := Lib.hid ht6
      have HS7 := Lib.hid (sp_trans (sp_trans HS5.out hs6) (Spared.of_below HB7.out (onG g)))
      have hZ6 := hs6.blk HZ5.out (fun e => hgn e.symm)
      have HZ7 := Lib.hid (hZ6.alloc (.cells #[.int .i64 q1, strV q2, strV q3, .slice qA qm qc] 44))
      have HX7 := Lib.hid (Blk.new w6 [.int .i64 q1, strV q2, strV q3, .slice qA qm qc] 44)
      have hge : g ≠ w6.heap.size := Nat.ne_of_lt hr6.lt
      have HN6 : Hid (W.heap.size < w6.heap.size) := Lib.hid hZ6.lt
      have hk6 : k6 < L.length := hg6.2.2.2
      have HMU := Lib.hid (must_any' he HR7.out hk6 [41] ⟨by decide, by decide⟩)
      clear he6 hr6 hs6 hZ6 hg6 ht6 HS5 HR5 HZ5
      go_wp2_with fail
      go_at_call 67
      with_reducible refine HMU.out.mono ?_
      rintro r w8 ⟨k8, d8, rfl, hg8, hr8, hs8⟩
      have HG8 := Lib.hid hg8
      have x8 := hr8.1.cell (i := 2) (by simp)
      simp only [List.getElem_cons_succ, List.getElem_cons_zero] at x8
      have f8 := hr8.1.free 2
      have HW8 := Lib.hid hr8
      have HS8 := Lib.hid (sp_trans HS7.out hs8)
      have HE8 := Lib.hid (ExAt.moved (hs8.mono (fun _ h => .inl h)) (fun _ h => .inl h) _ _ HE7.out)
      have HR9 := Lib.hid (hr8.set_open (op6 - 1))
      have HS9 := Lib.hid (HS8.out.setCell (g := g) rfl 2 (.int .i64 ((op6 - 1 : Nat) : Int)))
      have hZ8 := hs8.blk HZ7.out (fun e => hgn e.symm)
      have hX8 := hs8.blk HX7.out (fun e => hge e.symm)
      have HZ9 := Lib.hid (hZ8.other ⟨g, 2, none⟩ (.int .i64 ((op6 - 1 : Nat) : Int)) (fun e => hgn e.symm))
      have HX9 := Lib.hid (hX8.other ⟨g, 2, none⟩ (.int .i64 ((op6 - 1 : Nat) : Int)) (fun e => hge e.symm))
      have HE9 := Lib.hid (ExAt.moved ((Spared.refl w8 (fun b => b = g ∨ b ≤ W.heap.size)).setCell (g := g) (.inl rfl) 2 (.int .i64 ((op6 - 1 : Nat) : Int))) (fun _ h => .inl h) _ _ HE8.out)
      rw [show ((op6 - 1 : Nat) : Int) = (op6 : Int) - 1 by omega] at HR9 HS9 HZ9 HX9 HE9
      have hZ9 := HZ9.out
      have v0 := hZ9.cell (i := 0) (by simp)
      have v1 := hZ9.cell (i := 1) (by simp)
      have v2 := hZ9.cell (i := 2) (by simp)
      have v3 := hZ9.cell (i := 3) (by simp)
      simp only [List.getElem_cons_succ, List.getElem_cons_zero] at v0 v1 v2 v3
      have f0 := hZ9.free 0
      have f1 := hZ9.free 1
      have f2 := hZ9.free 2
      have f3 := hZ9.free 3
      clear hZ9
      have hX9 := HX9.out
      have z0 := hX9.cell (i := 0) (by simp)
      have z1 := hX9.cell (i := 1) (by simp)
      have z2 := hX9.cell (i := 2) (by simp)
      have z3 := hX9.cell (i := 3) (by simp)
      simp only [List.getElem_cons_succ, List.getElem_cons_zero] at z0 z1 z2 z3
      clear hX9 hZ8 hX8 hr8 hs8 hg8 HE7 HS7 HZ7 HX7 HR7
      go_wp2_with fail
      refine bodyPost_ret (v := .agg #[.int .i64 q1, strV q2, strV q3, .slice qA qm qc]) (by simp [results, Tryz.results94, go_sem, v0, v1, v2, v3]) rfl ?_
      unfold ExOut
      refine ⟨e, _, k8, op6 - 1, d8, rfl, ExAt.moved (((((Spared.refl _ (fun b => b = g ∨ b ≤ W.heap.size)).setCell (g := W.heap.size) (.inr (Nat.le_refl _)) 0 _).setCell (g := W.heap.size) (.inr (Nat.le_refl _)) 1 _).setCell (g := W.heap.size) (.inr (Nat.le_refl _)) 2 _).setCell (g := W.heap.size) (.inr (Nat.le_refl _)) 3 _) (fun i hi => .inl (hi.elim .inl (fun h => .inr (Nat.le_of_lt h)))) _ _ HE9.out, ⟨fun h => ?_, by omega, by omega⟩, ?_, HR0.out.setNew (HR0.out.setNew (HR0.out.setNew (HR0.out.setNew HR9.out (Nat.le_refl _) 0 _) (Nat.le_refl _) 1 _) (Nat.le_refl _) 2 _) (Nat.le_refl _) 3 _, (((HS9.out.setNew (Nat.le_refl _) 0 _).setNew (Nat.le_refl _) 1 _).setNew (Nat.le_refl _) 2 _).setNew (Nat.le_refl _) 3 _⟩
      · have h6 : d6.2.2 = 0 := Classical.byContradiction (fun h' => h' (by rw [← HG8.out.2.1 h']; exact h))
        obtain ⟨a1, a2⟩ := HT6.out h6
        exact ⟨a1, by omega⟩
      · exact Goes.take (Q := fun ts => (f ts).then fun e r => (mustP [41] r).then fun _ r => .ok e r) hk HQ.out (Goes.then HG6.out (Goes.then HG8.out (Goes.ok e HG8.out.2.2.2)))
  · rw [if_neg hq, decide_eq_false hq] at HI
    have HQ := Lib.hid hq
    clear hq hop
    go_wp2_with fail
    go_at_call 41
    with_reducible refine HI.out.mono ?_
    rintro r w4 ⟨rfl, hr4, hs4⟩
    have HZ4 := Lib.hid (hs4.blk HZ3.out (fun e => hgn e.symm))
    have HS4 := Lib.hid (sp_trans HS3.out hs4)
    have HNM := Lib.hid (rname_goes he hr4 hk)
    clear hr4 hs4 HZ3 HT3 HS3 HR3 HI
    go_wp2_with fail
    go_at_call 42
    with_reducible refine HNM.out.mono ?_
    rintro r w5 ⟨s, k5, d5, rfl, hs1, hg5, hr5, hp5⟩
    have hk5 : k5 < L.length := hg5.2.2.2
    have HG5 := Lib.hid hg5
    have HS5 := Lib.hid (sp_trans HS4.out hp5)
    have HZ5 := Lib.hid (hp5.blk HZ4.out (fun e => hgn e.symm))
    have HI := Lib.hid (is_any hr5 hk5 [46])
    clear hg5 hp5 HS4 HZ4 HNM hr5
    by_cases hq : d5.2.2 = 0 ∧ L[k5].1 = [46]
    · rw [if_pos hq, decide_eq_true hq] at HI
      have HQ5 := Lib.hid hq
      have hk6 : k5 + 1 < L.length := he.more hk5 (by rw [hq.2]; decide) (by rw [hq.2]; decide)
      clear hq
      go_wp2_with fail
      go_at_call 41
      with_reducible refine HI.out.mono ?_
      rintro r w6 ⟨rfl, hr6, hs6⟩
      have HZ6 := Lib.hid (hs6.blk HZ5.out (fun e => hgn e.symm))
      have HS6 := Lib.hid (sp_trans HS5.out hs6)
      have HNM := Lib.hid (rname_goes he hr6 hk6)
      clear hr6 hs6 HZ5 HS5 HI
      go_wp2_with fail
      go_at_call 42
      with_reducible refine HNM.out.mono ?_
      rintro r w7 ⟨o, k7, d7, rfl, hs2, hg7, hr7, hp7⟩
      have HG7 := Lib.hid hg7
      have HR7 := Lib.hid hr7
      have HS7 := Lib.hid (sp_trans HS6.out hp7)
      have HZ7 := Lib.hid (hp7.blk HZ6.out (fun e => hgn e.symm))
      clear hg7 hr7 hp7 HS6 HZ6 HNM
      have hZ7 := HZ7.out
      have v0 := hZ7.cell (i := 0) (by simp)
      have v1 := hZ7.cell (i := 1) (by simp)
      have v2 := hZ7.cell (i := 2) (by simp)
      have v3 := hZ7.cell (i := 3) (by simp)
      simp only [List.getElem_cons_succ, List.getElem_cons_zero] at v0 v1 v2 v3
      have f0 := hZ7.free 0
      have f1 := hZ7.free 1
      have f2 := hZ7.free 2
      have f3 := hZ7.free 3
      clear hZ7
      go_wp2_with fail
      refine bodyPost_ret (v := .agg #[.int .i64 1, strV s, strV o, .slice none 0 0]) (by simp [results, Tryz.results94, go_sem, v0, v1, v2, v3]) rfl ?_
      unfold ExOut
      refine ⟨.mk 1 s o [], _, k7, op, d7, rfl, ExAt.of_row (k := 1) (n := s) (o := o) ⟨⟨by decide, by decide⟩, hs1, hs2, Nat.zero_le _⟩ (.inl rfl), ⟨fun _ => ⟨by simp [heightE, heightL], rfl⟩, Nat.le_refl _, Nat.le_succ _⟩, ?_, HR0.out.setNew (HR0.out.setNew (HR0.out.setNew (HR0.out.setNew HR7.out (Nat.le_refl _) 0 _) (Nat.le_refl _) 1 _) (Nat.le_refl _) 2 _) (Nat.le_refl _) 3 _, (((HS7.out.setNew (Nat.le_refl _) 0 _).setNew (Nat.le_refl _) 1 _).setNew (Nat.le_refl _) 2 _).setNew (Nat.le_refl _) 3 _⟩
      exact Goes.skip hk HQ.out (Goes.then HG5.out (Goes.take (Q := fun r => (nameP r).then fun o r => .ok (Ex.mk 1 s o []) r) hk5 HQ5.out (Goes.then HG7.out (Goes.ok (Ex.mk 1 s o []) HG7.out.2.2.2))))
    · rw [if_neg hq, decide_eq_false hq] at HI
      have HQ5 := Lib.hid hq
      clear hq
      go_wp2_with fail
      go_at_call 41
      with_reducible refine HI.out.mono ?_
      rintro r w6 ⟨rfl, hr6, hs6⟩
      have HR6 := Lib.hid hr6
      have HZ6 := Lib.hid (hs6.blk HZ5.out (fun e => hgn e.symm))
      have HS6 := Lib.hid (sp_trans HS5.out hs6)
      clear hr6 hs6 HZ5 HS5 HI
      have hZ6 := HZ6.out
      have v0 := hZ6.cell (i := 0) (by simp)
      have v1 := hZ6.cell (i := 1) (by simp)
      have v2 := hZ6.cell (i := 2) (by simp)
      have v3 := hZ6.cell (i := 3) (by simp)
      simp only [List.getElem_cons_succ, List.getElem_cons_zero] at v0 v1 v2 v3
      have f0 := hZ6.free 0
      have f1 := hZ6.free 1
      have f2 := hZ6.free 2
      have f3 := hZ6.free 3
      clear hZ6
      go_wp2_with fail
      refine bodyPost_ret (v := .agg #[.int .i64 0, strV s, strV [], .slice none 0 0]) (by simp [results, Tryz.results94, go_sem, v0, v1, v2, v3]) rfl ?_
      unfold ExOut
      refine ⟨.mk 0 s [] [], _, k5, op, d5, rfl, ExAt.of_row (k := 0) (n := s) (o := []) ⟨⟨by decide, by decide⟩, hs1, Nat.zero_le _, Nat.zero_le _⟩ (.inl rfl), ⟨fun _ => ⟨by simp [heightE, heightL], rfl⟩, Nat.le_refl _, Nat.le_succ _⟩, ?_, HR0.out.setNew (HR0.out.setNew (HR0.out.setNew (HR0.out.setNew HR6.out (Nat.le_refl _) 0 _) (Nat.le_refl _) 1 _) (Nat.le_refl _) 2 _) (Nat.le_refl _) 3 _, (((HS6.out.setNew (Nat.le_refl _) 0 _).setNew (Nat.le_refl _) 1 _).setNew (Nat.le_refl _) 2 _).setNew (Nat.le_refl _) 3 _⟩
      exact Goes.skip hk HQ.out (Goes.then HG5.out (Goes.skip hk5 HQ5.out (Goes.ok (Ex.mk 0 s [] []) hk5)))
end Go.Proofs.YtdnhbledndgbcaaGreat
namespace Go.Proofs.YtdnhbledndgbcaaGreat
open Go.RowKit
set_option maxRecDepth 100000 in
theorem field_tok (t : Txt) (a b : Int) (w : World) : Sem.run Tryz.prog (Instr.field 89 (.agg #[strV t, .int .i64 a, .int .i64 b]) 0) w = .ok (strV t) w := rfl
def LoopAt (P : List Tk → Rs Ex) (l : Nat → Ex → List Tk → Rs Ex) (W : World) (g : Nat) (Q : Option Addr × Nat) (L : List Tk) (k op : Nat) (d : Dg) (M : Nat) (w : World) (e : Ex) (cs : List Value) (k' op' : Nat) (d' : Dg) (n : Nat) : Prop :=
  (Blk w M cs 44 ∧ Blk w W.heap.size [.int .i64 0, .string ⟨#[]⟩, .string ⟨#[]⟩, .slice none 0 0] 44 ∧ ExAt w (fun b => b = g ∨ b ≤ W.heap.size ∨ b = M) e cs ∧ Rd w g Q L k' op' d' ∧ Spared W w (onG g) ∧ W.heap.size < M) ∧ k' < L.length ∧ L.length ≤ n + k' ∧
    ((d'.2.2 = 0 → heightE e ≤ 12 ∧ op' = op) ∧ op ≤ op' ∧ op' ≤ op + 1) ∧ ∀ e' k2 d2, Goes (l n e) L k' d' e' k2 d2 → Goes P L k d e' k2 d2
theorem Goes.at_ {α : Type} {P P' : List Tk → Rs α} {L : List Tk} {k k' : Nat} {d d' : Dg} {a : α} (h : Goes P L k d a k' d') (hp : P (L.drop k) = P' (L.drop k)) : Goes P' L k d a k' d' := by
  obtain ⟨l, e, m, n⟩ := h
  exact ⟨fun hd => by rw [← hp]; exact l hd, e, m, n⟩
theorem LoopAt.done {P : List Tk → Rs Ex} {l : Nat → Ex → List Tk → Rs Ex} {W : World} {g : Nat} {Q : Option Addr × Nat} {L : List Tk} {k op : Nat} {d : Dg} {M : Nat} {w : World} {e : Ex} {cs : List Value} {k' op' : Nat} {d' : Dg} {n : Nat} {w' : World}
    (h : LoopAt P l W g Q L k op d M w e cs k' op' d' n) (h0 : Rd W g Q L k op d) (hb : Below w.heap.size w w') (u0 u1 u2 u3 : Value) (hg : Goes (l n e) L k' d' e k' d') :
    ExOut 1 P (Old g W) W g Q L k op d (.returned (.agg cs.toArray)) ((((w'.setCell ⟨W.heap.size, 0, none⟩ u0).setCell ⟨W.heap.size, 1, none⟩ u1).setCell ⟨W.heap.size, 2, none⟩ u2).setCell ⟨W.heap.size, 3, none⟩ u3) := by
  obtain ⟨⟨_, _, hE, hR, hS, hM⟩, hk', _, hh, hG⟩ := h
  have HE := hE.below hb
  have HR := hR.below hb
  have HS := sp_trans hS (Spared.of_below hb (onG g))
  unfold ExOut
  exact ⟨e, _, k', op', d', rfl, ExAt.moved (((((Spared.refl _ (fun b => b = g ∨ b ≤ W.heap.size ∨ b = M)).setCell (g := W.heap.size) (.inr (.inl (Nat.le_refl _))) 0 _).setCell (g := W.heap.size) (.inr (.inl (Nat.le_refl _))) 1 _).setCell (g := W.heap.size) (.inr (.inl (Nat.le_refl _))) 2 _).setCell (g := W.heap.size) (.inr (.inl (Nat.le_refl _))) 3 _) (fun i hi => .inl (hi.elim .inl (fun h => .inr (.inl (Nat.le_of_lt h))))) _ _ HE, hh, hG _ _ _ hg,
    h0.setNew (h0.setNew (h0.setNew (h0.setNew HR (Nat.le_refl _) 0 _) (Nat.le_refl _) 1 _) (Nat.le_refl _) 2 _) (Nat.le_refl _) 3 _, (((HS.setNew (Nat.le_refl _) 0 _).setNew (Nat.le_refl _) 1 _).setNew (Nat.le_refl _) 2 _).setNew (Nat.le_refl _) 3 _⟩
set_option maxHeartbeats 1000000 in
theorem term_goes {sub : Option (List Tk → Rs Ex)} {W : World} {g : Nat} {Q : Option Addr × Nat} {L : List Tk} {k op : Nat} {d : Dg} (he : Ends L) (hsub : SubIs sub g Q L op) (h : Rd W g Q L k op d) (hk : k < L.length) :
    Calls Tryz.prog 85 #[.pointer (some ⟨g, 0, none⟩)] W (ExOut 1 (termK sub) (Old g W) W g Q L k op d) := by
  have hb1 := (Below.refl W.heap.size W).alloc (Nat.le_refl _) (.cells #[.int .i64 0, .string ⟨#[]⟩, .string ⟨#[]⟩, .slice none 0 0] 44)
  have HR1 := h.below hb1
  have HA := Lib.hid (atom_goes he hsub HR1 hk)
  have HZ1 := Lib.hid (Blk.new W [.int .i64 0, .string ⟨#[]⟩, .string ⟨#[]⟩, .slice none 0 0] 44)
  have HS1 := Lib.hid (Spared.of_below hb1 (onG g))
  have hgn : g ≠ W.heap.size := Nat.ne_of_lt h.lt
  have HR0 := Lib.hid h
  have HSUB := Lib.hid hsub
  clear HR1 hb1 h hsub
  go_enter Tryz.func85, Tryz.ntmps85
  go_wp2_with fail
  go_at_call 94
  with_reducible refine HA.out.mono ?_
  rintro r w2 ⟨e, cs, k1, op1, d1, rfl, he1, ht1, hg1, hr1, hs1⟩
  obtain ⟨q1, q2, q3, qA, qm, qc, rfl⟩ := he1.shape
  have hZ2 := hs1.blk HZ1.out (fun e => hgn e.symm)
  have HNM := Lib.hid hZ2.lt
  have hgm : g ≠ w2.heap.size := Nat.ne_of_lt hr1.lt
  obtain ⟨w3, hw3⟩ : ∃ w3, w3 = w2.alloc (.cells #[.int .i64 q1, strV q2, strV q3, .slice qA qm qc] 44) := ⟨_, rfl⟩
  have hb3 : Below w2.heap.size w2 w3 := by rw [hw3]; exact (Below.refl w2.heap.size w2).alloc (Nat.le_refl _) _
  have HL3 : Hid (LoopAt (termK sub) (termLoop sub) W g Q L k op d w2.heap.size w3 e [.int .i64 q1, strV q2, strV q3, .slice qA qm qc] k1 op1 d1 (L.length - k)) := by
    refine Lib.hid ⟨⟨?_, hZ2.below hb3 hZ2.lt, ?_, hr1.below hb3, sp_trans (sp_trans HS1.out hs1) (Spared.of_below hb3 (onG g)), hZ2.lt⟩, hg1.2.2.2, by have := hg1.2.2.1; omega, ht1, fun e' k2 d2 hgo => ?_⟩
    · rw [hw3]; exact Blk.new _ _ _
    · refine ExAt.moved (Spared.of_below hb3 (Old g (W.alloc (.cells #[.int .i64 0, .string ⟨#[]⟩, .string ⟨#[]⟩, .slice none 0 0] 44)))) (fun i hi => ?_) _ _ he1
      rcases hi with hi | hi | hi
      · exact .inl (.inl hi)
      · exact .inl (.inr (by rw [World.size_alloc]; omega))
      · exact .inr (by omega)
    · refine Goes.at_ (Goes.then hg1 hgo) ?_
      simp only [termK, List.length_drop]
  have HW3 := Lib.hid hw3
  clear he1 ht1 hg1 hr1 hs1 hZ2 hb3 hw3 HZ1 HS1 HA
  go_wp2_with fail
  rw [← HW3.out]
  go_loopw [] (fun wr => ∃ (e : Ex) (q1 : Int) (q2 q3 : Txt) (qA : Option Addr) (qm qc k' op' : Nat) (d' : Dg) (n : Nat), Hid (LoopAt (termK sub) (termLoop sub) W g Q L k op d w2.heap.size wr e [.int .i64 q1, strV q2, strV q3, .slice qA qm qc] k' op' d' n)) (fun wr => L.length - (intOf ((wr.cell? ⟨g, 1, none⟩).getD (.int .i64 0))).toNat)
  case atStart => exact ⟨_, _, _, _, _, _, _, _, _, _, _, HL3⟩
  case round =>
    clear HL3
    obtain ⟨e, q1, q2, q3, qA, qm, qc, k', op', d', n, HL⟩ := hrel
    have HR := Lib.hid HL.out.1.2.2.2.1
    have hk' := HL.out.2.1
    have HNX : Hid (∀ w, Rd w g Q L k' op' d' → Calls Tryz.prog 44 #[.pointer (some ⟨g, 0, none⟩)] w fun e w' => e = .returned (.agg #[strV L[k'].1, .int .i64 (L[k'].2.1 : Int), .int .i64 (L[k'].2.2 : Int)]) ∧ Below w.heap.size w w') := Lib.hid (fun w h => next_any h hk')
    have hfd := fun (t : Txt) (a b : Int) (w : World) => field_tok t a b w
    obtain ⟨T, hT⟩ : ∃ T, T = L[k'] := ⟨_, rfl⟩
    rw [← hT] at HNX
    obtain ⟨t1, t2, t3⟩ := T
    dsimp only at HNX
    have HTK := Lib.hid hT
    have x5 := HR.out.1.cell (i := 5) (by simp)
    simp only [List.getElem_cons_succ, List.getElem_cons_zero] at x5
    have HZ := Lib.hid HL.out.1.2.1
    have HX := Lib.hid HL.out.1.1
    clear hT
    by_cases h0 : d'.2.2 = 0
    · have hd : ((d'.2.2 : Int) == 0) = true := by rw [h0]; rfl
      have HD := Lib.hid h0
      clear h0
      by_cases hq : t1 = [38]
      · have hts : (t1 == [38]) = true := beq_iff_eq.2 hq
        have HQ := Lib.hid hq
        have hk1 : k' + 1 < L.length := he.more hk' (by rw [← HTK.out]; show t1 ≠ []; rw [hq]; decide) (by rw [← HTK.out]; show t1 ≠ [63]; rw [hq]; decide)
        clear hq
        have HAT : Hid (∀ w, Rd w g Q L (k' + 1) op' d' → Calls Tryz.prog 94 #[.pointer (some ⟨g, 0, none⟩)] w (ExOut 1 (atomK sub) (Old g w) w g Q L (k' + 1) op' d')) := Lib.hid (fun w h => atom_goes he (by rw [(HL.out.2.2.2.1.1 HD.out).2]; exact HSUB.out) h hk1)
        go_wp2_with fail
        go_at_call 44
        with_reducible refine (HNX.out _ HR.out).mono ?_
        rintro r w4 ⟨rfl, hb4⟩
        have HB4 := Lib.hid hb4
        clear hb4
        go_wp2_with fail
        go_at_call 44
        with_reducible refine (HNX.out _ (HR.out.below HB4.out)).mono ?_
        rintro r w5 ⟨rfl, hb5⟩
        have hB6 := hop HB4.out hb5
        have hB6 := hop hB6 ((Below.refl w5.heap.size w5).alloc (Nat.le_refl _) (.cells #[strV t1, .int .i64 (t2 : Int), .int .i64 (t3 : Int)] 89))
        have hr6 := HR.out.below hB6
        have x1 := hr6.1.cell (i := 1) (by simp)
        simp only [List.getElem_cons_succ, List.getElem_cons_zero] at x1
        have f1 := hr6.1.free 1
        have hlt := HR.out.lt
        have hge : g ≠ w5.heap.size := by have := hB6.size; have := HB4.out.size; have := hb5.size; omega
        have hL3 : L.length ≤ 1000000 := HR.out.2.2
        have HT7 := Lib.hid ((Blk.new w5 [strV t1, .int .i64 (t2 : Int), .int .i64 (t3 : Int)] 89).other ⟨g, 1, none⟩ (.int .i64 ((k' + 1 : Nat) : Int)) (fun e => hge e.symm))
        have HZ7 := Lib.hid ((HZ.out.below hB6 HZ.out.lt).other ⟨g, 1, none⟩ (.int .i64 ((k' + 1 : Nat) : Int)) (fun e => hgn e.symm))
        have HX7 := Lib.hid ((HX.out.below hB6 HX.out.lt).other ⟨g, 1, none⟩ (.int .i64 ((k' + 1 : Nat) : Int)) (fun e => hgm e.symm))
        have HR7 := Lib.hid (hr6.set_at (k' + 1))
        have HS7 := Lib.hid ((sp_trans HL.out.1.2.2.2.2.1 (Spared.of_below hB6 (onG g))).setCell (g := g) rfl 1 (.int .i64 ((k' + 1 : Nat) : Int)))
        have HE7 := Lib.hid (ExAt.moved ((Spared.of_below hB6 (fun b => b = g ∨ b ≤ W.heap.size ∨ b = w2.heap.size)).setCell (g := g) (.inl rfl) 1 (.int .i64 ((k' + 1 : Nat) : Int))) (fun _ h => .inl h) _ _ HL.out.1.2.2.1)
        rw [show ((k' + 1 : Nat) : Int) = (k' : Int) + 1 by omega] at HT7 HZ7 HX7 HR7 HS7 HE7
        clear hB6 hr6 hlt hb5 HZ HX
        go_wp2_with fail
        go_at_call 94
        with_reducible refine (HAT.out _ HR7.out).mono ?_
        rintro r w8 ⟨eb, cb, k8, op8, d8, rfl, hE8, hh8, hg8, hr8, hs8⟩
        obtain ⟨p1, p2, p3, pA, pm, pc, rfl⟩ := hE8.shape
        have hk8 : k8 < L.length := hg8.2.2.2
        have hb9 := (Below.refl w8.heap.size w8).alloc (Nat.le_refl _) (.cells #[.int .i64 p1, strV p2, strV p3, .slice pA pm pc] 44)
        have hlt7 := HX7.out.lt
        have hltz := HNM.out
        have HT9 := Lib.hid ((hs8.blk HT7.out (fun e => hge e.symm)).alloc (.cells #[.int .i64 p1, strV p2, strV p3, .slice pA pm pc] 44))
        have HZ9 := Lib.hid ((hs8.blk HZ7.out (fun e => hgn e.symm)).alloc (.cells #[.int .i64 p1, strV p2, strV p3, .slice pA pm pc] 44))
        have HX9 := Lib.hid ((hs8.blk HX7.out (fun e => hgm e.symm)).alloc (.cells #[.int .i64 p1, strV p2, strV p3, .slice pA pm pc] 44))
        have HY9 := Lib.hid (Blk.new w8 [.int .i64 p1, strV p2, strV p3, .slice pA pm pc] 44)
        have HR9 := Lib.hid (hr8.below hb9)
        have HS9 := Lib.hid (sp_trans (sp_trans HS7.out hs8) (Spared.of_below hb9 (onG g)))
        have HE9 := Lib.hid ((ExAt.moved (hs8.mono (fun _ h => .inl h)) (fun _ h => .inl h) _ _ HE7.out).below hb9)
        have HEB9 := Lib.hid ((ExAt.moved (G := (fun b => b = g ∨ b ≤ W.heap.size ∨ b = w2.heap.size)) (Spared.refl w8 _) (fun i hi => .inl (hi.elim .inl (fun h => .inr (by omega)))) _ _ hE8).below hb9)
        have HG8 := Lib.hid hg8
        have HH8 := Lib.hid hh8
        have HF9 : Hid (∀ i, (fun b => b = g ∨ b ≤ W.heap.size ∨ b = w2.heap.size) i → i < (w8.alloc (.cells #[.int .i64 p1, strV p2, strV p3, .slice pA pm pc] 44)).heap.size) := Lib.hid (fun i hi => by
          have a1 := HR9.out.lt
          have a2 := HX9.out.lt
          rcases hi with hi | hi | hi
          · omega
          · omega
          · omega)
        have HTW := Lib.hid (two_goes (F := (fun b => b = g ∨ b ≤ W.heap.size ∨ b = w2.heap.size)) (.inl rfl) HF9.out HR9.out hk8 3 ⟨by decide, by decide⟩ (t1, t2, t3) HE9.out HEB9.out (fun h => ⟨(HL.out.2.2.2.1.1 HD.out).1, (HH8.out.1 h).1⟩))
        clear hE8 hh8 hg8 hr8 hs8 hb9 hlt7 hltz HT7 HZ7 HX7 HR7 HS7 HE7
        have z0 := HX9.out.cell (i := 0) (by simp)
        have z1 := HX9.out.cell (i := 1) (by simp)
        have z2 := HX9.out.cell (i := 2) (by simp)
        have z3 := HX9.out.cell (i := 3) (by simp)
        simp only [List.getElem_cons_succ, List.getElem_cons_zero] at z0 z1 z2 z3
        have y0 := HY9.out.cell (i := 0) (by simp)
        have y1 := HY9.out.cell (i := 1) (by simp)
        have y2 := HY9.out.cell (i := 2) (by simp)
        have y3 := HY9.out.cell (i := 3) (by simp)
        simp only [List.getElem_cons_succ, List.getElem_cons_zero] at y0 y1 y2 y3
        have tt0 := HT9.out.cell (i := 0) (by simp)
        have tt1 := HT9.out.cell (i := 1) (by simp)
        have tt2 := HT9.out.cell (i := 2) (by simp)
        simp only [List.getElem_cons_succ, List.getElem_cons_zero] at tt0 tt1 tt2
        go_wp2_with fail
        go_at_call 86
        with_reducible refine HTW.out.mono ?_
        rintro r w10 ⟨e10, c10, k10, op10, d10, rfl, hE10, hh10, hg10, hr10, hs10⟩
        obtain ⟨r1, r2, r3, rA, rm, rc, rfl⟩ := hE10.shape
        have HX10 := Lib.hid (hs10.blk HX9.out (fun e => hgm e.symm))
        have HZ10 := Lib.hid (hs10.blk HZ9.out (fun e => hgn e.symm))
        have HS10 := Lib.hid (sp_trans HS9.out hs10)
        have HR10 := Lib.hid hr10
        have HE10 := Lib.hid hE10
        have HH10 := Lib.hid hh10
        have HG10 := Lib.hid hg10
        have c0 := HX10.out.cell (i := 0) (by simp)
        have c1 := HX10.out.cell (i := 1) (by simp)
        have c2 := HX10.out.cell (i := 2) (by simp)
        have c3 := HX10.out.cell (i := 3) (by simp)
        simp only [List.getElem_cons_succ, List.getElem_cons_zero] at c0 c1 c2 c3
        have b0 := HX10.out.free 0
        have b1 := HX10.out.free 1
        have b2 := HX10.out.free 2
        have b3 := HX10.out.free 3
        clear hE10 hh10 hg10 hr10 hs10 HTW
        go_wp2_with fail
        go_roundw
        case rel =>
          refine ⟨e10, r1, r2, r3, rA, rm, rc, k10, op10, d10, n - 1, Lib.hid ⟨⟨?_, ((((HZ10.out.other _ _ (Nat.ne_of_lt HNM.out)).other _ _ (Nat.ne_of_lt HNM.out)).other _ _ (Nat.ne_of_lt HNM.out)).other _ _ (Nat.ne_of_lt HNM.out)), ExAt.moved (((((Spared.refl _ (fun b => b = g ∨ b ≤ W.heap.size ∨ b = w2.heap.size)).setCell (g := w2.heap.size) (.inr (.inr rfl)) 0 _).setCell (g := w2.heap.size) (.inr (.inr rfl)) 1 _).setCell (g := w2.heap.size) (.inr (.inr rfl)) 2 _).setCell (g := w2.heap.size) (.inr (.inr rfl)) 3 _) (fun _ h => .inl h) _ _ HE10.out, (HR0.out.setNew (HR0.out.setNew (HR0.out.setNew (HR0.out.setNew HR10.out (Nat.le_of_lt HNM.out) 0 _) (Nat.le_of_lt HNM.out) 1 _) (Nat.le_of_lt HNM.out) 2 _) (Nat.le_of_lt HNM.out) 3 _), ((((HS10.out.setNew (Nat.le_of_lt HNM.out) 0 _).setNew (Nat.le_of_lt HNM.out) 1 _).setNew (Nat.le_of_lt HNM.out) 2 _).setNew (Nat.le_of_lt HNM.out) 3 _), HNM.out⟩, HG10.out.2.2.2, ?_, ⟨fun h => ?_, ?_, ?_⟩, fun e' k2 d2 hgo => ?_⟩⟩
          · simpa using ((((HX10.out.set 0 (.int .i64 r1)).set 1 (strV r2)).set 2 (strV r3)).set 3 (.slice rA rm rc))
          · have := HL.out.2.2.1; have := HG8.out.2.2.1; have := HG10.out.2.2.1; omega
          · have h8 : d8.2.2 = 0 := Classical.byContradiction (fun h' => h' (by rw [← HG10.out.2.1 h']; exact h))
            have q1 := HH10.out.1 h
            have q2 := HH8.out.1 h8
            have q3 := HL.out.2.2.2.1.1 HD.out
            exact ⟨q1.1, by omega⟩
          · have := HH10.out.2.1; have := HH8.out.2.1; have := HL.out.2.2.2.1.2.1; omega
          · have := HH10.out.2.2; have := HH8.out.2.2; have := HL.out.2.2.2.1.1 HD.out; omega
          · refine HL.out.2.2.2.2 _ _ _ ?_
            have hn := HL.out.2.2.1
            obtain ⟨m, rfl⟩ : ∃ m, n = m + 1 := ⟨n - 1, by omega⟩
            have hL38 : L[k'].1 = [38] := by rw [← HTK.out]; exact HQ.out
            refine Goes.at_ (Goes.take (Q := fun ts => (atomK sub ts).then fun b r => (twoP 3 (t1, t2, t3) e b r).then fun e r => termLoop sub m e r) (R := fun ts => .ok e ts) hk' ⟨HD.out, hL38⟩ (Goes.then HG8.out (Goes.then HG10.out hgo))) ?_
            simp only [termLoop, nx_drop hk', ← HTK.out]
        case measure =>
          have e1 := HR.out.1.cell (i := 1) (by simp)
          have e2 := (HR0.out.setNew (HR0.out.setNew (HR0.out.setNew (HR0.out.setNew HR10.out (Nat.le_of_lt HNM.out) 0 (.int .i64 r1)) (Nat.le_of_lt HNM.out) 1 (.string ⟨r2.toArray⟩)) (Nat.le_of_lt HNM.out) 2 (.string ⟨r3.toArray⟩)) (Nat.le_of_lt HNM.out) 3 (.slice rA rm rc)).1.cell (i := 1) (by simp)
          simp only [List.getElem_cons_succ, List.getElem_cons_zero] at e1 e2
          have := HG8.out.2.2.1; have := HG10.out.2.2.1; have := HG10.out.2.2.2
          rw [e1, e2]
          simp [intOf]
          omega
      · have hts : (t1 == [38]) = false := beq_eq_false_iff_ne.2 hq
        have HQ := Lib.hid hq
        clear hq
        go_wp2_with (go_at_call 44; with_reducible refine (HNX.out _ HR.out).mono ?_; rintro r w4 ⟨rfl, hb4⟩; have HB4 := Lib.hid hb4; have hZ4 := (HZ.out.below hb4 HZ.out.lt); have hX4 := (HX.out.below hb4 HX.out.lt); have v0 := hZ4.cell (i := 0) (by simp); have v1 := hZ4.cell (i := 1) (by simp); have v2 := hZ4.cell (i := 2) (by simp); have v3 := hZ4.cell (i := 3) (by simp); have z0 := hX4.cell (i := 0) (by simp); have z1 := hX4.cell (i := 1) (by simp); have z2 := hX4.cell (i := 2) (by simp); have z3 := hX4.cell (i := 3) (by simp); simp only [List.getElem_cons_succ, List.getElem_cons_zero] at v0 v1 v2 v3 z0 z1 z2 z3; have f0 := hZ4.free 0; have f1 := hZ4.free 1; have f2 := hZ4.free 2; have f3 := hZ4.free 3; clear hZ4 hX4 hb4)
        refine bodyPost_ret (v := .agg #[.int .i64 q1, strV q2, strV q3, .slice qA qm qc]) (by simp [results, Tryz.results85, go_sem, v0, v1, v2, v3]) rfl ?_
        refine HL.out.done HR0.out HB4.out _ _ _ _ ?_
        have hn := HL.out.2.2.1
        obtain ⟨m, rfl⟩ : ∃ m, n = m + 1 := ⟨n - 1, by omega⟩
        refine Goes.skip (X := fun ts => (atomK sub ts.tail).then fun b r => (twoP 3 (nx ts) e b r).then fun e r => termLoop sub m e r) hk' (fun hc => HQ.out ?_) (Goes.ok e hk')
        rw [← hc.2, ← HTK.out]
    · have hd : ((d'.2.2 : Int) == 0) = false := beq_eq_false_iff_ne.2 (by omega)
      have HD := Lib.hid h0
      have v0 := HZ.out.cell (i := 0) (by simp)
      have v1 := HZ.out.cell (i := 1) (by simp)
      have v2 := HZ.out.cell (i := 2) (by simp)
      have v3 := HZ.out.cell (i := 3) (by simp)
      simp only [List.getElem_cons_succ, List.getElem_cons_zero] at v0 v1 v2 v3
      have f0 := HZ.out.free 0
      have f1 := HZ.out.free 1
      have f2 := HZ.out.free 2
      have f3 := HZ.out.free 3
      have z0 := HX.out.cell (i := 0) (by simp)
      have z1 := HX.out.cell (i := 1) (by simp)
      have z2 := HX.out.cell (i := 2) (by simp)
      have z3 := HX.out.cell (i := 3) (by simp)
      simp only [List.getElem_cons_succ, List.getElem_cons_zero] at z0 z1 z2 z3
      go_wp2_with fail
      refine bodyPost_ret (v := .agg #[.int .i64 q1, strV q2, strV q3, .slice qA qm qc]) (by simp [results, Tryz.results85, go_sem, v0, v1, v2, v3]) rfl ?_
      exact HL.out.done HR0.out (Below.refl _ _) _ _ _ _ (Goes.dead HD.out _ hk')
end Go.Proofs.YtdnhbledndgbcaaGreat
