/-
  The document's Parse. Condition: the text is at most 5,000 bytes long.
-/
import Derived.Test.YtehabjiacgibpaaGreatCLpPa
namespace Go.Proofs.YtehabjiacgibpaaGreat
open Go.RowKit
def parseR (x : Rs Sc) : Sc × Dg := match x with | .ok s _ => (s, (0, 0, 0)) | .no d => ([], d)
set_option maxRecDepth 100000 in
set_option maxHeartbeats 4000000 in
theorem dparse_any (s : ByteArray) (W : World) (hm : s.size ≤ 5000) :
    Calls Tryz.prog 16 #[.string s] W (ParsedAs W (parseT s.data.toList)) := by
  obtain ⟨R, hR⟩ : ∃ R, R = parseT s.data.toList := ⟨_, rfl⟩
  rw [← hR]
  unfold parseT at hR
  rw [size_list] at hR
  obtain ⟨W2, hW2⟩ : ∃ W2, W2 = (W.alloc (.cells #[.slice none 0 0] 39)).alloc (.cells #[.int .i64 0, .int .i64 0, .int .i64 0] 42) := ⟨_, rfl⟩
  have hb2 : Below W.heap.size W W2 := by rw [hW2]; exact ((Below.refl _ _).alloc (Nat.le_refl _) _).alloc (by simp) _
  have HZS : Hid (Blk W2 W.heap.size [.slice none 0 0] 39) := by rw [hW2]; exact Lib.hid ((Blk.new W _ _).alloc _)
  have HZD : Hid (Blk W2 (W.heap.size + 1) [.int .i64 0, .int .i64 0, .int .i64 0] 42) := by
    rw [hW2]
    have := Blk.new (W.alloc (.cells #[.slice none 0 0] 39)) [.int .i64 0, .int .i64 0, .int .i64 0] 42
    rw [World.size_alloc] at this
    exact Lib.hid this
  have HB2 := Lib.hid hb2
  have HW2 := Lib.hid hW2
  clear hb2 hW2
  by_cases hl : 4096 < s.size
  · rw [if_pos hl] at hR
    have HR := Lib.hid hR
    have hd : (4096 : Int) < (s.size : Int) := by omega
    have hdd : decide (4096 < s.size) = true := decide_eq_true hl
    clear hl hR
    go_enter Tryz.func16, Tryz.ntmps16
    go_wp2_with fail
    have hs := (Blk.new W [.slice none 0 0] 39).alloc (.cells #[.int .i64 1, .int .i64 1, .int .i64 2] 42)
    have hdg := Blk.new (W.alloc (.cells #[.slice none 0 0] 39)) [.int .i64 1, .int .i64 1, .int .i64 2] 42
    rw [World.size_alloc] at hdg
    have v0 := hs.cell (i := 0) (by simp)
    have d0 := hdg.cell (i := 0) (by simp)
    have d1 := hdg.cell (i := 1) (by simp)
    have d2 := hdg.cell (i := 2) (by simp)
    simp only [List.getElem_cons_succ, List.getElem_cons_zero] at v0 d0 d1 d2
    refine bodyPost_ret (v := .tuple #[.agg #[.slice none 0 0], .agg #[.int .i64 1, .int .i64 1, .int .i64 2]]) (by simp [results, Tryz.results16, go_sem, v0, d0, d1, d2]) rfl ?_
    rw [HR.out]
    exact ⟨none, 0, rfl, .inl rfl, ⟨by simp, by simp⟩, ((Below.refl _ _).alloc (Nat.le_refl _) _).alloc (by simp) _⟩
  rw [if_neg hl] at hR
  have HR : Hid (R = parseR (wholeP (tokL s.data.toList 1 1))) := Lib.hid hR
  have hd : (s.size : Int) ≤ 4096 := by omega
  have hdd : decide (4096 < s.size) = false := decide_eq_false hl
  have HT := Lib.hid (tokens_any s W2 (by omega))
  have HTF := Lib.hid (tok_fit s.data.toList 1 1 (Nat.le_refl _))
  have HEN := Lib.hid (ends_tok s.data.toList 1 1)
  have HSL : Hid (s.data.toList.length ≤ 5000) := Lib.hid (by rw [size_list]; exact hm)
  obtain ⟨L, hL⟩ : ∃ L, L = tokL s.data.toList 1 1 := ⟨_, rfl⟩
  rw [← hL] at HR HT HTF HEN
  obtain ⟨R', hR'⟩ : ∃ R', R' = wholeP L := ⟨_, rfl⟩
  rw [← hR'] at HR
  have HR' := Lib.hid hR'
  clear hL hR hR'
  go_enter Tryz.func16, Tryz.ntmps16
  go_wp2_with fail
  rw [← HW2.out]
  refine HT.out.mono ?_
  rintro e w1 ⟨A0, n0, c0, rfl, hn0, hn1, ho, hb1⟩
  subst hn0
  obtain ⟨W0, hW0⟩ : ∃ W0, W0 = w1.alloc (.cells #[.slice A0 L.length c0, .int .i64 0, .int .i64 0, .int .i64 0, .int .i64 0, .int .i64 0] 60) := ⟨_, rfl⟩
  obtain ⟨Wb, hWb⟩ : ∃ Wb, Wb = W0.alloc (.cells #[.slice none 0 0] 39) := ⟨_, rfl⟩
  have hb01 : Below w1.heap.size w1 W0 := by rw [hW0]; exact (Below.refl _ _).alloc (Nat.le_refl _) _
  have hbb0 : Below W0.heap.size W0 Wb := by rw [hWb]; exact (Below.refl _ _).alloc (Nat.le_refl _) _
  have hs0 : W0.heap.size = w1.heap.size + 1 := by rw [hW0, World.size_alloc]
  have HQ : Hid (∀ a, A0 = some a → a.block < w1.heap.size) := Lib.hid (fun a ha => by
    subst ha
    exact (ho.lt a.block rfl).2)
  have hfl : List.flatMap tkC L = (L.map tkC).flatten := rfl
  rw [← hfl] at ho
  have hrow : RowAt 3 TkR w1 (fun _ => False) A0 L := row_of_own tkC (fun _ => rfl) rfl ho (fun i hi => hi.elim) (fun t ht => by
    have h1 := HTF.out t ht
    have h2 := HSL.out
    exact ⟨rfl, by unfold small; omega, by omega, by omega⟩)
  have HRD0 : Hid (Rd W0 w1.heap.size (A0, c0) L 0 0 (0, 0, 0)) := by
    refine Lib.hid ⟨?_, ?_, by omega⟩
    · rw [hW0]; exact Blk.new _ _ _
    · refine RowAt.moved (F := fun _ => False) (G := onG w1.heap.size) (Spared.of_below hb01 _) (fun i hi => .inr (by have e : i = w1.heap.size := hi; omega)) (fun _ _ _ h => h) hrow
  have HRD : Hid (Rd Wb w1.heap.size (A0, c0) L 0 0 (0, 0, 0)) := Lib.hid (HRD0.out.below hbb0)
  have HD0 : Hid (DpAt W0 w1.heap.size (A0, c0) L R' Wb [] none 0 0 0 0 (0, 0, 0) L.length) := by
    refine Lib.hid ⟨⟨?_, RowOf.nil _ _ _ _ _, HRD.out, Spared.of_below hbb0 _⟩, ⟨List.length_pos_iff.2 HEN.out.2, Nat.le_refl _, by omega⟩, fun _ => ⟨rfl, Nat.le_refl _, ?_⟩, fun h => absurd rfl h⟩
    · rw [hWb]; exact Blk.new _ _ _
    · rw [HR'.out, List.drop_zero]
      unfold wholeP
      cases typesLoop L.length L <;> rfl
  have HS1 := Lib.hid (show Spared W2 W0 (onG w1.heap.size) from Spared.of_below (hb1.trans (hb01.mono hb1.size)) _)
  have hsz : w1.heap.size + 1 = W0.heap.size := hs0.symm
  have HSZ := Lib.hid (And.intro hb1.size hsz)
  have HWb := Lib.hid hWb
  have HW0 := Lib.hid hW0
  clear hrow ho hfl hb01 hbb0 hs0 hWb hW0 hb1 HT HTF HRD
  go_wp2_with fail
  rw [← HW0.out, ← HWb.out]
  generalize w1.heap.size = g at *
  have HGM : Hid (g < W0.heap.size + 1) := Lib.hid (by have := HSZ.out.2; omega)
  obtain ⟨i0, z0, hRT⟩ := rowTy
  have HRT := Lib.hid hRT
  obtain ⟨i1, z1, hRR⟩ := rowRel
  have HRR := Lib.hid hRR
  clear hRT hRR
  go_loopw [] (fun wr => ∃ (ps : List (Ty × List Value)) (A : Option Addr) (n c k op : Nat) (d : Dg) (m : Nat), Hid (DpAt W0 g (A0, c0) L R' wr ps A n c k op d m)) (fun wr => msr g wr)
  case atStart => exact ⟨_, _, _, _, _, _, _, _, HD0⟩
  case round =>
    clear HD0
    obtain ⟨ps, A, n, c, k, op, d, m, HD⟩ := hrel
    have hk : k < L.length := HD.out.2.1.1
    have HI := Lib.hid (is_any HD.out.1.2.2.1 hk typW2)
    by_cases hq : d.2.2 = 0 ∧ L[k].1 = typW2
    · rw [if_pos hq, decide_eq_true hq] at HI
      obtain ⟨rfl, hm1, hRm⟩ := HD.out.2.2.1 hq.1
      have hk1 : k + 1 < L.length := HEN.out.1.more hk (by rw [hq.2]; decide) (by rw [hq.2]; decide)
      obtain ⟨m, rfl⟩ : ∃ m', m = m' + 1 := ⟨m - 1, by rw [List.length_drop] at hm1; omega⟩
      have HRN : Hid (∀ y, nameP (L.drop (k + 1)) = y → R' = (((y.then fun a r => (relsLoop r.length r).then fun rs r => .ok ⟨a, rs⟩ r).then fun x r => (typesLoop m r).then fun l r => .ok (x :: l) r).then fun l ts => .ok (ps.map (·.1) ++ l) ts).then finP) := Lib.hid (fun y hy => by
        rw [hRm, types_typ, nx_drop hk, if_pos hq.2, drop_tail, typP, hy])
      have HQ1 := Lib.hid (And.intro hq hm1)
      clear hq hm1 hRm
      go_wp2_with fail
      go_at_call 30
      refine HI.out.mono ?_
      rintro r w4 ⟨rfl, hr4, hs4⟩
      have HS4 := Lib.hid hs4
      have HNM := Lib.hid (rname_goes HEN.out.1 hr4 hk1)
      clear hr4 hs4 HI
      go_wp2_with fail
      go_at_call 31
      with_reducible refine HNM.out.mono ?_
      rintro r w5 ⟨a, k5, d5, rfl, hsm, hg5, hr5, hs5⟩
      have hx5 := (sp_trans HS4.out hs5).blk HD.out.1.1 (fun e => by have := HSZ.out.2; omega)
      have hgw5 : g < w5.heap.size := hr5.lt
      obtain ⟨C, hC⟩ : ∃ C : Ty → List Tk → Rs Sc, C = fun x r => (((typesLoop m r).then fun l r => .ok (x :: l) r).then fun l ts => .ok (ps.map (·.1) ++ l) ts).then finP := ⟨_, rfl⟩
      obtain ⟨w6, hw6⟩ : ∃ w6, w6 = w5.alloc (.cells #[strV a, .slice none 0 0] 65) := ⟨_, rfl⟩
      have hb56 : Below w5.heap.size w5 w6 := by rw [hw6]; exact (Below.refl _ _).alloc (Nat.le_refl _) _
      have HT0 : Hid (DtAt w5 g (A0, c0) L R' C a k5 w6 [] none 0 0 k5 0 d5 (L.drop k5).length) := by
        refine Lib.hid ⟨⟨?_, RowOf.nil _ _ _ _ _, hr5.below hb56, Spared.of_below hb56 _⟩, ⟨hg5.2.2.2, Nat.le_refl _, Nat.zero_le _, Nat.zero_le _⟩, fun h0 => ⟨rfl, Nat.zero_le _, Nat.le_refl _, ?_⟩, fun h0 => ?_⟩
        · rw [hw6]; exact Blk.new _ _ _
        · rcases hg5.1 HQ1.out.1.1 with ⟨r, hn, hr, _⟩ | ⟨_, hb⟩
          · rw [HRN.out _ hn, hC, hr]
            simp only [Rs.then]
            cases relsLoop (L.drop k5).length (L.drop k5) <;> rfl
          · exact absurd h0 hb
        · rcases hg5.1 HQ1.out.1.1 with ⟨r, hn, hr, e⟩ | ⟨hn, _⟩
          · rw [e] at h0; exact absurd HQ1.out.1.1 h0
          · rw [HRN.out _ hn]; rfl
      have HR5 := Lib.hid hr5
      have HX5 := Lib.hid hx5
      have HS5 := Lib.hid (sp_trans HS4.out hs5)
      have HK5 : Hid (k + 1 ≤ k5) := Lib.hid hg5.2.2.1
      have HSM := Lib.hid hsm
      have HC := Lib.hid hC
      have HW6 := Lib.hid hw6
      have HMT : Hid (W0.heap.size < w5.heap.size) := Lib.hid hx5.lt
      clear hg5 hr5 hs5 hx5 hC hw6 hb56 HNM HS4 hsm
      go_wp2_with fail
      rw [← HW6.out]
      go_loopw [] (fun w7 => ∃ (qs : List (Rl × List Value)) (B : Option Addr) (nq cq k7 op7 : Nat) (d7 : Dg) (j : Nat), Hid (DtAt w5 g (A0, c0) L R' C a k5 w7 qs B nq cq k7 op7 d7 j)) (fun wr => msr g wr)
      case atStart => exact ⟨_, _, _, _, _, _, _, _, HT0⟩
      case round =>
        rename World => w7
        clear HT0
        obtain ⟨qs, B, nq, cq, k7, op7, d7, j, HT⟩ := hrel
        have hk7 : k7 < L.length := HT.out.2.1.1
        have HGT : Hid (g < w5.heap.size + 1) := Lib.hid (Nat.lt_succ_of_lt hgw5)
        by_cases hr : d7.2.2 = 0 ∧ (L[k7].1 = relW2 ∨ L[k7].1 = defW2)
        · obtain ⟨rfl, hnq, hj, hRj⟩ := HT.out.2.2.1 hr.1
          obtain ⟨P, hcall, hrl, hlv⟩ := rel_there HEN.out.1 HT.out.1.2.2.1 hk7 hr.1 hr.2
          obtain ⟨j, rfl⟩ : ∃ j', j = j' + 1 := ⟨j - 1, by rw [List.length_drop] at hj; omega⟩
          rw [hrl j] at hRj
          have HCL := Lib.hid hcall
          have HRJ := Lib.hid hRj
          have HLV := Lib.hid hlv
          have HQR := Lib.hid (And.intro hr.1 (And.intro hnq hj))
          clear hr hnq hj hRj hcall hrl hlv
          go_wp2_with fail
          go_at_call 32
          refine HCL.out.mono ?_
          rintro r w8 ⟨x, cs, k8, op8, d8, rfl, hE8, hop8, hop8', hg8, hr8, hs8⟩
          obtain ⟨p0, pA1, pn1, pc1, pk, p1, p2, pA2, pn2, pc2, rfl⟩ := hE8.shape
          obtain ⟨w9, hw9⟩ : ∃ w9, w9 = w8.alloc (.cells #[strV p0, .slice pA1 pn1 pc1, .int .i64 pk, strV p1, strV p2, .slice pA2 pn2 pc2] 71) := ⟨_, rfl⟩
          have hb89 : Below w8.heap.size w8 w9 := by rw [hw9]; exact (Below.refl _ _).alloc (Nat.le_refl _) _
          have HO9 := Lib.hid ((HT.out.1.2.1.spared keeps_rl HGT.out (hs8.mono (fun _ h => .inl h))).spared keeps_rl HGT.out (Spared.of_below hb89 _))
          have HX9 := Lib.hid ((hs8.blk HT.out.1.1 (fun e => by omega)).below hb89 (by have := (hs8.blk HT.out.1.1 (fun e => by omega)).lt; exact this))
          have HR9 := Lib.hid (hr8.below hb89)
          have HS9 := Lib.hid (sp_trans HT.out.1.2.2.2 (sp_trans hs8 (Spared.of_below hb89 (onG g))))
          have HE9 := Lib.hid (hE8.below hb89)
          have HG8 := Lib.hid hg8
          have HOP := Lib.hid (And.intro hop8 hop8')
          have HBS : Hid (w5.heap.size + 1 ≤ w9.heap.size) := Lib.hid HX9.out.lt
          have HN9 : Hid (nq ≤ 1000000) := Lib.hid (by have := HQR.out.2.1; omega)
          have y1 := HX9.out.cell (i := 1) (by simp)
          simp only [List.getElem_cons_succ, List.getElem_cons_zero] at y1
          rw [hw9] at y1
          have HZ9 : Hid (w9.heap.size = w8.heap.size + 1) := by rw [hw9]; exact Lib.hid (World.size_alloc _ _)
          have HW9 := Lib.hid hw9
          clear hE8 hop8 hop8' hg8 hr8 hs8 hb89 hw9 HCL
          go_wp2_with (at_builtin; rw [← HW9.out]; refine wpList_append_row w9 rfl (.tmp 32) (.tmp 34) 63 rfl HRR.out (by decide) (by decide) (w5.heap.size + 1) B nq cq _ [strV p0, .slice pA1 pn1 pc1, .int .i64 pk, strV p1, strV p2, .slice pA2 pn2 pc2] rfl rfl (by show Value.slice (some ⟨w8.heap.size + 1, 0, none⟩) 1 1 = _; rw [HZ9.out]) HBS.out HO9.out.own (rl_one _ _ _ _ _ _ _ _ _ _) HN9.out ?_; intro A7 c7 w10 ho7 hg7 hat7; have HO7 := Lib.hid (HO9.out.push keeps_rl (x := x) rfl (keeps_rl _ _ _ _ (Spared.refl w9 (Old g w7)) (fun i hi => .inl (by rcases hi with hi | hi | hi; exact .inl hi; exact .inr (Nat.lt_of_lt_of_le hi HT.out.1.1.lt); exact .inr (HT.out.1.2.1.own.lt i hi.symm).2)) _ _ HE9.out) ho7 hg7 hat7); have HB7 : Hid (Below (w5.heap.size + 1) w9 w10) := Lib.hid (below_grown ((Below.refl (w5.heap.size + 1) w9).alloc HBS.out (.cells #[strV p0, .slice pA1 pn1 pc1, .int .i64 pk, strV p1, strV p2, .slice pA2 pn2 pc2] 71)) (by rw [World.size_alloc]; exact Nat.le_succ_of_le HBS.out) (HO9.out.own.alloc _) hg7); have HX7 := Lib.hid (HX9.out.below HB7.out (Nat.lt_succ_self _)); have y3 := HX7.out.cell (i := 1) (by simp); have y3f := HX7.out.free 1; simp only [List.getElem_cons_succ, List.getElem_cons_zero] at y3; clear ho7 hg7 hat7)
          have hk8 : k8 < L.length := HG8.out.2.2.2
          have hR11 : Rd (w10.setCell ⟨w5.heap.size, 1, none⟩ (.slice A7 (nq + 1) c7)) g (A0, c0) L k8 op8 d8 := HR5.out.setNew (HR9.out.belowB (fun a ha => Nat.lt_of_lt_of_le (HQ.out a ha) (Nat.le_of_lt HGT.out)) HGT.out HB7.out) (Nat.le_refl _) 1 _
          refine ⟨⟨qs ++ [(x, _)], A7, nq + 1, c7, k8, op8, d8, j, Lib.hid ⟨⟨?_, HO7.out.spared keeps_rl HGT.out ((Spared.refl w10 _).setCell (g := w5.heap.size) (.inr (Nat.lt_succ_self _)) 1 _), hR11, (HS9.out.keep HB7.out (Nat.le_succ _)).setNew (Nat.le_refl _) 1 _⟩, ⟨hk8, ?_, ?_, HOP.out.2⟩, fun h0 => ?_, fun h0 => ?_⟩⟩, ?_⟩
          · have := HX7.out.set 1 (.slice A7 (nq + 1) c7)
            simpa using this
          · have h1 := HT.out.2.1.2.1; have h2 := HG8.out.2.2.1; omega
          · have h1 := HQR.out.2.1; have h2 := HG8.out.2.2.1; omega
          · rcases HG8.out.1 HQR.out.1 with ⟨r, hp, hr, _⟩ | ⟨_, hb⟩
            · have h1 := HLV.out x r hp
              have h2 := HQR.out.2
              rw [hr] at h1
              rw [List.length_drop, List.length_drop] at h1
              refine ⟨HOP.out.1 h0, by omega, by have h3 := h2.2; rw [List.length_drop] at h3; rw [List.length_drop]; omega, ?_⟩
              rw [HRJ.out, hp, hr]
              simp only [Rs.then]
              cases relsLoop j (L.drop k8) <;> simp
            · exact absurd h0 hb
          · rcases HG8.out.1 HQR.out.1 with ⟨r, _, _, e⟩ | ⟨hp, _⟩
            · rw [e] at h0; exact absurd HQR.out.1 h0
            · rw [HRJ.out, hp]; rfl
          · have h0 := HQR.out.1
            have h2 := HG8.out.2.2.1
            rw [hR11.msr, HT.out.1.2.2.1.msr, if_pos h0]
            rcases HG8.out.1 h0 with ⟨r, hp, hr, e⟩ | ⟨_, hb⟩
            · have h1 := HLV.out x r hp
              rw [hr, List.length_drop, List.length_drop] at h1
              rw [e, if_pos h0]
              omega
            · rw [if_neg hb]
              omega
        · have HQN : Hid (¬ (d7.2.2 = 0 ∧ (L[k7].1 = relW2 ∨ L[k7].1 = defW2))) := Lib.hid hr
          have HCL := Lib.hid (rel_none HT.out.1.2.2.1 hk7 (fun h => hr ⟨h.1, .inl h.2⟩) (fun h => hr ⟨h.1, .inr h.2⟩))
          clear hr
          go_wp2_with fail
          go_at_call 32
          refine HCL.out.mono ?_
          rintro r w8 ⟨rfl, hr8, hs8⟩
          obtain ⟨w9, hw9⟩ : ∃ w9, w9 = w8.alloc (.cells #[.string ⟨#[]⟩, .slice none 0 0, .int .i64 0, .string ⟨#[]⟩, .string ⟨#[]⟩, .slice none 0 0] 71) := ⟨_, rfl⟩
          have hb89 : Below w8.heap.size w8 w9 := by rw [hw9]; exact (Below.refl _ _).alloc (Nat.le_refl _) _
          have hs79 : Spared w7 w9 (onG g) := sp_trans hs8 (Spared.of_below hb89 (onG g))
          have hs59 : Spared w5 w9 (onG g) := sp_trans HT.out.1.2.2.2 hs79
          have HO9 := Lib.hid ((HD.out.1.2.1.spared keeps_ty HGM.out (HS5.out.mono (fun _ h => .inl h))).spared keeps_ty HGM.out (hs59.mono (fun _ h => .inl h)))
          have HX9 := Lib.hid (hs59.blk HX5.out (fun e => by have := HSZ.out.2; omega))
          have HT9 := Lib.hid (hs79.blk HT.out.1.1 (fun e => by omega))
          have HR9 := Lib.hid (hr8.below hb89)
          have HS9 := Lib.hid (sp_trans HD.out.1.2.2.2 (sp_trans HS5.out hs59))
          have HRO := Lib.hid (HT.out.1.2.1.spared keeps_rl HGT.out (hs79.mono (fun _ h => .inl h)))
          have HBS : Hid (W0.heap.size + 1 ≤ w9.heap.size) := Lib.hid HX9.out.lt
          have HZ9 : Hid (w9.heap.size = w8.heap.size + 1) := by rw [hw9]; exact Lib.hid (World.size_alloc _ _)
          have HN9 : Hid (n ≤ 1000000) := Lib.hid (by have := HD.out.2.1.2.1; omega)
          have y0 := HX9.out.cell (i := 0) (by simp)
          have t0 := HT9.out.cell (i := 0) (by simp)
          have t1 := HT9.out.cell (i := 1) (by simp)
          simp only [List.getElem_cons_succ, List.getElem_cons_zero] at y0 t0 t1
          rw [hw9] at y0 t0 t1
          have HOW : Hid (∀ i, some i = (Value.slice A n c).ownBlock → i < w5.heap.size) := Lib.hid (fun i hi => ((HD.out.1.2.1.spared keeps_ty HGM.out (HS5.out.mono (fun _ h => .inl h))).own.lt i hi.symm).2)
          have HTY : Hid (TyAt w9 (offR g (W0.heap.size + 1) (.slice A n c)) ⟨a, qs.map (·.1)⟩ [strV a, .slice B nq cq]) := Lib.hid (by
            refine ⟨B, cq, ?_, ⟨⟨HSM.out, ?_⟩, ?_⟩, ?_⟩
            · show _ = [strV a, Value.slice B (qs.map (·.1)).length cq]
              rw [List.length_map, ← HRO.out.len]
            · show (qs.map (·.1)).length ≤ _
              rw [List.length_map, ← HRO.out.len]
              exact own_cap HRO.out.own
            · show (qs.map (·.1)).length ≤ _
              rw [List.length_map, ← HRO.out.len]
              have := HT.out.2.1.2.2.1; omega
            · exact HRO.out.row keeps_rl HGT.out (fun i hi => by
                rcases hi with hi | hi | hi
                · exact .inl hi
                · have := HMT.out; exact .inr (by omega)
                · have := HOW.out i hi; exact .inr (by omega)))
          have HW9 := Lib.hid hw9
          clear hr8 hs8 hb89 hw9 HCL hs79 hs59
          go_wp2_with (at_builtin; rw [← HW9.out]; refine wpList_append_row w9 rfl (.tmp 38) (.tmp 40) 37 rfl HRT.out (by decide) (by decide) (W0.heap.size + 1) A n c _ [strV a, .slice B nq cq] rfl rfl (by show Value.slice (some ⟨w8.heap.size + 1, 0, none⟩) 1 1 = _; rw [HZ9.out]) HBS.out HO9.out.own (ty_one _ _ _ _) HN9.out ?_; intro A7 c7 w10 ho7 hg7 hat7; have HO7 := Lib.hid (HO9.out.push keeps_ty (x := ⟨a, qs.map (·.1)⟩) rfl HTY.out ho7 hg7 hat7); have HB7 : Hid (Below (W0.heap.size + 1) w9 w10) := Lib.hid (below_grown ((Below.refl (W0.heap.size + 1) w9).alloc HBS.out (.cells #[strV a, .slice B nq cq] 65)) (by rw [World.size_alloc]; exact Nat.le_succ_of_le HBS.out) (HO9.out.own.alloc _) hg7); have HX7 := Lib.hid (HX9.out.below HB7.out (Nat.lt_succ_self _)); have y3 := HX7.out.cell (i := 0) (by simp); have y3f := HX7.out.free 0; simp only [List.getElem_cons_zero] at y3; clear ho7 hg7 hat7)
          have hR11 : Rd (w10.setCell ⟨W0.heap.size, 0, none⟩ (.slice A7 (n + 1) c7)) g (A0, c0) L k7 op7 d7 := HRD0.out.setNew (HR9.out.belowB (fun a ha => Nat.lt_of_lt_of_le (HQ.out a ha) (Nat.le_of_lt HGM.out)) HGM.out HB7.out) (Nat.le_refl _) 0 _
          have hkk : k + 1 ≤ k7 := Nat.le_trans HK5.out HT.out.2.1.2.1
          refine ⟨⟨ps ++ [(⟨a, qs.map (·.1)⟩, _)], A7, n + 1, c7, k7, op7, d7, m, Lib.hid ⟨⟨?_, HO7.out.spared keeps_ty HGM.out ((Spared.refl w10 _).setCell (g := W0.heap.size) (.inr (Nat.lt_succ_self _)) 0 _), hR11, (HS9.out.keep HB7.out (Nat.le_succ _)).setNew (Nat.le_refl _) 0 _⟩, ⟨hk7, ?_, HT.out.2.1.2.2.2⟩, fun h0 => ?_, HT.out.2.2.2⟩⟩, ?_⟩
          · have := HX7.out.set 0 (.slice A7 (n + 1) c7)
            simpa using this
          · have := HD.out.2.1.2.1; omega
          · obtain ⟨h1, h2, h3, h4⟩ := HT.out.2.2.1 h0
            have h5 := HQ1.out.2
            rw [List.length_drop] at h3 h5
            obtain ⟨j, rfl⟩ : ∃ j', j = j' + 1 := ⟨j - 1, by omega⟩
            have h6 : relsLoop (j + 1) (L.drop k7) = .ok [] (L.drop k7) := by
              rw [relsLoop, nx_drop hk7, if_neg (fun h => HQN.out ⟨h0, .inl h⟩), if_neg (fun h => HQN.out ⟨h0, .inr h⟩)]
            refine ⟨h1, by rw [List.length_drop]; omega, ?_⟩
            rw [h4, h6, HC.out]
            simp only [Rs.then, List.append_nil]
            cases typesLoop m (L.drop k7) <;> simp
          · rw [hR11.msr, HD.out.1.2.2.1.msr, if_pos HQ1.out.1.1]
            split <;> omega
    · have HQN : Hid (¬ (d.2.2 = 0 ∧ L[k].1 = typW2)) := Lib.hid hq
      rw [if_neg hq, decide_eq_false hq] at HI
      clear hq
      go_wp2_with fail
      go_at_call 30
      refine HI.out.mono ?_
      rintro r w4 ⟨rfl, hr4, hs4⟩
      have HR4 := Lib.hid hr4
      have HS4 := Lib.hid (sp_trans HD.out.1.2.2.2 hs4)
      have HX4 := Lib.hid (hs4.blk HD.out.1.1 (fun e => by have := HSZ.out.2; omega))
      have HO4 := Lib.hid (HD.out.1.2.1.spared keeps_ty HGM.out (hs4.mono (fun _ h => .inl h)))
      have d5 := hr4.1.cell (i := 5) (by simp)
      simp only [List.getElem_cons_succ, List.getElem_cons_zero] at d5
      have HZ4S : Hid (Blk w4 W.heap.size [.slice none 0 0] 39) := Lib.hid (HS4.out.blk (HS1.out.blk HZS.out (fun e => by have h1 := HZS.out.lt; have h2 := HSZ.out.1; have e' : W.heap.size = g := e; omega)) (fun e => by have h1 := HZS.out.lt; have h2 := HSZ.out.1; have e' : W.heap.size = g := e; omega))
      have HZ4D : Hid (Blk w4 (W.heap.size + 1) [.int .i64 0, .int .i64 0, .int .i64 0] 42) := Lib.hid (HS4.out.blk (HS1.out.blk HZD.out (fun e => by have h1 := HZD.out.lt; have h2 := HSZ.out.1; have e' : W.heap.size + 1 = g := e; omega)) (fun e => by have h1 := HZD.out.lt; have h2 := HSZ.out.1; have e' : W.heap.size + 1 = g := e; omega))
      clear hr4 hs4 HI
      have g1 : ¬ g = W.heap.size := fun e => by have h1 := HZS.out.lt; have h2 := HSZ.out.1; omega
      have g2 : ¬ W.heap.size = g := fun e => g1 e.symm
      have g3 : ¬ g = W.heap.size + 1 := fun e => by have h1 := HZD.out.lt; have h2 := HSZ.out.1; omega
      have g4 : ¬ W.heap.size + 1 = g := fun e => g3 e.symm
      have HBC : Hid (∀ w, Spared W0 w (onG g) → Below W.heap.size W w) := Lib.hid (fun w hw => by
        have h := sp_trans HS1.out hw
        have hb : Below W2.heap.size W2 w := ⟨h.os, h.tape, h.output, h.size, fun k hk => h.block k hk (fun e => by have h2 := HSZ.out.1; have e' : k = g := e; omega)⟩
        exact HB2.out.trans (hb.mono HB2.out.size))
      have g1 : ¬ g = W.heap.size := fun e => by have h1 := HZS.out.lt; have h2 := HSZ.out.1; omega
      have g2 : ¬ W.heap.size = g := fun e => g1 e.symm
      have g3 : ¬ g = W.heap.size + 1 := fun e => by have h1 := HZD.out.lt; have h2 := HSZ.out.1; omega
      have g4 : ¬ W.heap.size + 1 = g := fun e => g3 e.symm
      have HBC : Hid (∀ w, Spared W0 w (onG g) → Below W.heap.size W w) := Lib.hid (fun w hw => by
        have h := sp_trans HS1.out hw
        have hb : Below W2.heap.size W2 w := ⟨h.os, h.tape, h.output, h.size, fun k hk => h.block k hk (fun e => by have h2 := HSZ.out.1; have e' : k = g := e; omega)⟩
        exact HB2.out.trans (hb.mono HB2.out.size))
      have g1 : ¬ g = W.heap.size := fun e => by have h1 := HZS.out.lt; have h2 := HSZ.out.1; omega
      have g2 : ¬ W.heap.size = g := fun e => g1 e.symm
      have g3 : ¬ g = W.heap.size + 1 := fun e => by have h1 := HZD.out.lt; have h2 := HSZ.out.1; omega
      have g4 : ¬ W.heap.size + 1 = g := fun e => g3 e.symm
      have HBC : Hid (∀ w, Spared W0 w (onG g) → Below W.heap.size W w) := Lib.hid (fun w hw => by
        have h := sp_trans HS1.out hw
        have hb : Below W2.heap.size W2 w := ⟨h.os, h.tape, h.output, h.size, fun k hk => h.block k hk (fun e => by have h2 := HSZ.out.1; have e' : k = g := e; omega)⟩
        exact HB2.out.trans (hb.mono HB2.out.size))
      have g1 : ¬ g = W.heap.size := fun e => by have h1 := HZS.out.lt; have h2 := HSZ.out.1; omega
      have g2 : ¬ W.heap.size = g := fun e => g1 e.symm
      have g3 : ¬ g = W.heap.size + 1 := fun e => by have h1 := HZD.out.lt; have h2 := HSZ.out.1; omega
      have g4 : ¬ W.heap.size + 1 = g := fun e => g3 e.symm
      have HBC : Hid (∀ w, Spared W0 w (onG g) → Below W.heap.size W w) := Lib.hid (fun w hw => by
        have h := sp_trans HS1.out hw
        have hb : Below W2.heap.size W2 w := ⟨h.os, h.tape, h.output, h.size, fun k hk => h.block k hk (fun e => by have h2 := HSZ.out.1; have e' : k = g := e; omega)⟩
        exact HB2.out.trans (hb.mono HB2.out.size))
      by_cases h0 : d.2.2 = 0
      rotate_left
      · have q1 : ¬ (d.2.2 : Int) = 0 := by omega
        have q2 : ((d.2.2 : Int) == 0) = false := beq_eq_false_iff_ne.2 q1
        have HRN := Lib.hid (HD.out.2.2.2 h0)
        clear h0
        go_wp2_with fail
        have e3 := HR4.out.1.cell (i := 3) (by simp)
        have e4 := HR4.out.1.cell (i := 4) (by simp)
        have v0 := HZ4S.out.cell (i := 0) (by simp)
        have v1 := HZ4D.out.cell (i := 0) (by simp)
        have v2 := HZ4D.out.cell (i := 1) (by simp)
        have v3 := HZ4D.out.cell (i := 2) (by simp)
        simp only [List.getElem_cons_succ, List.getElem_cons_zero] at e3 e4 v0 v1 v2 v3
        try dsimp only at e3 e4
        have f0 := HZ4S.out.free 0
        have f1 := HZ4D.out.free 0
        have f2 := HZ4D.out.free 1
        have f3 := HZ4D.out.free 2
        go_region
        go_wp2_with fail
        refine bodyPost_ret (v := .tuple #[.agg #[.slice none 0 0], .agg #[.int .i64 (d.1 : Int), .int .i64 (d.2.1 : Int), .int .i64 (d.2.2 : Int)]]) (by simp [results, Tryz.results16, go_sem, v0, v1, v2, v3]) rfl ?_
        rw [HR.out, HRN.out]
        exact ⟨none, 0, rfl, .inl rfl, ⟨Nat.zero_le _, Nat.zero_le _⟩, (((((HBC.out w4 HS4.out).setCell (p := ⟨W.heap.size, 0, none⟩) (Nat.le_refl _) _).setCell (p := ⟨W.heap.size + 1, 0, none⟩) (Nat.le_succ _) _).setCell (p := ⟨W.heap.size + 1, 1, none⟩) (Nat.le_succ _) _).setCell (p := ⟨W.heap.size + 1, 2, none⟩) (Nat.le_succ _) _).drew⟩
      obtain ⟨rfl, hm1, hRm⟩ := HD.out.2.2.1 h0
      obtain ⟨m, rfl⟩ : ∃ m', m = m' + 1 := ⟨m - 1, by rw [List.length_drop] at hm1; omega⟩
      have hRf : R' = finP (ps.map (·.1)) (L.drop k) := by
        rw [hRm, types_typ, nx_drop hk, if_neg (fun h => HQN.out ⟨h0, h⟩)]
        simp only [Rs.then, List.append_nil]
      unfold finP at hRf
      rw [nx_drop hk] at hRf
      have HNX := Lib.hid (next_any HR4.out hk)
      have HFL := Lib.hid (fun w (hw : Rd w g (A0, c0) L k 0 d) => fail_any hw hk L[k] 8)
      rw [if_pos h0] at HFL
      have HNX2 := Lib.hid (fun w (hw : Rd w g (A0, c0) L k 0 d) => next_any hw hk)
      generalize L[k] = t at *
      have HRF := Lib.hid hRf
      obtain ⟨d1, d2, d3⟩ := d
      dsimp only at h0
      subst h0
      clear hm1 hRm hRf
      have d5z : w4.cell? ⟨g, 5, none⟩ = some (.int .i64 0) := d5
      clear d5
      obtain ⟨t1, t2, t3⟩ := t
      have hfd := fun (t : Txt) (a b : Int) (w : World) => field_tok t a b w
      have m1 : ¬ W0.heap.size = W.heap.size := fun e => by have h1 := HZS.out.lt; have h2 := HSZ.out; omega
      have m2 : ¬ W.heap.size = W0.heap.size := fun e => m1 e.symm
      have m3 : ¬ W0.heap.size = W.heap.size + 1 := fun e => by have h1 := HZD.out.lt; have h2 := HSZ.out; omega
      have m4 : ¬ W.heap.size + 1 = W0.heap.size := fun e => m3 e.symm
      by_cases ht : t1 = []
      · subst ht
        have HRF2 : Hid (R' = .ok (ps.map (·.1)) (L.drop k)) := Lib.hid (by rw [HRF.out]; exact if_pos rfl)
        clear HRF
        go_wp2_with (go_at_call 33; refine HNX.out.mono ?_; rintro r w5 ⟨rfl, hb5⟩; have HB5 := Lib.hid hb5; have d5' := (HR4.out.below hb5).1.cell (i := 5) (by simp); simp only [List.getElem_cons_succ, List.getElem_cons_zero] at d5'; have d5n : w5.cell? ⟨g, 5, none⟩ = some (.int .i64 0) := d5'; have HZ5S := Lib.hid (HZ4S.out.below hb5 HZ4S.out.lt); have HZ5D := Lib.hid (HZ4D.out.below hb5 HZ4D.out.lt); have HX5 := Lib.hid (HX4.out.below hb5 HX4.out.lt); have x0 := HX5.out.cell (i := 0) (by simp); have v0 := HZ5S.out.cell (i := 0) (by simp); have v1 := HZ5D.out.cell (i := 0) (by simp); have v2 := HZ5D.out.cell (i := 1) (by simp); have v3 := HZ5D.out.cell (i := 2) (by simp); simp only [List.getElem_cons_succ, List.getElem_cons_zero] at x0 v0 v1 v2 v3; have f0 := HZ5S.out.free 0; have f1 := HZ5D.out.free 0; have f2 := HZ5D.out.free 1; have f3 := HZ5D.out.free 2; clear d5' hb5)
        refine bodyPost_ret (v := .tuple #[.agg #[.slice A n c], .agg #[.int .i64 0, .int .i64 0, .int .i64 0]]) (by simp [results, Tryz.results16, go_sem, v0, v1, v2, v3]) rfl ?_
        rw [HR.out, HRF2.out]
        have hn : n = (ps.map (·.1)).length := by rw [List.length_map]; exact HO4.out.len
        have hF : ∀ i, i = W.heap.size ∨ i = W.heap.size + 1 → (fun x => x = g ∨ x ≤ W.heap.size + 1) i := fun i hi => .inr (by omega)
        have hsp : Spared w4 ((((w5.setCell ⟨W.heap.size, 0, none⟩ (.slice A n c)).setCell ⟨W.heap.size + 1, 0, none⟩ (.int .i64 0)).setCell ⟨W.heap.size + 1, 1, none⟩ (.int .i64 0)).setCell ⟨W.heap.size + 1, 2, none⟩ (.int .i64 0)) (fun x => x = g ∨ x ≤ W.heap.size + 1) := (((((Spared.of_below HB5.out (fun x => x = g ∨ x ≤ W.heap.size + 1)).setCell (g := W.heap.size) (hF _ (.inl rfl)) 0 _).setCell (g := W.heap.size + 1) (hF _ (.inr rfl)) 0 _).setCell (g := W.heap.size + 1) (hF _ (.inr rfl)) 1 _).setCell (g := W.heap.size + 1) (hF _ (.inr rfl)) 2 _)
        have hrow := HO4.out.row keeps_ty HGM.out (G := fun x => x = g ∨ x ≤ W.heap.size + 1) (fun i hi => hi.elim .inl (fun h => .inr (by have h1 := HZD.out.lt; have h2 := HSZ.out; omega)))
        have hbf := ((((HBC.out w5 (sp_trans HS4.out (Spared.of_below HB5.out (onG g)))).setCell (p := ⟨W.heap.size, 0, none⟩) (Nat.le_refl _) (.slice A n c)).setCell (p := ⟨W.heap.size + 1, 0, none⟩) (Nat.le_succ _) (.int .i64 0)).setCell (p := ⟨W.heap.size + 1, 1, none⟩) (Nat.le_succ _) (.int .i64 0)).setCell (p := ⟨W.heap.size + 1, 2, none⟩) (Nat.le_succ _) (.int .i64 0)
        refine ⟨A, c, ?_, ?_, ?_, hbf⟩
        · show _ = Ending.returned (.tuple #[.agg #[.slice A (ps.map (·.1)).length c], _])
          rw [← hn]; rfl
        · exact RowAt.moved hsp (fun i hi => .inl (.inr (Nat.le_of_lt (Nat.lt_succ_of_lt hi)))) (fun x _ cs hx => hx.moved hsp (fun i hi => .inl (.inr (Nat.le_of_lt (Nat.lt_succ_of_lt hi))))) hrow
        · show (ps.map (·.1)).length ≤ 5000 ∧ (ps.map (·.1)).length ≤ c
          rw [← hn]
          have := HD.out.2.1.2.1
          exact ⟨by omega, own_cap HO4.out.own⟩
      · have he := nonempty ht
        have HRF2 : Hid (R' = .no (t2, t3, 8)) := Lib.hid (by rw [HRF.out]; exact if_neg ht)
        clear HRF
        go_wp2_with (first
          | (go_at_call 34; refine (HFL.out _ HR5.out).mono ?_; rintro r w6 ⟨rfl, hr6, hs6⟩; have HR6 : Hid (Rd w6 g (A0, c0) L k 0 (t2, t3, 8)) := Lib.hid hr6; have HS6 := Lib.hid (sp_trans HS5.out hs6); have d6' := hr6.1.cell (i := 5) (by simp); simp only [List.getElem_cons_succ, List.getElem_cons_zero] at d6'; have d6n : w6.cell? ⟨g, 5, none⟩ = some (.int .i64 8) := d6'; clear d6' hr6 hs6)
          | (go_at_call 33; refine (HNX2.out _ HR5.out).mono ?_; rintro r w5' ⟨rfl, hb5'⟩; have HR5' := Lib.hid (HR5.out.below hb5'); have HS5' := Lib.hid (sp_trans HS5.out (Spared.of_below hb5' (onG g))); clear hb5'; clear HR5 HS5; have HR5 := HR5'; have HS5 := HS5'; clear HR5' HS5')
          | (go_at_call 33; refine (HNX2.out _ HR4.out).mono ?_; rintro r w5 ⟨rfl, hb5⟩; have HB5 := Lib.hid hb5; have HR5 := Lib.hid (HR4.out.below hb5); have HS5 := Lib.hid (sp_trans HS4.out (Spared.of_below hb5 (onG g))); clear hb5))
        have HZ6S : Hid (Blk w6 W.heap.size [.slice none 0 0] 39) := Lib.hid (HS6.out.blk (HS1.out.blk HZS.out g2) g2)
        have HZ6D : Hid (Blk w6 (W.heap.size + 1) [.int .i64 0, .int .i64 0, .int .i64 0] 42) := Lib.hid (HS6.out.blk (HS1.out.blk HZD.out g4) g4)
        have e3 := HR6.out.1.cell (i := 3) (by simp)
        have e4 := HR6.out.1.cell (i := 4) (by simp)
        have v0 := HZ6S.out.cell (i := 0) (by simp)
        have v1 := HZ6D.out.cell (i := 0) (by simp)
        have v2 := HZ6D.out.cell (i := 1) (by simp)
        have v3 := HZ6D.out.cell (i := 2) (by simp)
        simp only [List.getElem_cons_succ, List.getElem_cons_zero] at e3 e4 v0 v1 v2 v3
        try dsimp only at e3 e4
        have f0 := HZ6S.out.free 0
        have f1 := HZ6D.out.free 0
        have f2 := HZ6D.out.free 1
        have f3 := HZ6D.out.free 2
        go_region
        go_wp2_with fail
        refine bodyPost_ret (v := .tuple #[.agg #[.slice none 0 0], .agg #[.int .i64 (t2 : Int), .int .i64 (t3 : Int), .int .i64 8]]) (by simp [results, Tryz.results16, go_sem, v0, v1, v2, v3]) rfl ?_
        rw [HR.out, HRF2.out]
        exact ⟨none, 0, rfl, .inl rfl, ⟨Nat.zero_le _, Nat.zero_le _⟩, (((((HBC.out w6 HS6.out).setCell (p := ⟨W.heap.size, 0, none⟩) (Nat.le_refl _) _).setCell (p := ⟨W.heap.size + 1, 0, none⟩) (Nat.le_succ _) _).setCell (p := ⟨W.heap.size + 1, 1, none⟩) (Nat.le_succ _) _).setCell (p := ⟨W.heap.size + 1, 2, none⟩) (Nat.le_succ _) _).drew⟩
end Go.Proofs.YtehabjiacgibpaaGreat
