/-
  The document's expr, in the reader.
  The document's ref, in the reader.
-/
import Derived.Test.YtehabjiacgibpaaGreatCLpTm
import Derived.Test.YtehabjiacgibpaaGreatCRuF0
namespace Go.Proofs.YtehabjiacgibpaaGreat
open Go.RowKit
set_option maxHeartbeats 1000000 in
theorem expr_goes0 {sub : Option (List Tk → Rs Ex)} {W : World} {g : Nat} {Q : Option Addr × Nat} {L : List Tk} {k op : Nat} {d : Dg} (he : Ends L) (hsub : SubIs sub g Q L op) (h : Rd W g Q L k op d) (hk : k < L.length) :
    Calls Tryz.prog 55 #[.pointer (some ⟨g, 0, none⟩)] W (ExOut 1 (exprK sub) (Old g W) W g Q L k op d) := by
  have hb1 := (Below.refl W.heap.size W).alloc (Nat.le_refl _) (.cells #[.int .i64 0, .string ⟨#[]⟩, .string ⟨#[]⟩, .slice none 0 0] 69)
  have HR1 := h.below hb1
  have HA := Lib.hid (term_goes he hsub HR1 hk)
  have HZ1 := Lib.hid (Blk.new W [.int .i64 0, .string ⟨#[]⟩, .string ⟨#[]⟩, .slice none 0 0] 69)
  have HS1 := Lib.hid (Spared.of_below hb1 (onG g))
  have hgn : g ≠ W.heap.size := Nat.ne_of_lt h.lt
  have HR0 := Lib.hid h
  have HSUB := Lib.hid hsub
  clear HR1 hb1 h hsub
  go_enter Tryz.func55, Tryz.ntmps55
  go_wp2_with fail
  go_at_call 87
  with_reducible refine HA.out.mono ?_
  rintro r w2 ⟨e, cs, k1, op1, d1, rfl, he1, ht1, hg1, hr1, hs1⟩
  obtain ⟨q1, q2, q3, qA, qm, qc, rfl⟩ := he1.shape
  have hZ2 := hs1.blk HZ1.out (fun e => hgn e.symm)
  have HNM := Lib.hid hZ2.lt
  have hgm : g ≠ w2.heap.size := Nat.ne_of_lt hr1.lt
  obtain ⟨w3, hw3⟩ : ∃ w3, w3 = w2.alloc (.cells #[.int .i64 q1, strV q2, strV q3, .slice qA qm qc] 69) := ⟨_, rfl⟩
  have hb3 : Below w2.heap.size w2 w3 := by rw [hw3]; exact (Below.refl w2.heap.size w2).alloc (Nat.le_refl _) _
  have HL3 : Hid (LoopAt (exprK sub) (exprLoop sub) W g Q L k op d w2.heap.size w3 e [.int .i64 q1, strV q2, strV q3, .slice qA qm qc] k1 op1 d1 (L.length - k)) := by
    refine Lib.hid ⟨⟨?_, hZ2.below hb3 hZ2.lt, ?_, hr1.below hb3, sp_trans (sp_trans HS1.out hs1) (Spared.of_below hb3 (onG g)), hZ2.lt⟩, hg1.2.2.2, by have := hg1.2.2.1; omega, ht1, fun e' k2 d2 hgo => ?_⟩
    · rw [hw3]; exact Blk.new _ _ _
    · refine ExAt.moved (Spared.of_below hb3 (Old g (W.alloc (.cells #[.int .i64 0, .string ⟨#[]⟩, .string ⟨#[]⟩, .slice none 0 0] 69)))) (fun i hi => ?_) _ _ he1
      rcases hi with hi | hi | hi
      · exact .inl (.inl hi)
      · exact .inl (.inr (by rw [World.size_alloc]; omega))
      · exact .inr (by omega)
    · refine Goes.at_ (Goes.then hg1 hgo) ?_
      simp only [exprK, List.length_drop]
  have HW3 := Lib.hid hw3
  clear he1 ht1 hg1 hr1 hs1 hZ2 hb3 hw3 HZ1 HS1 HA
  go_wp2_with fail
  rw [← HW3.out]
  go_loopw [] (fun wr => ∃ (e : Ex) (q1 : Int) (q2 q3 : Txt) (qA : Option Addr) (qm qc k' op' : Nat) (d' : Dg) (n : Nat), Hid (LoopAt (exprK sub) (exprLoop sub) W g Q L k op d w2.heap.size wr e [.int .i64 q1, strV q2, strV q3, .slice qA qm qc] k' op' d' n)) (fun wr => L.length - (intOf ((wr.cell? ⟨g, 1, none⟩).getD (.int .i64 0))).toNat)
  case atStart => exact ⟨_, _, _, _, _, _, _, _, _, _, _, HL3⟩
  case round =>
    clear HL3
    obtain ⟨e, q1, q2, q3, qA, qm, qc, k', op', d', n, HL⟩ := hrel
    have HR := Lib.hid HL.out.1.2.2.2.1
    have hk' := HL.out.2.1
    have HNX : Hid (∀ w, Rd w g Q L k' op' d' → Calls Tryz.prog 33 #[.pointer (some ⟨g, 0, none⟩)] w fun e w' => e = .returned (.agg #[strV L[k'].1, .int .i64 (L[k'].2.1 : Int), .int .i64 (L[k'].2.2 : Int)]) ∧ Below w.heap.size w w') := Lib.hid (fun w h => next_any h hk')
    have hfd := fun (t : Txt) (a b : Int) (w : World) => field_tok t a b w
    obtain ⟨T, hT⟩ : ∃ T, T = L[k'] := ⟨_, rfl⟩
    rw [← hT] at HNX
    obtain ⟨t1, t2, t3⟩ := T
    dsimp only at HNX
    have HTK := Lib.hid hT
    have x5 := HR.out.1.cell (i := 5) (by simp)
    simp only [List.getElem_cons_succ, List.getElem_cons_zero] at x5
    have HZ := Lib.hid HL.out.1.2.1
    have HX := Lib.hid HL.out.1.1
    clear hT
    by_cases h0 : d'.2.2 = 0
    · have hd : ((d'.2.2 : Int) == 0) = true := by rw [h0]; rfl
      have HD := Lib.hid h0
      clear h0
      by_cases hq : t1 = [43]
      · have hts : (t1 == [43]) = true := beq_iff_eq.2 hq
        have hto : (t1 == [45]) = false := beq_eq_false_iff_ne.2 (by rw [hq]; decide)
        have HQ := Lib.hid hq
        have hk1 : k' + 1 < L.length := he.more hk' (by rw [← HTK.out]; show t1 ≠ []; rw [hq]; decide) (by rw [← HTK.out]; show t1 ≠ [63]; rw [hq]; decide)
        clear hq
        have HAT : Hid (∀ w, Rd w g Q L (k' + 1) op' d' → Calls Tryz.prog 87 #[.pointer (some ⟨g, 0, none⟩)] w (ExOut 1 (termK sub) (Old g w) w g Q L (k' + 1) op' d')) := Lib.hid (fun w h => term_goes he (by rw [(HL.out.2.2.2.1.1 HD.out).2]; exact HSUB.out) h hk1)
        go_wp2_with fail
        go_at_call 33
        with_reducible refine (HNX.out _ HR.out).mono ?_
        rintro r w4 ⟨rfl, hb4⟩
        have HB4 := Lib.hid hb4
        clear hb4
        go_wp2_with fail
        go_at_call 33
        with_reducible refine (HNX.out _ (HR.out.below HB4.out)).mono ?_
        rintro r w5 ⟨rfl, hb5⟩
        have hB6 := hop HB4.out hb5
        have hB6 := hop hB6 ((Below.refl w5.heap.size w5).alloc (Nat.le_refl _) (.cells #[strV t1, .int .i64 (t2 : Int), .int .i64 (t3 : Int)] 75))
        have hr6 := HR.out.below hB6
        have x1 := hr6.1.cell (i := 1) (by simp)
        simp only [List.getElem_cons_succ, List.getElem_cons_zero] at x1
        have f1 := hr6.1.free 1
        have hlt := HR.out.lt
        have hge : g ≠ w5.heap.size := by have := hB6.size; have := HB4.out.size; have := hb5.size; omega
        have hL3 : L.length ≤ 1000000 := HR.out.2.2
        have HT7 := Lib.hid ((Blk.new w5 [strV t1, .int .i64 (t2 : Int), .int .i64 (t3 : Int)] 75).other ⟨g, 1, none⟩ (.int .i64 ((k' + 1 : Nat) : Int)) (fun e => hge e.symm))
        have HZ7 := Lib.hid ((HZ.out.below hB6 HZ.out.lt).other ⟨g, 1, none⟩ (.int .i64 ((k' + 1 : Nat) : Int)) (fun e => hgn e.symm))
        have HX7 := Lib.hid ((HX.out.below hB6 HX.out.lt).other ⟨g, 1, none⟩ (.int .i64 ((k' + 1 : Nat) : Int)) (fun e => hgm e.symm))
        have HR7 := Lib.hid (hr6.set_at (k' + 1))
        have HS7 := Lib.hid ((sp_trans HL.out.1.2.2.2.2.1 (Spared.of_below hB6 (onG g))).setCell (g := g) rfl 1 (.int .i64 ((k' + 1 : Nat) : Int)))
        have HE7 := Lib.hid (ExAt.moved ((Spared.of_below hB6 (fun b => b = g ∨ b ≤ W.heap.size ∨ b = w2.heap.size)).setCell (g := g) (.inl rfl) 1 (.int .i64 ((k' + 1 : Nat) : Int))) (fun _ h => .inl h) _ _ HL.out.1.2.2.1)
        rw [show ((k' + 1 : Nat) : Int) = (k' : Int) + 1 by omega] at HT7 HZ7 HX7 HR7 HS7 HE7
        clear hB6 hr6 hlt hb5 HZ HX
        go_wp2_with fail
        go_at_call 87
        with_reducible refine (HAT.out _ HR7.out).mono ?_
        rintro r w8 ⟨eb, cb, k8, op8, d8, rfl, hE8, hh8, hg8, hr8, hs8⟩
        obtain ⟨p1, p2, p3, pA, pm, pc, rfl⟩ := hE8.shape
        have hk8 : k8 < L.length := hg8.2.2.2
        have hb9 := (Below.refl w8.heap.size w8).alloc (Nat.le_refl _) (.cells #[.int .i64 p1, strV p2, strV p3, .slice pA pm pc] 69)
        have hlt7 := HX7.out.lt
        have hltz := HNM.out
        have HT9 := Lib.hid ((hs8.blk HT7.out (fun e => hge e.symm)).alloc (.cells #[.int .i64 p1, strV p2, strV p3, .slice pA pm pc] 69))
        have HZ9 := Lib.hid ((hs8.blk HZ7.out (fun e => hgn e.symm)).alloc (.cells #[.int .i64 p1, strV p2, strV p3, .slice pA pm pc] 69))
        have HX9 := Lib.hid ((hs8.blk HX7.out (fun e => hgm e.symm)).alloc (.cells #[.int .i64 p1, strV p2, strV p3, .slice pA pm pc] 69))
        have HY9 := Lib.hid (Blk.new w8 [.int .i64 p1, strV p2, strV p3, .slice pA pm pc] 69)
        have HR9 := Lib.hid (hr8.below hb9)
        have HS9 := Lib.hid (sp_trans (sp_trans HS7.out hs8) (Spared.of_below hb9 (onG g)))
        have HE9 := Lib.hid ((ExAt.moved (hs8.mono (fun _ h => .inl h)) (fun _ h => .inl h) _ _ HE7.out).below hb9)
        have HEB9 := Lib.hid ((ExAt.moved (G := (fun b => b = g ∨ b ≤ W.heap.size ∨ b = w2.heap.size)) (Spared.refl w8 _) (fun i hi => .inl (hi.elim .inl (fun h => .inr (by omega)))) _ _ hE8).below hb9)
        have HG8 := Lib.hid hg8
        have HH8 := Lib.hid hh8
        have HF9 : Hid (∀ i, (fun b => b = g ∨ b ≤ W.heap.size ∨ b = w2.heap.size) i → i < (w8.alloc (.cells #[.int .i64 p1, strV p2, strV p3, .slice pA pm pc] 69)).heap.size) := Lib.hid (fun i hi => by
          have a1 := HR9.out.lt
          have a2 := HX9.out.lt
          rcases hi with hi | hi | hi
          · omega
          · omega
          · omega)
        have HTW := Lib.hid (two_goes (F := (fun b => b = g ∨ b ≤ W.heap.size ∨ b = w2.heap.size)) (.inl rfl) HF9.out HR9.out hk8 2 ⟨by decide, by decide⟩ (t1, t2, t3) HE9.out HEB9.out (fun h => ⟨(HL.out.2.2.2.1.1 HD.out).1, (HH8.out.1 h).1⟩))
        clear hE8 hh8 hg8 hr8 hs8 hb9 hlt7 hltz HT7 HZ7 HX7 HR7 HS7 HE7
        have z0 := HX9.out.cell (i := 0) (by simp)
        have z1 := HX9.out.cell (i := 1) (by simp)
        have z2 := HX9.out.cell (i := 2) (by simp)
        have z3 := HX9.out.cell (i := 3) (by simp)
        simp only [List.getElem_cons_succ, List.getElem_cons_zero] at z0 z1 z2 z3
        have y0 := HY9.out.cell (i := 0) (by simp)
        have y1 := HY9.out.cell (i := 1) (by simp)
        have y2 := HY9.out.cell (i := 2) (by simp)
        have y3 := HY9.out.cell (i := 3) (by simp)
        simp only [List.getElem_cons_succ, List.getElem_cons_zero] at y0 y1 y2 y3
        have tt0 := HT9.out.cell (i := 0) (by simp)
        have tt1 := HT9.out.cell (i := 1) (by simp)
        have tt2 := HT9.out.cell (i := 2) (by simp)
        simp only [List.getElem_cons_succ, List.getElem_cons_zero] at tt0 tt1 tt2
        go_wp2_with fail
        go_at_call 88
        with_reducible refine HTW.out.mono ?_
        rintro r w10 ⟨e10, c10, k10, op10, d10, rfl, hE10, hh10, hg10, hr10, hs10⟩
        obtain ⟨r1, r2, r3, rA, rm, rc, rfl⟩ := hE10.shape
        have HX10 := Lib.hid (hs10.blk HX9.out (fun e => hgm e.symm))
        have HZ10 := Lib.hid (hs10.blk HZ9.out (fun e => hgn e.symm))
        have HS10 := Lib.hid (sp_trans HS9.out hs10)
        have HR10 := Lib.hid hr10
        have HE10 := Lib.hid hE10
        have HH10 := Lib.hid hh10
        have HG10 := Lib.hid hg10
        have c0 := HX10.out.cell (i := 0) (by simp)
        have c1 := HX10.out.cell (i := 1) (by simp)
        have c2 := HX10.out.cell (i := 2) (by simp)
        have c3 := HX10.out.cell (i := 3) (by simp)
        simp only [List.getElem_cons_succ, List.getElem_cons_zero] at c0 c1 c2 c3
        have b0 := HX10.out.free 0
        have b1 := HX10.out.free 1
        have b2 := HX10.out.free 2
        have b3 := HX10.out.free 3
        clear hE10 hh10 hg10 hr10 hs10 HTW
        go_wp2_with fail
        go_roundw
        case rel =>
          refine ⟨e10, r1, r2, r3, rA, rm, rc, k10, op10, d10, n - 1, Lib.hid ⟨⟨?_, ((((HZ10.out.other _ _ (Nat.ne_of_lt HNM.out)).other _ _ (Nat.ne_of_lt HNM.out)).other _ _ (Nat.ne_of_lt HNM.out)).other _ _ (Nat.ne_of_lt HNM.out)), ExAt.moved (((((Spared.refl _ (fun b => b = g ∨ b ≤ W.heap.size ∨ b = w2.heap.size)).setCell (g := w2.heap.size) (.inr (.inr rfl)) 0 _).setCell (g := w2.heap.size) (.inr (.inr rfl)) 1 _).setCell (g := w2.heap.size) (.inr (.inr rfl)) 2 _).setCell (g := w2.heap.size) (.inr (.inr rfl)) 3 _) (fun _ h => .inl h) _ _ HE10.out, (HR0.out.setNew (HR0.out.setNew (HR0.out.setNew (HR0.out.setNew HR10.out (Nat.le_of_lt HNM.out) 0 _) (Nat.le_of_lt HNM.out) 1 _) (Nat.le_of_lt HNM.out) 2 _) (Nat.le_of_lt HNM.out) 3 _), ((((HS10.out.setNew (Nat.le_of_lt HNM.out) 0 _).setNew (Nat.le_of_lt HNM.out) 1 _).setNew (Nat.le_of_lt HNM.out) 2 _).setNew (Nat.le_of_lt HNM.out) 3 _), HNM.out⟩, HG10.out.2.2.2, ?_, ⟨fun h => ?_, ?_, ?_⟩, fun e' k2 d2 hgo => ?_⟩⟩
          · simpa using ((((HX10.out.set 0 (.int .i64 r1)).set 1 (strV r2)).set 2 (strV r3)).set 3 (.slice rA rm rc))
          · have := HL.out.2.2.1; have := HG8.out.2.2.1; have := HG10.out.2.2.1; omega
          · have h8 : d8.2.2 = 0 := Classical.byContradiction (fun h' => h' (by rw [← HG10.out.2.1 h']; exact h))
            have q1 := HH10.out.1 h
            have q2 := HH8.out.1 h8
            have q3 := HL.out.2.2.2.1.1 HD.out
            exact ⟨q1.1, by omega⟩
          · have := HH10.out.2.1; have := HH8.out.2.1; have := HL.out.2.2.2.1.2.1; omega
          · have := HH10.out.2.2; have := HH8.out.2.2; have := HL.out.2.2.2.1.1 HD.out; omega
          · refine HL.out.2.2.2.2 _ _ _ ?_
            have hn := HL.out.2.2.1
            obtain ⟨m, rfl⟩ : ∃ m, n = m + 1 := ⟨n - 1, by omega⟩
            have hLq : L[k'].1 = [43] := by rw [← HTK.out]; exact HQ.out
            refine Goes.at_ (Goes.take (Q := fun ts => (termK sub ts).then fun b r => (twoP 2 (t1, t2, t3) e b r).then fun e r => exprLoop sub m e r) (R := fun ts => .ok e ts) hk' ⟨HD.out, hLq⟩ (Goes.then HG8.out (Goes.then HG10.out hgo))) ?_
            simp only [exprLoop, nx_drop hk', ← HTK.out, HQ.out]
            rfl
        case measure =>
          have e1 := HR.out.1.cell (i := 1) (by simp)
          have e2 := (HR0.out.setNew (HR0.out.setNew (HR0.out.setNew (HR0.out.setNew HR10.out (Nat.le_of_lt HNM.out) 0 (.int .i64 r1)) (Nat.le_of_lt HNM.out) 1 (.string ⟨r2.toArray⟩)) (Nat.le_of_lt HNM.out) 2 (.string ⟨r3.toArray⟩)) (Nat.le_of_lt HNM.out) 3 (.slice rA rm rc)).1.cell (i := 1) (by simp)
          simp only [List.getElem_cons_succ, List.getElem_cons_zero] at e1 e2
          have := HG8.out.2.2.1; have := HG10.out.2.2.1; have := HG10.out.2.2.2
          rw [e1, e2]
          simp [intOf]
          omega
      · by_cases hq2 : t1 = [45]
        · have hts : (t1 == [45]) = true := beq_iff_eq.2 hq2
          have hto : (t1 == [43]) = false := beq_eq_false_iff_ne.2 (by rw [hq2]; decide)
          have HQ := Lib.hid hq2
          have hk1 : k' + 1 < L.length := he.more hk' (by rw [← HTK.out]; show t1 ≠ []; rw [hq2]; decide) (by rw [← HTK.out]; show t1 ≠ [63]; rw [hq2]; decide)
          clear hq hq2
          have HAT : Hid (∀ w, Rd w g Q L (k' + 1) op' d' → Calls Tryz.prog 87 #[.pointer (some ⟨g, 0, none⟩)] w (ExOut 1 (termK sub) (Old g w) w g Q L (k' + 1) op' d')) := Lib.hid (fun w h => term_goes he (by rw [(HL.out.2.2.2.1.1 HD.out).2]; exact HSUB.out) h hk1)
          go_wp2_with fail
          go_at_call 33
          with_reducible refine (HNX.out _ HR.out).mono ?_
          rintro r w4 ⟨rfl, hb4⟩
          have HB4 := Lib.hid hb4
          clear hb4
          go_wp2_with fail
          go_at_call 33
          with_reducible refine (HNX.out _ (HR.out.below HB4.out)).mono ?_
          rintro r w4' ⟨rfl, hb4⟩
          have HB4 := Lib.hid (hop HB4.out hb4)
          clear hb4
          go_wp2_with fail
          go_at_call 33
          with_reducible refine (HNX.out _ (HR.out.below HB4.out)).mono ?_
          rintro r w5 ⟨rfl, hb5⟩
          have hB6 := hop HB4.out hb5
          have hB6 := hop hB6 ((Below.refl w5.heap.size w5).alloc (Nat.le_refl _) (.cells #[strV t1, .int .i64 (t2 : Int), .int .i64 (t3 : Int)] 75))
          have hr6 := HR.out.below hB6
          have x1 := hr6.1.cell (i := 1) (by simp)
          simp only [List.getElem_cons_succ, List.getElem_cons_zero] at x1
          have f1 := hr6.1.free 1
          have hlt := HR.out.lt
          have hge : g ≠ w5.heap.size := by have := hB6.size; have := HB4.out.size; have := hb5.size; omega
          have hL3 : L.length ≤ 1000000 := HR.out.2.2
          have HT7 := Lib.hid ((Blk.new w5 [strV t1, .int .i64 (t2 : Int), .int .i64 (t3 : Int)] 75).other ⟨g, 1, none⟩ (.int .i64 ((k' + 1 : Nat) : Int)) (fun e => hge e.symm))
          have HZ7 := Lib.hid ((HZ.out.below hB6 HZ.out.lt).other ⟨g, 1, none⟩ (.int .i64 ((k' + 1 : Nat) : Int)) (fun e => hgn e.symm))
          have HX7 := Lib.hid ((HX.out.below hB6 HX.out.lt).other ⟨g, 1, none⟩ (.int .i64 ((k' + 1 : Nat) : Int)) (fun e => hgm e.symm))
          have HR7 := Lib.hid (hr6.set_at (k' + 1))
          have HS7 := Lib.hid ((sp_trans HL.out.1.2.2.2.2.1 (Spared.of_below hB6 (onG g))).setCell (g := g) rfl 1 (.int .i64 ((k' + 1 : Nat) : Int)))
          have HE7 := Lib.hid (ExAt.moved ((Spared.of_below hB6 (fun b => b = g ∨ b ≤ W.heap.size ∨ b = w2.heap.size)).setCell (g := g) (.inl rfl) 1 (.int .i64 ((k' + 1 : Nat) : Int))) (fun _ h => .inl h) _ _ HL.out.1.2.2.1)
          rw [show ((k' + 1 : Nat) : Int) = (k' : Int) + 1 by omega] at HT7 HZ7 HX7 HR7 HS7 HE7
          clear hB6 hr6 hlt hb5 HZ HX
          go_wp2_with fail
          go_at_call 87
          with_reducible refine (HAT.out _ HR7.out).mono ?_
          rintro r w8 ⟨eb, cb, k8, op8, d8, rfl, hE8, hh8, hg8, hr8, hs8⟩
          obtain ⟨p1, p2, p3, pA, pm, pc, rfl⟩ := hE8.shape
          have hk8 : k8 < L.length := hg8.2.2.2
          have hb9 := (Below.refl w8.heap.size w8).alloc (Nat.le_refl _) (.cells #[.int .i64 p1, strV p2, strV p3, .slice pA pm pc] 69)
          have hlt7 := HX7.out.lt
          have hltz := HNM.out
          have HT9 := Lib.hid ((hs8.blk HT7.out (fun e => hge e.symm)).alloc (.cells #[.int .i64 p1, strV p2, strV p3, .slice pA pm pc] 69))
          have HZ9 := Lib.hid ((hs8.blk HZ7.out (fun e => hgn e.symm)).alloc (.cells #[.int .i64 p1, strV p2, strV p3, .slice pA pm pc] 69))
          have HX9 := Lib.hid ((hs8.blk HX7.out (fun e => hgm e.symm)).alloc (.cells #[.int .i64 p1, strV p2, strV p3, .slice pA pm pc] 69))
          have HY9 := Lib.hid (Blk.new w8 [.int .i64 p1, strV p2, strV p3, .slice pA pm pc] 69)
          have HR9 := Lib.hid (hr8.below hb9)
          have HS9 := Lib.hid (sp_trans (sp_trans HS7.out hs8) (Spared.of_below hb9 (onG g)))
          have HE9 := Lib.hid ((ExAt.moved (hs8.mono (fun _ h => .inl h)) (fun _ h => .inl h) _ _ HE7.out).below hb9)
          have HEB9 := Lib.hid ((ExAt.moved (G := (fun b => b = g ∨ b ≤ W.heap.size ∨ b = w2.heap.size)) (Spared.refl w8 _) (fun i hi => .inl (hi.elim .inl (fun h => .inr (by omega)))) _ _ hE8).below hb9)
          have HG8 := Lib.hid hg8
          have HH8 := Lib.hid hh8
          have HF9 : Hid (∀ i, (fun b => b = g ∨ b ≤ W.heap.size ∨ b = w2.heap.size) i → i < (w8.alloc (.cells #[.int .i64 p1, strV p2, strV p3, .slice pA pm pc] 69)).heap.size) := Lib.hid (fun i hi => by
            have a1 := HR9.out.lt
            have a2 := HX9.out.lt
            rcases hi with hi | hi | hi
            · omega
            · omega
            · omega)
          have HTW := Lib.hid (two_goes (F := (fun b => b = g ∨ b ≤ W.heap.size ∨ b = w2.heap.size)) (.inl rfl) HF9.out HR9.out hk8 4 ⟨by decide, by decide⟩ (t1, t2, t3) HE9.out HEB9.out (fun h => ⟨(HL.out.2.2.2.1.1 HD.out).1, (HH8.out.1 h).1⟩))
          clear hE8 hh8 hg8 hr8 hs8 hb9 hlt7 hltz HT7 HZ7 HX7 HR7 HS7 HE7
          have z0 := HX9.out.cell (i := 0) (by simp)
          have z1 := HX9.out.cell (i := 1) (by simp)
          have z2 := HX9.out.cell (i := 2) (by simp)
          have z3 := HX9.out.cell (i := 3) (by simp)
          simp only [List.getElem_cons_succ, List.getElem_cons_zero] at z0 z1 z2 z3
          have y0 := HY9.out.cell (i := 0) (by simp)
          have y1 := HY9.out.cell (i := 1) (by simp)
          have y2 := HY9.out.cell (i := 2) (by simp)
          have y3 := HY9.out.cell (i := 3) (by simp)
          simp only [List.getElem_cons_succ, List.getElem_cons_zero] at y0 y1 y2 y3
          have tt0 := HT9.out.cell (i := 0) (by simp)
          have tt1 := HT9.out.cell (i := 1) (by simp)
          have tt2 := HT9.out.cell (i := 2) (by simp)
          simp only [List.getElem_cons_succ, List.getElem_cons_zero] at tt0 tt1 tt2
          go_wp2_with fail
          go_at_call 88
          with_reducible refine HTW.out.mono ?_
          rintro r w10 ⟨e10, c10, k10, op10, d10, rfl, hE10, hh10, hg10, hr10, hs10⟩
          obtain ⟨r1, r2, r3, rA, rm, rc, rfl⟩ := hE10.shape
          have HX10 := Lib.hid (hs10.blk HX9.out (fun e => hgm e.symm))
          have HZ10 := Lib.hid (hs10.blk HZ9.out (fun e => hgn e.symm))
          have HS10 := Lib.hid (sp_trans HS9.out hs10)
          have HR10 := Lib.hid hr10
          have HE10 := Lib.hid hE10
          have HH10 := Lib.hid hh10
          have HG10 := Lib.hid hg10
          have c0 := HX10.out.cell (i := 0) (by simp)
          have c1 := HX10.out.cell (i := 1) (by simp)
          have c2 := HX10.out.cell (i := 2) (by simp)
          have c3 := HX10.out.cell (i := 3) (by simp)
          simp only [List.getElem_cons_succ, List.getElem_cons_zero] at c0 c1 c2 c3
          have b0 := HX10.out.free 0
          have b1 := HX10.out.free 1
          have b2 := HX10.out.free 2
          have b3 := HX10.out.free 3
          clear hE10 hh10 hg10 hr10 hs10 HTW
          go_wp2_with fail
          go_roundw
          case rel =>
            refine ⟨e10, r1, r2, r3, rA, rm, rc, k10, op10, d10, n - 1, Lib.hid ⟨⟨?_, ((((HZ10.out.other _ _ (Nat.ne_of_lt HNM.out)).other _ _ (Nat.ne_of_lt HNM.out)).other _ _ (Nat.ne_of_lt HNM.out)).other _ _ (Nat.ne_of_lt HNM.out)), ExAt.moved (((((Spared.refl _ (fun b => b = g ∨ b ≤ W.heap.size ∨ b = w2.heap.size)).setCell (g := w2.heap.size) (.inr (.inr rfl)) 0 _).setCell (g := w2.heap.size) (.inr (.inr rfl)) 1 _).setCell (g := w2.heap.size) (.inr (.inr rfl)) 2 _).setCell (g := w2.heap.size) (.inr (.inr rfl)) 3 _) (fun _ h => .inl h) _ _ HE10.out, (HR0.out.setNew (HR0.out.setNew (HR0.out.setNew (HR0.out.setNew HR10.out (Nat.le_of_lt HNM.out) 0 _) (Nat.le_of_lt HNM.out) 1 _) (Nat.le_of_lt HNM.out) 2 _) (Nat.le_of_lt HNM.out) 3 _), ((((HS10.out.setNew (Nat.le_of_lt HNM.out) 0 _).setNew (Nat.le_of_lt HNM.out) 1 _).setNew (Nat.le_of_lt HNM.out) 2 _).setNew (Nat.le_of_lt HNM.out) 3 _), HNM.out⟩, HG10.out.2.2.2, ?_, ⟨fun h => ?_, ?_, ?_⟩, fun e' k2 d2 hgo => ?_⟩⟩
            · simpa using ((((HX10.out.set 0 (.int .i64 r1)).set 1 (strV r2)).set 2 (strV r3)).set 3 (.slice rA rm rc))
            · have := HL.out.2.2.1; have := HG8.out.2.2.1; have := HG10.out.2.2.1; omega
            · have h8 : d8.2.2 = 0 := Classical.byContradiction (fun h' => h' (by rw [← HG10.out.2.1 h']; exact h))
              have q1 := HH10.out.1 h
              have q2 := HH8.out.1 h8
              have q3 := HL.out.2.2.2.1.1 HD.out
              exact ⟨q1.1, by omega⟩
            · have := HH10.out.2.1; have := HH8.out.2.1; have := HL.out.2.2.2.1.2.1; omega
            · have := HH10.out.2.2; have := HH8.out.2.2; have := HL.out.2.2.2.1.1 HD.out; omega
            · refine HL.out.2.2.2.2 _ _ _ ?_
              have hn := HL.out.2.2.1
              obtain ⟨m, rfl⟩ : ∃ m, n = m + 1 := ⟨n - 1, by omega⟩
              have hLq : L[k'].1 = [45] := by rw [← HTK.out]; exact HQ.out
              refine Goes.at_ (Goes.take (Q := fun ts => (termK sub ts).then fun b r => (twoP 4 (t1, t2, t3) e b r).then fun e r => exprLoop sub m e r) (R := fun ts => .ok e ts) hk' ⟨HD.out, hLq⟩ (Goes.then HG8.out (Goes.then HG10.out hgo))) ?_
              simp only [exprLoop, nx_drop hk', ← HTK.out, HQ.out]
              rfl
          case measure =>
            have e1 := HR.out.1.cell (i := 1) (by simp)
            have e2 := (HR0.out.setNew (HR0.out.setNew (HR0.out.setNew (HR0.out.setNew HR10.out (Nat.le_of_lt HNM.out) 0 (.int .i64 r1)) (Nat.le_of_lt HNM.out) 1 (.string ⟨r2.toArray⟩)) (Nat.le_of_lt HNM.out) 2 (.string ⟨r3.toArray⟩)) (Nat.le_of_lt HNM.out) 3 (.slice rA rm rc)).1.cell (i := 1) (by simp)
            simp only [List.getElem_cons_succ, List.getElem_cons_zero] at e1 e2
            have := HG8.out.2.2.1; have := HG10.out.2.2.1; have := HG10.out.2.2.2
            rw [e1, e2]
            simp [intOf]
            omega
        · have hts : (t1 == [43]) = false := beq_eq_false_iff_ne.2 hq
          have hto : (t1 == [45]) = false := beq_eq_false_iff_ne.2 hq2
          have HQ := Lib.hid (And.intro hq hq2)
          clear hq hq2
          go_wp2_with fail
          go_at_call 33
          with_reducible refine (HNX.out _ HR.out).mono ?_
          rintro r w4 ⟨rfl, hb4⟩
          have HB4 := Lib.hid hb4
          clear hb4
          go_wp2_with fail
          go_at_call 33
          with_reducible refine (HNX.out _ (HR.out.below HB4.out)).mono ?_
          rintro r w4' ⟨rfl, hb4⟩
          have HB4 := Lib.hid (hop HB4.out hb4)
          clear hb4
          have hZ4 := (HZ.out.below HB4.out HZ.out.lt)
          have hX4 := (HX.out.below HB4.out HX.out.lt)
          have v0 := hZ4.cell (i := 0) (by simp)
          have v1 := hZ4.cell (i := 1) (by simp)
          have v2 := hZ4.cell (i := 2) (by simp)
          have v3 := hZ4.cell (i := 3) (by simp)
          simp only [List.getElem_cons_succ, List.getElem_cons_zero] at v0 v1 v2 v3
          have f0 := hZ4.free 0
          have f1 := hZ4.free 1
          have f2 := hZ4.free 2
          have f3 := hZ4.free 3
          have z0 := hX4.cell (i := 0) (by simp)
          have z1 := hX4.cell (i := 1) (by simp)
          have z2 := hX4.cell (i := 2) (by simp)
          have z3 := hX4.cell (i := 3) (by simp)
          simp only [List.getElem_cons_succ, List.getElem_cons_zero] at z0 z1 z2 z3
          clear hZ4 hX4
          go_wp2_with fail
          refine bodyPost_ret (v := .agg #[.int .i64 q1, strV q2, strV q3, .slice qA qm qc]) (by simp [results, Tryz.results55, go_sem, v0, v1, v2, v3]) rfl ?_
          refine HL.out.done HR0.out HB4.out _ _ _ _ ?_
          have hn := HL.out.2.2.1
          obtain ⟨m, rfl⟩ : ∃ m, n = m + 1 := ⟨n - 1, by omega⟩
          refine Goes.at_ (Goes.ok e hk') ?_
          simp only [exprLoop, nx_drop hk', ← HTK.out]
          rw [if_neg (fun h => h.elim HQ.out.1 HQ.out.2)]
    · have hd : ((d'.2.2 : Int) == 0) = false := beq_eq_false_iff_ne.2 (by omega)
      have HD := Lib.hid h0
      have v0 := HZ.out.cell (i := 0) (by simp)
      have v1 := HZ.out.cell (i := 1) (by simp)
      have v2 := HZ.out.cell (i := 2) (by simp)
      have v3 := HZ.out.cell (i := 3) (by simp)
      simp only [List.getElem_cons_succ, List.getElem_cons_zero] at v0 v1 v2 v3
      have f0 := HZ.out.free 0
      have f1 := HZ.out.free 1
      have f2 := HZ.out.free 2
      have f3 := HZ.out.free 3
      have z0 := HX.out.cell (i := 0) (by simp)
      have z1 := HX.out.cell (i := 1) (by simp)
      have z2 := HX.out.cell (i := 2) (by simp)
      have z3 := HX.out.cell (i := 3) (by simp)
      simp only [List.getElem_cons_succ, List.getElem_cons_zero] at z0 z1 z2 z3
      go_wp2_with fail
      refine bodyPost_ret (v := .agg #[.int .i64 q1, strV q2, strV q3, .slice qA qm qc]) (by simp [results, Tryz.results55, go_sem, v0, v1, v2, v3]) rfl ?_
      exact HL.out.done HR0.out (Below.refl _ _) _ _ _ _ (Goes.dead HD.out _ hk')
theorem expr_goes {g : Nat} {Q : Option Addr × Nat} {L : List Tk} (he : Ends L) : ∀ (n op : Nat), n + op = 12 → ∀ (W : World) (k : Nat) (d : Dg), Rd W g Q L k op d → k < L.length →
    Calls Tryz.prog 55 #[.pointer (some ⟨g, 0, none⟩)] W (ExOut 1 (exprD n) (Old g W) W g Q L k op d)
  | 0, op, hn, W, k, d, h, hk => by
    rw [exprD_eq]
    exact expr_goes0 he (show op = 12 by omega) h hk
  | m + 1, op, hn, W, k, d, h, hk => by
    rw [exprD_eq]
    exact expr_goes0 he ⟨by omega, fun W k d h hk => expr_goes he m (op + 1) (by omega) W k d h hk⟩ h hk
end Go.Proofs.YtehabjiacgibpaaGreat
namespace Go.Proofs.YtehabjiacgibpaaGreat
open Go.RowKit
set_option maxHeartbeats 1000000 in
theorem ref_goes {W : World} {g : Nat} {Q : Option Addr × Nat} {L : List Tk} {k op : Nat} {d : Dg} (he : Ends L) (h : Rd W g Q L k op d) (hk : k < L.length) :
    Calls Tryz.prog 54 #[.pointer (some ⟨g, 0, none⟩)] W fun r w' =>
      ∃ x k' d', r = .returned (.agg #[strV x.1, strV x.2]) ∧ small x.1 ∧ small x.2 ∧ Goes refP L k d x k' d' ∧ Rd w' g Q L k' op d' ∧ Spared W w' (onG g) := by
  have HN := Lib.hid (rname_goes he (h.below ((Below.refl W.heap.size W).alloc (Nat.le_refl _) (.cells #[.string ⟨#[]⟩, .string ⟨#[]⟩] 85))) hk)
  have HS0 := Lib.hid (Spared.of_below ((Below.refl W.heap.size W).alloc (Nat.le_refl _) (.cells #[.string ⟨#[]⟩, .string ⟨#[]⟩] 85)) (onG g))
  have HB0 := Lib.hid (Blk.new W [.string ⟨#[]⟩, .string ⟨#[]⟩] 85)
  have hgn : g ≠ W.heap.size := Nat.ne_of_lt h.lt
  have HR0 := Lib.hid h
  clear h
  go_enter Tryz.func54, Tryz.ntmps54
  go_wp2_with fail
  go_at_call 31
  with_reducible refine HN.out.mono ?_
  rintro e w2 ⟨s, k1, d1, rfl, hs1, hg1, hr2, hs2⟩
  have HB2 := HB0.out
  have hb2 : Blk w2 W.heap.size [.string ⟨#[]⟩, .string ⟨#[]⟩] 85 := hs2.blk HB2 (fun e => hgn e.symm)
  have hk1 := hg1.2.2.2
  have HR2 := Lib.hid (hr2.below ((Below.refl w2.heap.size w2).alloc (Nat.le_refl _) (.cells #[strV s, .string ⟨#[]⟩] 85)))
  have HI := Lib.hid (is_any HR2.out hk1 [35])
  have HX := Lib.hid (Blk.new w2 [strV s, .string ⟨#[]⟩] 85)
  have HB3 := Lib.hid (hb2.alloc (.cells #[strV s, .string ⟨#[]⟩] 85))
  have HS3 := Lib.hid (sp_trans (sp_trans HS0.out hs2) (Spared.of_below ((Below.refl w2.heap.size w2).alloc (Nat.le_refl _) (.cells #[strV s, .string ⟨#[]⟩] 85)) (onG g)))
  have hgx : g ≠ w2.heap.size := Nat.ne_of_lt hr2.lt
  have HW2 := Lib.hid hb2.lt
  have hwx : W.heap.size ≠ w2.heap.size := Nat.ne_of_lt hb2.lt
  clear HB2 hb2 hs2 hr2 HN HS0 HB0
  by_cases hq : d1.2.2 = 0 ∧ L[k1].1 = [35]
  · rw [if_pos hq, decide_eq_true hq] at HI
    have HQ := Lib.hid hq
    have hk2 : k1 + 1 < L.length := he.more hk1 (by rw [hq.2]; decide) (by rw [hq.2]; decide)
    clear hq
    go_wp2_with fail
    go_at_call 30
    with_reducible refine HI.out.mono ?_
    rintro e w3 ⟨rfl, hr3, hs3⟩
    have HB4 := Lib.hid (hs3.blk HB3.out (fun e => hgn e.symm))
    have HX4 := Lib.hid (hs3.blk HX.out (fun e => hgx e.symm))
    have HS4 := Lib.hid (sp_trans HS3.out hs3)
    have HN := Lib.hid (rname_goes he hr3 hk2)
    clear hr3 hs3 HB3 HX HS3 HI HR2
    go_wp2_with fail
    go_at_call 31
    with_reducible refine HN.out.mono ?_
    rintro e w4 ⟨o, k2, d2, rfl, hs5, hg5, hr5, hp5⟩
    have HR5 := Lib.hid hr5
    have HS5 := Lib.hid (sp_trans HS4.out hp5)
    have hB5 := hp5.blk HB4.out (fun e => hgn e.symm)
    have hX5 := hp5.blk HX4.out (fun e => hgx e.symm)
    have x0 := hX5.cell (i := 0) (by simp)
    have y0 := hX5.free 0
    have y1 := hX5.free 1
    have z0 := hB5.free 0
    have z1 := hB5.free 1
    have x1 := hX5.cell (i := 1) (by simp)
    have v0 := hB5.cell (i := 0) (by simp)
    have v1 := hB5.cell (i := 1) (by simp)
    simp only [List.getElem_cons_succ, List.getElem_cons_zero] at x0 x1 v0 v1
    have HLT := Lib.hid (And.intro hB5.lt hX5.lt)
    clear hr5 hp5 hB5 hX5 HB4 HX4 HS4 HN
    go_wp2_with fail
    refine bodyPost_ret (v := .agg #[strV s, strV o]) (by simp [results, Tryz.results54, go_sem, v0, v1]) rfl ?_
    refine ⟨(s, o), _, _, rfl, hs1, hs5, ?_, HR0.out.setNew (HR0.out.setNew (HR0.out.setNew HR5.out (Nat.le_of_lt HW2.out) 1 _) (Nat.le_refl _) 0 _) (Nat.le_refl _) 1 _, ((HS5.out.setNew (Nat.le_of_lt HW2.out) 1 _).setNew (Nat.le_refl _) 0 _).setNew (Nat.le_refl _) 1 _⟩
    exact Goes.then hg1 (Goes.take hk1 HQ.out (Goes.then hg5 (Goes.ok (s, o) hg5.2.2.2)))
  · rw [if_neg hq, decide_eq_false hq] at HI
    have HQ := Lib.hid hq
    clear hq
    go_wp2_with fail
    go_at_call 30
    with_reducible refine HI.out.mono ?_
    rintro e w3 ⟨rfl, hr3, hs3⟩
    have HR5 := Lib.hid hr3
    have HS5 := Lib.hid (sp_trans HS3.out hs3)
    have hB5 := hs3.blk HB3.out (fun e => hgn e.symm)
    have hX5 := hs3.blk HX.out (fun e => hgx e.symm)
    have x0 := hX5.cell (i := 0) (by simp)
    have x1 := hX5.cell (i := 1) (by simp)
    have v0 := hB5.cell (i := 0) (by simp)
    have v1 := hB5.cell (i := 1) (by simp)
    simp only [List.getElem_cons_succ, List.getElem_cons_zero] at x0 x1 v0 v1
    have HLT := Lib.hid (And.intro hB5.lt hX5.lt)
    have z0 := hB5.free 0
    have z1 := hB5.free 1
    clear hr3 hs3 hB5 hX5 HB3 HX HS3 HI HR2
    go_wp2_with fail
    refine bodyPost_ret (v := .agg #[strV s, strV []]) (by simp [results, Tryz.results54, go_sem, v0, v1]) rfl ?_
    refine ⟨(s, []), _, _, rfl, hs1, Nat.zero_le _, ?_, HR0.out.setNew (HR0.out.setNew HR5.out (Nat.le_refl _) 0 _) (Nat.le_refl _) 1 _, (HS5.out.setNew (Nat.le_refl _) 0 _).setNew (Nat.le_refl _) 1 _⟩
    exact Goes.then hg1 (Goes.pass (Q := fun r => (nameP r).then fun o r => .ok (s, o) r) hk1 HQ.out (Goes.ok (s, []) hk1))
end Go.Proofs.YtehabjiacgibpaaGreat
