/-
  The parser's operations. Conditions: how the parser lies in memory; what an operand comes to.
-/
import Derived.Test.YtpiaiibobjlipaaCPaE
namespace Go.Proofs.Ytpiaiibobjlipaa
open Go.RowKit
def exV (W : World) (g : Nat) (w : World) (e : Ex) (v : Value) : Prop := ∃ cs, v = .agg cs.toArray ∧ ExAt w (Old g W) e cs ∧ heightE e ≤ 12
def OpsAt (W : World) (g : Nat) (s : ByteArray) (i op : Nat) (R : Rs Ex) (ks : List Int) (P : List Tk → Rs Ex) (M : Nat) (w : World) (e : Ex) (cs : List Value) (i' m : Nat) : Prop :=
  (Blk w M cs 35 ∧ Blk w (W.heap.size + 1) [.int .i64 0, .string ⟨#[]⟩, .string ⟨#[]⟩, .slice none 0 0] 35 ∧ Blk w W.heap.size [.pointer (some ⟨g, 0, none⟩)] 86 ∧
    ExAt w (fun b => b = g ∨ b ≤ W.heap.size + 1 ∨ b = M) e cs ∧ PAt w g s i' op ∧ Spared W w (onG g)) ∧ W.heap.size + 1 < M ∧ i < i' ∧ (toks s.data.toList i').length ≤ m ∧ heightE e ≤ 12 ∧ R = opsLoop ks P m e (toks s.data.toList i')
theorem IntsAway.ints {w : World} {F : Nat → Prop} {A : Option Addr} {l : List Int} (h : IntsAway w F A l) : Ints w A l := by
  rcases h with h | ⟨b, off, h1, h2, _, h3⟩
  · exact .inl h
  · exact .inr ⟨b, off, h1, h2, h3⟩
theorem step_method {P : Program} {ops : Array Oper} {o : Oper} {a : Act} {K : Act → World → Prop} {Q : Exit → Act → World → Prop} {E : Prop} {w : World} (hgd : o.guard = none) (f : FuncId) (hcall : ∀ (args : Array Value) (w : World), (callFunc f args).run P w = .ok (.enter f args) w) (y : Operand) {u : Value}
    (ho : o.op = .call { callee := .value y, args := #[], argTypes := #[] }) (hy : a.eval y = .func (.func f) #[u] #[]) (h : Calls P f #[u] w fun e w' => (∃ r, e = .returned r ∧ K (a.put o.dst r) w') ∨ ∃ chain, e = .panicked chain ∧ Q (.panic chain) a w') :
    if Region.wanted o (yielded ops a.tmps) = true then Oper.wp P o a w K Q else E := by
  have hw : Region.wanted o (yielded ops a.tmps) = true := by simp [Region.wanted, hgd]
  rw [if_pos hw]
  have hrun : (execOp a.eval o).run P w = .ok (.enter f #[u]) w := by
    simp [execOp, ho, resolve, invoke, hy, Deferred.ofValue, hcall]
  unfold Oper.wp
  rw [hrun, Oper.upon_enter]
  refine h.mono ?_
  rintro e w' (⟨r, rfl, hr⟩ | ⟨chain, rfl, hr⟩)
  · exact hr
  · exact hr
theorem POut.split {α : Type} {V : World → α → Value → Prop} {W w' : World} {g : Nat} {s : ByteArray} {i op : Nat} {R : Rs α} {e : Ending} (h : POut V W g s i op R e w') :
    (∃ a ts v, R = .ok a ts ∧ e = .returned v ∧ V w' a v ∧ Gone W g s i op ts w') ∨ (∃ d, R = .no d ∧ e = fault d ∧ Spared W w' (onG g)) := by
  cases R with
  | ok a ts =>
    obtain ⟨v, h1, h2, h3⟩ := h
    exact .inl ⟨a, ts, v, rfl, h1, h2, h3⟩
  | no d => exact .inr ⟨d, rfl, h.1, h.2⟩
theorem ops_world {F : Nat → Prop} {w : World} {M : Nat} {K : Int} (hK : fitsI K) {a b : Ex} {k1 : Int} {n1 o1 : Txt} {A1 : Option Addr} {m1 c1 : Nat} {k2 : Int} {n2 o2 : Txt} {A2 : Option Addr} {m2 c2 : Nat} {u0 u1 u2 u3 : Value}
    (hX : Blk w M [u0, u1, u2, u3] 35) (hM : F M) (hF : ∀ i, F i → i < w.heap.size) (ha : ExAt w F a [.int .i64 k1, strV n1, strV o1, .slice A1 m1 c1]) (hb : ExAt w F b [.int .i64 k2, strV n2, strV o2, .slice A2 m2 c2]) {w7 : World}
    (hw : w7 = (((((w.alloc (.cells #[.int .i64 k1, strV n1, strV o1, .slice A1 m1 c1, .int .i64 k2, strV n2, strV o2, .slice A2 m2 c2] 35)).setCell ⟨M, 0, none⟩ (.int .i64 K)).setCell ⟨M, 1, none⟩ (.string ⟨#[]⟩)).setCell ⟨M, 2, none⟩ (.string ⟨#[]⟩)).setCell ⟨M, 3, none⟩ (.slice (some ⟨w.heap.size, 0, none⟩) 2 2))) :
    Spared w w7 (fun b => b = M) ∧ Blk w7 M [.int .i64 K, .string ⟨#[]⟩, .string ⟨#[]⟩, .slice (some ⟨w.heap.size, 0, none⟩) 2 2] 35 ∧ ExAt w7 F (.mk K [] [] [a, b]) [.int .i64 K, .string ⟨#[]⟩, .string ⟨#[]⟩, .slice (some ⟨w.heap.size, 0, none⟩) 2 2] := by
  have hlt := hX.lt
  have hs : Spared w w7 (fun b => b = M) := by
    rw [hw]
    exact (((((Spared.refl w (fun b => b = M)).alloc _).setCell (g := M) rfl 0 _).setCell (g := M) rfl 1 _).setCell (g := M) rfl 2 _).setCell (g := M) rfl 3 _
  have hbx : Blk w7 M [.int .i64 K, .string ⟨#[]⟩, .string ⟨#[]⟩, .slice (some ⟨w.heap.size, 0, none⟩) 2 2] 35 := by
    rw [hw]
    have := (((((hX.alloc (.cells #[.int .i64 k1, strV n1, strV o1, .slice A1 m1 c1, .int .i64 k2, strV n2, strV o2, .slice A2 m2 c2] 35)).set 0 (.int .i64 K)).set 1 (.string ⟨#[]⟩)).set 2 (.string ⟨#[]⟩)).set 3 (.slice (some ⟨w.heap.size, 0, none⟩) 2 2))
    simpa using this
  have hba : Blk w7 w.heap.size [.int .i64 k1, strV n1, strV o1, .slice A1 m1 c1, .int .i64 k2, strV n2, strV o2, .slice A2 m2 c2] 35 := by
    rw [hw]
    have hne : ∀ o, w.heap.size ≠ (⟨M, o, none⟩ : Addr).block := fun o => by show w.heap.size ≠ M; omega
    exact ((((Blk.new w _ _).other _ _ (hne 0)).other _ _ (hne 1)).other _ _ (hne 2)).other _ _ (hne 3)
  refine ⟨hs, hbx, ExAt.of_row (n := []) (o := []) ⟨hK, Nat.zero_le _, Nat.zero_le _, by simp⟩ (.inr ⟨_, 0, rfl, hba.lt, fun hc => by have := hF _ hc; omega, fun j hj => ?_⟩)⟩
  have hmv : ∀ {x : Ex} {cs : List Value}, ExAt w F x cs → ExAt w7 F x cs := fun h => ExAt.moved (hs.mono (fun _ h => by rw [h]; exact hM)) (fun _ h => .inl h) _ _ h
  have hc : ∀ i, i < 8 → w7.cell? ⟨w.heap.size, i, none⟩ = [.int .i64 k1, strV n1, strV o1, .slice A1 m1 c1, .int .i64 k2, strV n2, strV o2, .slice A2 m2 c2][i]? := fun i hi => by
    rw [hba.cell (by simpa using hi), List.getElem?_eq_getElem]
  match j, hj with
  | 0, _ => exact ⟨_, hmv ha, fun i hi => by
      rw [show 0 + 0 * 4 + i = i by omega, hc i (by omega)]
      match i, hi with
      | 0, _ => rfl
      | 1, _ => rfl
      | 2, _ => rfl
      | 3, _ => rfl⟩
  | 1, _ => exact ⟨_, hmv hb, fun i hi => by
      rw [show 0 + 1 * 4 + i = 4 + i by omega, hc _ (by omega)]
      match i, hi with
      | 0, _ => rfl
      | 1, _ => rfl
      | 2, _ => rfl
      | 3, _ => rfl⟩
set_option maxRecDepth 100000 in
set_option maxHeartbeats 2000000 in
theorem operations_any (f : Nat) (ef : ∀ args w, (callFunc f args).run Try.prog w = .ok (.enter f args) w) {W : World} {g : Nat} {s : ByteArray} {i op : Nat} (h : PAt W g s i op) {P : List Tk → Rs Ex} (hlv : ∀ ts, Lv (P ts) (ts.length - 1))
    (hf : ∀ (w : World) (j : Nat), PAt w g s j op → Calls Try.prog f #[.pointer (some ⟨g, 0, none⟩)] w (POut (exV w g) w g s j op (P (toks s.data.toList j))))
    {ks : List Int} {A : Option Addr} (c : Nat) (hks : Kinds ks) (hkl : ks.length ≤ 3) (hA : IntsAway W (onG g) A ks) :
    Calls Try.prog 95 #[.pointer (some ⟨g, 0, none⟩), .func (.func f) #[.pointer (some ⟨g, 0, none⟩)] #[], .slice A ks.length c] W (POut (exV W g) W g s i op (opsK ks P (toks s.data.toList i))) := by
  have hg := h.lt
  have hgn : g ≠ W.heap.size := Nat.ne_of_lt hg
  have hgz : g ≠ W.heap.size + 1 := by omega
  have hmf : ∀ (fn : Fn) (first cap : Array Value) (w : World), (Instr.makeFunc fn first cap).run Try.prog w = .ok (.func fn first cap) w := fun _ _ _ _ => rfl
  obtain ⟨W2, hW2⟩ : ∃ W2, W2 = (W.alloc (.cells #[.pointer (some ⟨g, 0, none⟩)] 86)).alloc (.cells #[.int .i64 0, .string ⟨#[]⟩, .string ⟨#[]⟩, .slice none 0 0] 35) := ⟨_, rfl⟩
  have hb2 : Below W.heap.size W W2 := by rw [hW2]; exact ((Below.refl W.heap.size W).alloc (Nat.le_refl _) _).alloc (by simp) _
  have HY2 : Hid (Blk W2 W.heap.size [.pointer (some ⟨g, 0, none⟩)] 86) := by rw [hW2]; exact Lib.hid ((Blk.new W [.pointer (some ⟨g, 0, none⟩)] 86).alloc _)
  have HZ2 : Hid (Blk W2 (W.heap.size + 1) [.int .i64 0, .string ⟨#[]⟩, .string ⟨#[]⟩, .slice none 0 0] 35) := by
    rw [hW2]
    have := Blk.new (W.alloc (.cells #[.pointer (some ⟨g, 0, none⟩)] 86)) [.int .i64 0, .string ⟨#[]⟩, .string ⟨#[]⟩, .slice none 0 0] 35
    rw [World.size_alloc] at this
    exact Lib.hid this
  have HS2 := Lib.hid (Spared.of_below hb2 (onG g))
  have HF := Lib.hid hf
  have HF1 := Lib.hid (hf W2 i (h.below hb2))
  have HA := Lib.hid hA
  have HKS := Lib.hid hks
  have HLV := Lib.hid hlv
  have HSZ := Lib.hid h.2.1
  obtain ⟨R, hR⟩ : ∃ R, R = opsK ks P (toks s.data.toList i) := ⟨_, rfl⟩
  rw [← hR]
  have HR := Lib.hid hR
  have HW2 := Lib.hid hW2
  clear h hR hf hA hks hb2 hW2 hlv
  cases hr1 : P (toks s.data.toList i) with
  | no d =>
    rw [hr1] at HF1
    have HR1 := Lib.hid hr1
    clear hr1
    go_enter Try.func95, Try.ntmps95
    go_wp2_with fail
    rw [← HW2.out]
    go_at_fn f
    refine HF1.out.mono ?_
    rintro e w1 ⟨rfl, hs1⟩
    go_wp2_with fail
    exact ⟨rfl, POut.no_ (by rw [HR.out, opsK, HR1.out]; rfl) (sp_trans HS2.out hs1)⟩
  | ok e r1 =>
    rw [hr1] at HF1
    have HR1 := Lib.hid hr1
    clear hr1
    go_enter Try.func95, Try.ntmps95
    go_wp2_with fail
    rw [← HW2.out]
    go_at_fn f
    refine HF1.out.mono ?_
    rintro r w1 ⟨_, rfl, ⟨cs, rfl, hE1, hh1⟩, i1, e1, l1, hp1, hs1⟩
    subst e1
    obtain ⟨q1, q2, q3, qA, qm, qc, rfl⟩ := hE1.shape
    have hY1 := hs1.blk HY2.out (fun e => hgn e.symm)
    have hZ1 := hs1.blk HZ2.out (fun e => hgz e.symm)
    have hm1 : W.heap.size + 1 < w1.heap.size := hZ1.lt
    obtain ⟨w3, hw3⟩ : ∃ w3, w3 = w1.alloc (.cells #[.int .i64 q1, strV q2, strV q3, .slice qA qm qc] 35) := ⟨_, rfl⟩
    have hb3 : Below w1.heap.size w1 w3 := by rw [hw3]; exact (Below.refl w1.heap.size w1).alloc (Nat.le_refl _) _
    have HL3 : Hid (OpsAt W g s i op R ks P w1.heap.size w3 e [.int .i64 q1, strV q2, strV q3, .slice qA qm qc] i1 (toks s.data.toList i).length) := by
      refine Lib.hid ⟨⟨?_, hZ1.below hb3 hZ1.lt, hY1.below hb3 hY1.lt, ?_, hp1.below hb3, sp_trans (sp_trans HS2.out hs1) (Spared.of_below hb3 (onG g))⟩, hm1, l1, Nat.le_trans (HLV.out _ _ _ HR1.out) (Nat.sub_le _ _), hh1, by rw [HR.out, opsK, HR1.out]; rfl⟩
      · rw [hw3]; exact Blk.new _ _ _
      · refine ExAt.moved (Spared.of_below hb3 (Old g W2)) (fun i hi => ?_) _ _ hE1
        have hw := HZ2.out.lt
        rcases hi with hi | hi | hi
        · exact .inl (.inl hi)
        · exact .inl (.inr (by omega))
        · exact .inr (by omega)
    have HW3 := Lib.hid hw3
    have hgm : g ≠ w1.heap.size := Nat.ne_of_lt hp1.lt
    have HM1 := Lib.hid hm1
    clear hE1 hh1 l1 hp1 hs1 hY1 hZ1 hw3 hb3 hm1 HF1 HY2 HZ2 HS2
    go_wp2_with fail
    rw [← HW3.out]
    go_loopw [] (fun wr => ∃ (e : Ex) (q1 : Int) (q2 q3 : Txt) (qA : Option Addr) (qm qc i' m : Nat), Hid (OpsAt W g s i op R ks P w1.heap.size wr e [.int .i64 q1, strV q2, strV q3, .slice qA qm qc] i' m)) (fun wr => 5000 - (intOf ((wr.cell? ⟨g, 1, none⟩).getD (.int .i64 0))).toNat)
    case atStart => exact ⟨_, _, _, _, _, _, _, _, _, HL3⟩
    case round =>
      clear HL3
      obtain ⟨e, q1, q2, q3, qA, qm, qc, i', m, HL⟩ := hrel
      have HP := Lib.hid HL.out.1.2.2.2.2.1
      have hY := HL.out.1.2.2.1
      have hX := HL.out.1.1
      have hAr := HA.out.moved HL.out.1.2.2.2.2.2 (fun _ h => .inl h)
      have hI := Lib.hid (pindex_any HP.out ⟨hY.lt, hY.cell (i := 0) (by simp)⟩ c hAr.ints (by omega))
      have he := idxF_same HP.out.1.tok.1 ks 0 HKS.out
      have hx := idxF_at (t := (nx (toks s.data.toList i')).1) ks 0
      obtain ⟨v, hv⟩ : ∃ v, v = idxF (fun k => (nx (toks s.data.toList i')).1 == opS k) 0 ks := ⟨_, rfl⟩
      rw [show idxI (fun k => curT s.data.toList i' == opS k) ks = v from he.trans hv.symm] at hI
      rw [← hv] at hx
      have HV := Lib.hid hv
      clear he hv
      rcases hx with rfl | ⟨q, hq, hx, htq⟩
      · have HX := Lib.hid hX
        have HZ := Lib.hid HL.out.1.2.1
        clear hY hX hAr
        go_wp2_with fail
        go_at_call 101
        refine hI.out.mono ?_
        rintro r w4 ⟨rfl, hb4⟩
        have hX4 := HX.out.below hb4 HX.out.lt
        have hZ4 := HZ.out.below hb4 HZ.out.lt
        have z0 := hX4.cell (i := 0) (by simp)
        have z1 := hX4.cell (i := 1) (by simp)
        have z2 := hX4.cell (i := 2) (by simp)
        have z3 := hX4.cell (i := 3) (by simp)
        have v0 := hZ4.cell (i := 0) (by simp)
        have v1 := hZ4.cell (i := 1) (by simp)
        have v2 := hZ4.cell (i := 2) (by simp)
        have v3 := hZ4.cell (i := 3) (by simp)
        simp only [List.getElem_cons_succ, List.getElem_cons_zero] at z0 z1 z2 z3 v0 v1 v2 v3
        have f0 := hZ4.free 0
        have f1 := hZ4.free 1
        have f2 := hZ4.free 2
        have f3 := hZ4.free 3
        have HB4 := Lib.hid hb4
        clear hX4 hZ4 hb4
        go_wp2_with fail
        refine bodyPost_ret (v := .agg #[.int .i64 q1, strV q2, strV q3, .slice qA qm qc]) (by simp [results, Try.results95, go_sem, v0, v1, v2, v3]) rfl ?_
        have hm2 := HL.out.2.1
        have hP4 := HP.out.below HB4.out
        have hne := HP.out.1.ne
        refine POut.ok_ (a := e) (ts := toks s.data.toList i') ?_ ⟨_, rfl, ExAt.moved (((((Spared.of_below HB4.out (fun b => b = g ∨ b ≤ W.heap.size + 1 ∨ b = w1.heap.size)).setCell (g := W.heap.size + 1) (.inr (.inl (Nat.le_refl _))) 0 _).setCell (g := W.heap.size + 1) (.inr (.inl (Nat.le_refl _))) 1 _).setCell (g := W.heap.size + 1) (.inr (.inl (Nat.le_refl _))) 2 _).setCell (g := W.heap.size + 1) (.inr (.inl (Nat.le_refl _))) 3 _) (fun i hi => .inl (hi.elim .inl (fun h => .inr (.inl (by omega))))) _ _ HL.out.1.2.2.2.1, HL.out.2.2.2.2.1⟩
          ⟨i', rfl, HL.out.2.2.1, (((hP4.setNew hg (Nat.le_succ _) _ _).setNew hg (Nat.le_succ _) _ _).setNew hg (Nat.le_succ _) _ _).setNew hg (Nat.le_succ _) _ _, ((((sp_trans HL.out.1.2.2.2.2.2 (Spared.of_below HB4.out (onG g))).setNew (Nat.le_succ _) _ _).setNew (Nat.le_succ _) _ _).setNew (Nat.le_succ _) _ _).setNew (Nat.le_succ _) _ _⟩
        obtain ⟨_, _, _, hm, _, hR⟩ := HL.out
        obtain ⟨k, rfl⟩ : ∃ k, m = k + 1 := ⟨m - 1, by omega⟩
        rw [hR, opsLoop, if_pos (by rw [idxI, ← HV.out]; decide)]
      · obtain rfl : v = (q : Int) := by rw [hx, Nat.zero_add]
        have hgd := opS_good (HKS.out _ (List.getElem_mem hq))
        have HNX := Lib.hid (fun w (h' : PAt w g s i' op) => h'.next (by rw [htq]; exact hgd.2) (by rw [htq]; exact hgd.1.no63))
        have HX := Lib.hid hX
        have HY := Lib.hid hY
        have HZ := Lib.hid HL.out.1.2.1
        have HAr := Lib.hid hAr
        have HTQ := Lib.hid htq
        have hq0 : (0 : Int) ≤ (q : Int) := by omega
        have hqd : decide ((q : Int) < 0) = false := decide_eq_false (by omega)
        clear hx hgd hX hY hAr htq
        go_wp2_with fail
        go_at_call 101
        refine hI.out.mono ?_
        rintro r w4 ⟨rfl, hb4⟩
        have HP4 := Lib.hid (HP.out.below hb4)
        have HX4 := Lib.hid (HX.out.below hb4 HX.out.lt)
        have HZ4 := Lib.hid (HZ.out.below hb4 HZ.out.lt)
        have HY4 := Lib.hid (HY.out.below hb4 HY.out.lt)
        have HA4 := Lib.hid (HAr.out.moved (Spared.of_below hb4 (onG g)) (fun _ h => .inl h))
        have HE4 := Lib.hid (HL.out.1.2.2.2.1.below hb4)
        have HS4 := Lib.hid (sp_trans HL.out.1.2.2.2.2.2 (Spared.of_below hb4 (onG g)))
        have y0 := HY4.out.cell (i := 0) (by simp)
        simp only [List.getElem_cons_zero] at y0
        have x1 := HP4.out.from_
        clear hb4 hI HX HZ HY HAr
        go_wp2_with fail
        go_at_call 23
        refine (HNX.out _ HP4.out).mono ?_
        rintro r w5 ⟨rfl, i5, e5, l5, hp5, hs5⟩
        have HE5 := Lib.hid e5
        have HL5 := Lib.hid l5
        have HP5 := Lib.hid hp5
        have HX5 := Lib.hid (hs5.blk HX4.out (fun e => hgm e.symm))
        have HZ5 := Lib.hid (hs5.blk HZ4.out (fun e => hgz e.symm))
        have HY5 := Lib.hid (hs5.blk HY4.out (fun e => hgn e.symm))
        have HA5 := Lib.hid (HA4.out.moved hs5 (fun _ h => .inl h))
        have HX5E := Lib.hid (ExAt.moved (hs5.mono (fun _ h => .inl h)) (fun _ h => .inl h) _ _ HE4.out)
        have HS5 := Lib.hid (sp_trans HS4.out hs5)
        clear e5 l5 hp5 hs5 y0 x1 HP4 HX4 HZ4 HY4 HA4 HE4 HS4 HNX
        obtain ⟨b, off, rfl, hkc⟩ := HA5.out.at_ q hq
        have hbg : b < w5.heap.size ∧ b ≠ g := by
          rcases HA5.out with h0 | ⟨b', off', h1, h2, h3, _⟩
          · rw [h0] at hq; simp at hq
          · injection h1 with h1
            injection h1 with h1 _ _
            subst h1
            exact ⟨h2, h3⟩
        have HKC : Hid (∀ w, Spared w5 w (onG g) → w.cell? ⟨b, off + q, none⟩ = some (.int .i64 ks[q])) := Lib.hid (fun w hs => (hs.cellOf hbg.1 hbg.2 (off + q)).trans hkc)
        have HK1 := HKS.out _ (List.getElem_mem hq)
        obtain ⟨K, hK⟩ : ∃ K, K = ks[q] := ⟨_, rfl⟩
        rw [← hK] at HKC HTQ HK1
        have HKE := Lib.hid hK
        have HX5' := Lib.hid HX5.out.drew
        have HFC := Lib.hid (HF.out w5.drew i5 (HP5.out.below (Below.refl w5.heap.size w5).drew))
        have HSD := Lib.hid (Spared.of_below (Below.refl w5.heap.size w5).drew (onG g))
        have k5 := HKC.out _ HSD.out
        have z0 := HX5'.out.cell (i := 0) (by simp)
        have z1 := HX5'.out.cell (i := 1) (by simp)
        have z2 := HX5'.out.cell (i := 2) (by simp)
        have z3 := HX5'.out.cell (i := 3) (by simp)
        simp only [List.getElem_cons_succ, List.getElem_cons_zero] at z0 z1 z2 z3
        have hqk : (q : Int) < (ks.length : Int) := by omega
        have HGO : Hid (∀ eb ts, P (toks s.data.toList i5) = .ok eb ts → R = (twoP K (nx (toks s.data.toList i')) e eb ts).then fun e r => opsLoop ks P (m - 1) e r) := Lib.hid (fun eb ts hd => by
          obtain ⟨_, _, _, hm, _, hR⟩ := HL.out
          have hne := HP.out.1.ne
          obtain ⟨k, rfl⟩ : ∃ k, m = k + 1 := ⟨m - 1, by omega⟩
          rw [hR, opsLoop, if_neg (by rw [idxI, ← HV.out]; omega), HE5.out, hd, idxI, ← HV.out, Nat.add_sub_cancel, Int.toNat_natCast, hK, List.getD_eq_getElem?_getD, List.getElem?_eq_getElem hq]
          rfl)
        have HNO : Hid (∀ d, P (toks s.data.toList i5) = .no d → R = .no d) := Lib.hid (fun d hd => by
          obtain ⟨_, _, _, hm, _, hR⟩ := HL.out
          have hne := HP.out.1.ne
          obtain ⟨k, rfl⟩ : ∃ k, m = k + 1 := ⟨m - 1, by omega⟩
          rw [hR, opsLoop, if_neg (by rw [idxI, ← HV.out]; omega), HE5.out, hd]
          rfl)
        clear hkc hbg hK
        go_wp2_with fail
        go_region_law (first
          | (refine step_method rfl f ef (.tmp 32) rfl (by first | (simp [Act.eval]; done) | (simp [Act.eval, Act.put]; done)) (HFC.out.mono ?_); rintro r w6 hpo; rcases hpo.split with ⟨eb, ts, _, hr6, rfl, ⟨cb, rfl, hE6, hh6⟩, i6, e6, l6, hp6, hs6⟩ | ⟨d, hr6, rfl, hs6⟩; rotate_left; (refine .inr ⟨_, rfl, ?_⟩; exact ⟨rfl, POut.no_ (HNO.out d hr6) (sp_trans HS5.out (sp_trans HSD.out hs6))⟩); (refine .inl ⟨_, rfl, ?_⟩; obtain ⟨p1, p2, p3, pA, pm, pc, rfl⟩ := hE6.shape; have HR6 := Lib.hid hr6; have HE6 := Lib.hid hE6; have HH6 := Lib.hid hh6; have HE6' := Lib.hid e6; have HL6 := Lib.hid l6; have HP6 := Lib.hid hp6; have HS6 := Lib.hid (sp_trans HSD.out hs6); have HX6 := Lib.hid (hs6.blk HX5'.out (fun e => hgm e.symm)); have HX6E := Lib.hid (ExAt.moved (HS6.out.mono (fun _ h => .inl h)) (fun _ h => .inl h) _ _ HX5E.out); have k6 := HKC.out _ HS6.out; have k7 := HKC.out _ (HS6.out.alloc (.cells #[.int .i64 q1, strV q2, strV q3, .slice qA qm qc, .int .i64 p1, strV p2, strV p3, .slice pA pm pc] 35)); have a0 := HX6.out.cell (i := 0) (by simp); have a1 := HX6.out.cell (i := 1) (by simp); have a2 := HX6.out.cell (i := 2) (by simp); have a3 := HX6.out.cell (i := 3) (by simp); simp only [List.getElem_cons_succ, List.getElem_cons_zero] at a0 a1 a2 a3; have HX7 := Lib.hid (HX6.out.alloc (.cells #[.int .i64 q1, strV q2, strV q3, .slice qA qm qc, .int .i64 p1, strV p2, strV p3, .slice pA pm pc] 35)); have c0 := HX7.out.cell (i := 0) (by simp); have c1 := HX7.out.cell (i := 1) (by simp); have c2 := HX7.out.cell (i := 2) (by simp); have c3 := HX7.out.cell (i := 3) (by simp); simp only [List.getElem_cons_succ, List.getElem_cons_zero] at c0 c1 c2 c3; have b0 := HX7.out.free 0; have b1 := HX7.out.free 1; have b2 := HX7.out.free 2; have b3 := HX7.out.free 3; clear hr6 hE6 hh6 e6 l6 hp6 hs6)))
        all_goals
          obtain ⟨w7, hw7⟩ : ∃ w7, w7 = (((((w6.alloc (.cells #[.int .i64 q1, strV q2, strV q3, .slice qA qm qc, .int .i64 p1, strV p2, strV p3, .slice pA pm pc] 35)).setCell ⟨w1.heap.size, 0, none⟩ (.int .i64 K)).setCell ⟨w1.heap.size, 1, none⟩ (.string ⟨#[]⟩)).setCell ⟨w1.heap.size, 2, none⟩ (.string ⟨#[]⟩)).setCell ⟨w1.heap.size, 3, none⟩ (.slice (some ⟨w6.heap.size, 0, none⟩) 2 2)) := ⟨_, rfl⟩
          have hM5 := HX5.out.lt
          have hM1 := HM1.out
          have hM6 := HX6.out.lt
          have hF6 : ∀ i, (fun b => b = g ∨ b ≤ W.heap.size + 1 ∨ b = w1.heap.size) i → i < w6.heap.size := fun i hi => by
            rcases hi with hi | hi | hi <;> omega
          have hEB : ExAt w6 (fun b => b = g ∨ b ≤ W.heap.size + 1 ∨ b = w1.heap.size) eb [.int .i64 p1, strV p2, strV p3, .slice pA pm pc] := ExAt.moved (Spared.refl w6 _) (fun i hi => .inl (hi.elim .inl (fun h => .inr (by show i < w5.drew.heap.size; have : w5.drew.heap.size = w5.heap.size := rfl; omega)))) _ _ HE6.out
          have hKF : fitsI K := by rcases HK1 with h | h | h <;> (rw [h]; exact ⟨by decide, by decide⟩)
          obtain ⟨hs7, hx7, hE7⟩ := ops_world hKF HX6.out (.inr (.inr rfl)) hF6 HX6E.out hEB hw7
          have HS7 := Lib.hid hs7
          have HX7 := Lib.hid hx7
          have HE7 := Lib.hid hE7
          have hh7 : heightE (.mk K [] [] [e, eb]) ≤ 13 := by
            have h1 := HL.out.2.2.2.2.1
            have h2 := HH6.out
            rw [heightE, heightL, heightL, heightL]
            omega
          have HH7 := Lib.hid (pheight_any _ _ _ _ HE7.out (by omega))
          obtain ⟨E, hE⟩ : ∃ E, E = Ex.mk K [] [] [e, eb] := ⟨_, rfl⟩
          rw [← hE] at HE7 HH7 hh7
          have HEE := Lib.hid hE
          have HP7 : Hid (PAt w7 g s i6 op) := Lib.hid ⟨HP6.out.1, HP6.out.2.1, HS7.out.blk HP6.out.2.2 hgm⟩
          have HZ7 := Lib.hid (HS7.out.blk (HS6.out.blk HZ5.out (fun e => hgz e.symm)) (fun e => by have e : W.heap.size + 1 = w1.heap.size := e; omega))
          have HY7 := Lib.hid (HS7.out.blk (HS6.out.blk HY5.out (fun e => hgn e.symm)) (fun e => by have e : W.heap.size = w1.heap.size := e; omega))
          have HSW7 : Hid (Spared W w7 (onG g)) := Lib.hid ((sp_trans HS5.out HS6.out).trans (G := fun b => b = w1.heap.size) HS7.out (fun b hb => .inr (by have hb : b = w1.heap.size := hb; omega)))
          have HW7 := Lib.hid hw7
          clear hw7 hM5 hM1 hM6 hF6 hEB hKF hs7 hx7 hE7 hE
          have HLT7 : Hid (W.heap.size + 1 < w1.heap.size) := HM1
          by_cases hd : 12 < heightE E
          · have HD := Lib.hid hd
            have hdd : decide (12 < heightE E) = true := decide_eq_true hd
            have hdi : (12 : Int) < (heightE E : Int) := by omega
            go_wp2_with fail
            rw [← HW7.out]
            go_at_call 20
            refine HH7.out.mono ?_
            rintro r w8 ⟨rfl, hb8⟩
            have hy8 := HY7.out.below hb8 HY7.out.lt
            have y0 := hy8.cell (i := 0) (by simp)
            simp only [List.getElem_cons_zero] at y0
            have HF8 := Lib.hid (pfail_any (i := i') ⟨(HP7.out.below hb8).lt, (HP7.out.below hb8).2.2.cell (i := 0) (by simp)⟩ HSZ.out (by have h1 := HP.out.1.1; rwa [size_list] at h1) 9)
            have HB8 := Lib.hid hb8
            clear hy8 hb8
            go_wp2_with fail
            go_at_call 70
            refine HF8.out.mono ?_
            rintro r w9 ⟨rfl, hb9⟩
            go_wp2_with fail
            refine ⟨rfl, POut.no_ (d := ((posT s.data.toList i').1, (posT s.data.toList i').2, 9)) ?_ (sp_trans HSW7.out (Spared.of_below (hop HB8.out hb9) (onG g)))⟩
            rw [HGO.out _ _ HR6.out, twoP, ← HEE.out, if_pos HD.out, HP.out.1.pos]
            rfl
          · have HD := Lib.hid hd
            have hdd : decide (12 < heightE E) = false := decide_eq_false hd
            have hdi : ¬ (12 : Int) < (heightE E : Int) := by omega
            go_wp2_with fail
            rw [← HW7.out]
            go_at_call 20
            refine HH7.out.mono ?_
            rintro r w8 ⟨rfl, hb8⟩
            have HB8 := Lib.hid hb8
            clear hb8
            go_wp2_with fail
            go_roundw
            case rel =>
              have hb8 := HB8.out
              refine ⟨E, K, [], [], some ⟨w6.heap.size, 0, none⟩, 2, 2, i6, m - 1, Lib.hid ⟨⟨HX7.out.below hb8 HX7.out.lt, HZ7.out.below hb8 HZ7.out.lt, HY7.out.below hb8 HY7.out.lt, HE7.out.below hb8, HP7.out.below hb8, sp_trans HSW7.out (Spared.of_below hb8 (onG g))⟩, HM1.out, ?_, ?_, by omega, ?_⟩⟩
              · have := HL.out.2.2.1; have := HL5.out; have := HL6.out; omega
              · have h1 := HL.out.2.2.2.1
                have h2 := HLV.out _ _ _ HR6.out
                rw [HE6'.out, ← HE5.out, List.length_tail] at h2
                omega
              · rw [HGO.out _ _ HR6.out, twoP, ← HEE.out, if_neg HD.out, HE6'.out]
                rfl
            case measure =>
              have h1 := HP.out.from_
              have h2 := (HP7.out.below HB8.out).from_
              have h3 := HP7.out.1.1
              have h4 := HSZ.out
              have h5 := HL5.out
              have h6 := HL6.out
              rw [size_list] at h3
              rw [h1, h2]
              simp [intOf]
              omega
end Go.Proofs.Ytpiaiibobjlipaa
