/-
  What the program's Batch comes to: the bytes of the puts. Condition: they are at most 2^47 bytes.
  What the document's Batch comes to: the bytes of the puts. Condition: they are at most 2^47 bytes.
  The document's batch of all pairs (All). Condition: the batch has at most 2^47 bytes.
  The program's batch of all pairs (batchOf). Conditions: at most 99,999 pairs; the batch has at most 2^47 bytes.
  The program's begin: a log of all pairs in an area. Conditions: at most 99,999 pairs, whose batch has at most 2^47 bytes; the disk has taken at most 700,000 calls.
-/
import Derived.Test.YtdaahapbpnjkfaaGreatCLgLog
import Derived.Test.YtdaahapbpnjkfaaGreatCKpS
import Derived.Deep.RegionLaw
import Derived.Deep.RegionWith
import Derived.Deep.RegionHeldLaw
import Derived.Test.YtdaahapbpnjkfaaGreatCRefF
import Derived.Test.YtdaahapbpnjkfaaGreatCTrRfPut
import Derived.Test.YtdaahapbpnjkfaaGreatCTrRf
namespace Go.Proofs.YtdaahapbpnjkfaaGreat
open Go.RowKit
theorem partP_length (x : List UInt8) : x.length ≤ (partP x).length ∧ (partP x).length = (putL x.length).length + x.length := by
  rw [partP, List.length_append]; omega
set_option maxHeartbeats 400000 in
theorem appendPart_any (w0 w : World) (A : Option Addr) (d : List UInt8) (n c : Nat) (B : Option Addr) (x : List UInt8) (m k : Nat) (H : MadeN 5 w0 d A n c w) (hx : x.length = m) (hs : Seen w0 B x) (hb : n + (partP x).length ≤ 140737488355000) :
    Calls Tryz.prog 88 #[.slice A n c, .slice B m k] w fun e w' => ∃ A' n' c', e = .returned (.slice A' n' c') ∧ MadeN 5 w0 (d ++ partP x) A' n' c' w' ∧ Grew w (.slice A n c) w' (.slice A' n' c') := by
  obtain ⟨i0, hi, hz0, hz1, hz2⟩ := info_parts info8p
  have hp := partP_length x
  have HX := Lib.hid hx
  have HS := Lib.hid hs
  have HH := Lib.hid H
  have hmb : m ≤ 140737488355000 := by omega
  have HP : Hid (n + ((putL m).length + m) ≤ 140737488355000) := by show _ ≤ _; rw [← hx]; omega
  have HPT : Hid (partP x = putL m ++ x) := by show _ = _; rw [partP, hx]
  clear hx hs H hb hp
  go_enter Tryz.func88, Tryz.ntmps88
  go_wp2_with fail
  refine (appendNumber_any w0 w A d n c m HH.out (by omega) (by have := HP.out; omega)).mono ?_
  rintro e w1 ⟨A1, n1, c1, rfl, hm1, hn1, hg1⟩
  have HG1 := Lib.hid hg1
  have HM1 := Lib.hid hm1
  have HS1 := Lib.hid (HS.out.below hm1.2.2)
  clear hm1 hg1
  obtain ⟨D1, hD1⟩ : ∃ D1, D1 = d ++ putL m := ⟨_, rfl⟩
  rw [← hD1] at HM1
  obtain ⟨D, hD⟩ : ∃ D, D = D1 ++ x := ⟨_, rfl⟩
  obtain ⟨N, hN⟩ : ∃ N, N = n1 + m := ⟨_, rfl⟩
  have ED1 := Lib.hid hD1
  have ED := Lib.hid hD
  have EN := Lib.hid hN
  have hfit : n1 + m ≤ 140737488355000 := by
    have h1 := HM1.out.1
    rw [hD1, List.length_append, HH.out.1] at h1
    have := HP.out; omega
  clear hD1 hD hN
  go_wp2_with (at_builtin; refine wpList_append_by w1 rfl (.tmp 8) (.tmp 9) 22 rfl 5 i0 (.int .u8 0) Tryz.underlying22 hi hz0 hz1 hz2 rfl w0 A1 n1 c1 D1 B m k x D N rfl rfl HM1 HS1 HX ED EN (by omega) ?_)
  intro A2 c2 w2 H2 G2
  go_wp2_with fail
  go_ret
  have e : D = d ++ partP x := by rw [ED.out, ED1.out, HPT.out, List.append_assoc]
  exact ⟨A2, N, c2, rfl, by rw [← e]; exact H2.out, HG1.out.trans G2.out⟩
theorem step_call2 {P : Program} {ops : Array Oper} {o : Oper} {a : Act} {K : Act → World → Prop} {Q : Exit → Act → World → Prop} {E : Prop} {w : World} (hgd : o.guard = none) (f : FuncId) (hcall : ∀ (args : Array Value) (w : World), (callFunc f args).run P w = .ok (.enter f args) w) (x y : Operand) {ts : Array TypeId} {u v : Value}
    (ho : o.op = .call { callee := .value (.func f), args := #[x, y], argTypes := ts }) (hx : a.eval x = u) (hy : a.eval y = v) (h : Calls P f #[u, v] w fun e w' => ∃ r, e = .returned r ∧ K (a.put o.dst r) w') :
    if Region.wanted o (yielded ops a.tmps) = true then Oper.wp P o a w K Q else E := by
  have hw : Region.wanted o (yielded ops a.tmps) = true := by simp [Region.wanted, hgd]
  rw [if_pos hw]
  subst hx hy
  have hrun : (execOp a.eval o).run P w = .ok (.enter f #[a.eval x, a.eval y]) w := by
    simp [execOp, ho, resolve, invoke, Act.eval, Deferred.ofValue, hcall]
  unfold Oper.wp
  rw [hrun, Oper.upon_enter]
  refine h.mono ?_
  rintro e w' ⟨r, rfl, hr⟩
  exact hr
theorem enter_part (args : Array Value) (w : World) : (callFunc 88 args).run Tryz.prog w = .ok (.enter 88 args) w := by simp [go_sem]
theorem Blk.grown {w w' : World} {g : Nat} {row : Option Nat} {L : List Value} {t : TypeId} (h : Blk w g L t) (hg : w.grownBy w' row) (hne : row ≠ some g) : Blk w' g L t :=
  (hg.block g h.lt (fun e => hne e.symm)).trans h
theorem own_ne {w w' : World} {v v' : Value} {g : Nat} (h : Grew w v w' v') (hne : v.ownBlock ≠ some g) (hz : w.heap.size = g + 2) : v'.ownBlock ≠ some g := by
  rcases h.2 with e | ⟨x, e, hx⟩
  · rw [e]; exact hne
  · rw [e]; intro e'; injection e' with e'; omega
def BR (w : World) (ps : List PPut) (b i : Value) (wr : World) : Prop :=
  ∃ (k : Nat) (A : Option Addr) (n c : Nat), k ≤ ps.length ∧ i = .int .i64 k ∧ b = .slice A n c ∧ MadeN 5 w (putL ps.length ++ putsV (valsOf (ps.take k))) A n c wr
theorem putsV_next {ps : List PPut} {k : Nat} (h : k < ps.length) : putsV (valsOf (ps.take (k + 1))) = putsV (valsOf (ps.take k)) ++ putV1 (valOf ps[k]) := by
  rw [List.take_succ_eq_append_getElem h, valsOf, List.map_append]
  exact putsV_snoc _ _
theorem putsV_append (a b : List PutV) : putsV (a ++ b) = putsV a ++ putsV b := by simp [putsV]
theorem putsV_fits {ps : List PPut} (k : Nat) : (putsV (valsOf (ps.take k))).length ≤ (putsV (valsOf ps)).length := by
  have h : valsOf ps = valsOf (ps.take k) ++ valsOf (ps.drop k) := by rw [valsOf, valsOf, valsOf, ← List.map_append, List.take_append_drop]
  rw [h, putsV_append, List.length_append]
  omega
set_option maxRecDepth 100000 in
set_option maxHeartbeats 2000000 in
theorem batch_any (A : Option Addr) (ps : List PPut) (L c : Nat) (w : World) (hL : ps.length = L) (hs : PutsSeen w A ps) (hn : L ≤ 9223372036854775807) (hb : (batchL (valsOf ps)).length ≤ 140737488000000) :
    Calls Tryz.prog 52 #[.slice A L c] w fun e w' => ∃ A' n' c', e = .returned (.slice A' n' c') ∧ MadeN 5 w (batchL (valsOf ps)) A' n' c' w' := by
  obtain ⟨i0, hi, hz0, hz1, hz2⟩ := info_parts info8p
  have HS := Lib.hid hs
  have HL := Lib.hid hL
  have HB : Hid ((putL L).length + (putsV (valsOf ps)).length ≤ 140737488000000) := by
    show _ ≤ _; rw [batchL, valsOf_length, hL, List.length_append] at hb; exact hb
  have HBE : Hid (batchL (valsOf ps) = putL L ++ putsV (valsOf ps)) := by show _ = _; rw [batchL, valsOf_length, hL]
  clear hs hL hb
  have HM0 : Hid (MadeN 5 w [] none 0 0 w) := ⟨rfl, Made.nil _ _⟩
  go_enter Tryz.func52, Tryz.ntmps52
  go_wp2_with fail
  refine (appendNumber_any w w none [] 0 0 L HM0.out hn (by omega)).mono ?_
  rintro e w1 ⟨A1, n1, c1, rfl, hm1, hn1, _⟩
  have HM1 : Hid (MadeN 5 w (putL L) A1 n1 c1 w1) := hm1
  clear hm1
  go_wp2_with fail
  go_loopw [3, 11] (fun b i wr => BR w ps b i wr) (fun _ i _ => L - (intOf i).toNat)
  case atStart => exact ⟨0, A1, n1, c1, by omega, rfl, rfl, by rw [HL.out]; simpa [putsV, valsOf] using HM1.out⟩
  case round =>
    clear HM1
    obtain ⟨k, A2, n2, c2, hk, rfl, rfl, hm⟩ := hrel
    rw [HL.out] at hk hm
    obtain ⟨D, hD⟩ : ∃ D, D = putL L ++ putsV (valsOf (ps.take k)) := ⟨_, rfl⟩
    rw [← hD] at hm
    have ED := Lib.hid hD
    have HM := Lib.hid hm
    clear hD hm
    by_cases hlt : k < L
    · have hk' : k < ps.length := by rw [HL.out]; exact hlt
      obtain ⟨b, off, hA, hok, hat⟩ := HS.out.at_ k hk'
      obtain ⟨e0, e1, e2⟩ := hat wr HM.out.2.2
      subst hA
      have HN := Lib.hid (putsV_next hk')
      have HF := Lib.hid (putsV_fits (ps := ps) (k + 1))
      obtain ⟨q, hq⟩ : ∃ q, q = ps[k] := ⟨_, rfl⟩
      rw [← hq] at hok e0 e1 e2 HN
      clear hq hat
      obtain ⟨⟨qA, ql, qc⟩, ⟨vA, vl, vc⟩, g⟩ := q
      obtain ⟨⟨hsq, hlq⟩, ⟨hsv, hlv⟩⟩ := hok
      simp only [pv] at e0 e1 e2 hsq hlq hsv hlv
      obtain ⟨qn, hqn⟩ : ∃ qn, qn = ql.length := ⟨_, rfl⟩
      obtain ⟨vn, hvn⟩ : ∃ vn, vn = vl.length := ⟨_, rfl⟩
      rw [← hqn] at e0
      rw [← hvn] at e1
      have HQN : Hid (ql.length = qn) := hqn.symm
      have HVN : Hid (vl.length = vn) := hvn.symm
      have HSQ := Lib.hid hsq
      have HSV := Lib.hid hsv
      have HP := Lib.hid (HM.out.below (show Below wr.heap.size wr (wr.alloc (.cells #[.slice qA qn qc, .slice vA vn vc, .bool g] 72)) from (Below.refl _ _).alloc (Nat.le_refl _) _))
      clear hsq hsv hlq hlv hqn hvn
      cases g with
      | true =>
        have HN' : Hid (putsV (valsOf (ps.take (k + 1))) = putsV (valsOf (ps.take k)) ++ (1 :: partP ql)) := HN.out
        obtain ⟨W1, hW1⟩ : ∃ W1, W1 = (wr.alloc (.cells #[.slice qA qn qc, .slice vA vn vc, .bool true] 72)).alloc (.cells #[.int .u8 1] 5) := ⟨_, rfl⟩
        have hSX : Seen W1 (some ⟨wr.heap.size + 1, 0, none⟩) [1] := by
          have := seen_mark (wr.alloc (.cells #[.slice qA qn qc, .slice vA vn vc, .bool true] 72)) 5 [1] (0, 0)
          simp only [World.size_alloc] at this
          rw [hW1]; exact this
        have hBX := (Blk.new wr [.slice qA qn qc, .slice vA vn vc, .bool true] 72).alloc (.cells #[.int .u8 1] 5)
        have hPX := HP.out.below (show Below (wr.alloc (.cells #[.slice qA qn qc, .slice vA vn vc, .bool true] 72)).heap.size _ W1 from by rw [hW1]; exact (Below.refl _ _).alloc (Nat.le_refl _) _)
        have hzX : W1.heap.size = wr.heap.size + 2 := by rw [hW1]; simp
        rw [← hW1] at hBX
        have HSX : Hid (Seen W1.drew (some ⟨wr.heap.size + 1, 0, none⟩) [1]) := hSX.below ((Below.refl _ _).drew)
        have HPX : Hid (MadeN 5 w D A2 n2 c2 W1.drew) := hPX.below ((Below.refl _ _).drew)
        have HBX : Hid (Blk W1.drew wr.heap.size [.slice qA qn qc, .slice vA vn vc, .bool true] 72) := hBX
        have HZX : Hid (W1.drew.heap.size = wr.heap.size + 2) := hzX
        have HNE : Hid ((Value.slice A2 n2 c2).ownBlock ≠ some wr.heap.size) := fun e => by have := (HM.out.2.1.lt _ e).2; omega
        have L1 : Hid (([1] : List UInt8).length = 1) := rfl
        obtain ⟨D1, hD1⟩ : ∃ D1, D1 = D ++ [1] := ⟨_, rfl⟩
        obtain ⟨N1, hN1⟩ : ∃ N1, N1 = n2 + 1 := ⟨_, rfl⟩
        have ED1 := Lib.hid hD1
        have EN1 := Lib.hid hN1
        have hfit : Hid (N1 + (partP ql).length ≤ 140737488000000) := by
          show _ ≤ _
          have h1 := HF.out
          have h2 := HB.out
          rw [HN'.out, List.length_append, List.length_cons] at h1
          have h3 := HM.out.1
          rw [ED.out, List.length_append] at h3
          omega
        have hn2b : n2 ≤ 140737488000000 := by have := hfit.out; omega
        have HSQ' : Hid (Seen w qA ql) := HSQ
        clear hSX hBX hPX hD1 hN1 hzX
        rw [hW1] at HSX HPX HBX HZX
        clear hW1
        go_wp2_with fail
        go_region_law (first
          | (refine step_append_to _ rfl (.tmp 17) (.tmp 18) 22 rfl 5 i0 (.int .u8 0) Tryz.underlying22 hi hz0 hz1 hz2 rfl w A2 n2 c2 D (some ⟨wr.heap.size + 1, 0, none⟩) 1 1 [1] D1 N1 (by simp [Act.eval]) (by simp [Act.eval]) HPX HSX L1 ED1 EN1 (by omega) ?_; intro A5 c5 w5 H5 B5 G5; have p0 := (HBX.out.grown G5.out.1 HNE.out).cell (i := 0) (by simp); simp only [List.getElem_cons_zero] at p0)
          | (refine step_call2 rfl 88 enter_part (.tmp 19) (.tmp 21) rfl (by simp [Act.eval]) (by simp [Act.eval]) ((appendPart_any w w5 A5 D1 N1 c5 qA ql qn qc H5.out HQN.out HSQ'.out (by have := hfit.out; omega)).mono ?_); rintro e w6 ⟨A6, n6, c6, rfl, hm6, _⟩; refine ⟨_, rfl, ?_⟩; have HM6 := Lib.hid hm6; clear hm6))
        all_goals
          go_wp2_with fail
          go_roundw
          case rel =>
            refine ⟨k + 1, A6, n6, c6, by rw [HL.out]; omega, by go_num, rfl, ?_⟩
            have e : putL ps.length ++ putsV (valsOf (ps.take (k + 1))) = D1 ++ partP ql := by rw [HN'.out, ED1.out, ED.out, HL.out]; simp
            rw [e]; exact HM6.out
          case measure => simp [intOf]; omega
      | false =>
        have HN' : Hid (putsV (valsOf (ps.take (k + 1))) = putsV (valsOf (ps.take k)) ++ (0 :: (partP ql ++ partP vl))) := HN.out
        obtain ⟨W1, hW1⟩ : ∃ W1, W1 = (wr.alloc (.cells #[.slice qA qn qc, .slice vA vn vc, .bool false] 72)).alloc (.cells #[.int .u8 0] 5) := ⟨_, rfl⟩
        have hSX : Seen W1 (some ⟨wr.heap.size + 1, 0, none⟩) [0] := by
          have := seen_mark (wr.alloc (.cells #[.slice qA qn qc, .slice vA vn vc, .bool false] 72)) 5 [0] (0, 0)
          simp only [World.size_alloc] at this
          rw [hW1]; exact this
        have hBX := (Blk.new wr [.slice qA qn qc, .slice vA vn vc, .bool false] 72).alloc (.cells #[.int .u8 0] 5)
        have hPX := HP.out.below (show Below (wr.alloc (.cells #[.slice qA qn qc, .slice vA vn vc, .bool false] 72)).heap.size _ W1 from by rw [hW1]; exact (Below.refl _ _).alloc (Nat.le_refl _) _)
        have hzX : W1.heap.size = wr.heap.size + 2 := by rw [hW1]; simp
        rw [← hW1] at hBX
        have HSX : Hid (Seen W1.drew (some ⟨wr.heap.size + 1, 0, none⟩) [0]) := hSX.below ((Below.refl _ _).drew)
        have HPX : Hid (MadeN 5 w D A2 n2 c2 W1.drew) := hPX.below ((Below.refl _ _).drew)
        have HBX : Hid (Blk W1.drew wr.heap.size [.slice qA qn qc, .slice vA vn vc, .bool false] 72) := hBX
        have HZX : Hid (W1.drew.heap.size = wr.heap.size + 2) := hzX
        have HNE : Hid ((Value.slice A2 n2 c2).ownBlock ≠ some wr.heap.size) := fun e => by have := (HM.out.2.1.lt _ e).2; omega
        have L1 : Hid (([0] : List UInt8).length = 1) := rfl
        obtain ⟨D1, hD1⟩ : ∃ D1, D1 = D ++ [0] := ⟨_, rfl⟩
        obtain ⟨N1, hN1⟩ : ∃ N1, N1 = n2 + 1 := ⟨_, rfl⟩
        have ED1 := Lib.hid hD1
        have EN1 := Lib.hid hN1
        have hfit : Hid (N1 + ((partP ql).length + (partP vl).length) ≤ 140737488000000) := by
          show _ ≤ _
          have h1 := HF.out
          have h2 := HB.out
          rw [HN'.out, List.length_append, List.length_cons] at h1
          have h3 := HM.out.1
          rw [ED.out, List.length_append] at h3
          rw [List.length_append] at h1
          omega
        have hn2b : n2 ≤ 140737488000000 := by have := hfit.out; omega
        have HSQ' : Hid (Seen w qA ql) := HSQ
        clear hSX hBX hPX hD1 hN1 hzX
        rw [hW1] at HSX HPX HBX HZX
        clear hW1
        go_wp2_with fail
        go_region_law (first
          | (refine step_append_to _ rfl (.tmp 23) (.tmp 24) 22 rfl 5 i0 (.int .u8 0) Tryz.underlying22 hi hz0 hz1 hz2 rfl w A2 n2 c2 D (some ⟨wr.heap.size + 1, 0, none⟩) 1 1 [0] D1 N1 (by simp [Act.eval]) (by simp [Act.eval]) HPX HSX L1 ED1 EN1 (by omega) ?_; intro A5 c5 w5 H5 B5 G5; have p0 := (HBX.out.grown G5.out.1 HNE.out).cell (i := 0) (by simp); simp only [List.getElem_cons_zero] at p0)
          | (refine step_call2 rfl 88 enter_part (.tmp 25) (.tmp 27) rfl (by simp [Act.eval]) (by simp [Act.eval]) ((appendPart_any w w5 A5 D1 N1 c5 qA ql qn qc H5.out HQN.out HSQ'.out (by have := hfit.out; omega)).mono ?_); rintro e w6 ⟨A6, n6, c6, rfl, hm6, hg6⟩; refine ⟨_, rfl, ?_⟩; have p1 := ((HBX.out.grown G5.out.1 HNE.out).grown hg6.1 (own_ne G5.out HNE.out HZX.out)).cell (i := 1) (by simp); simp only [List.getElem_cons_zero, List.getElem_cons_succ] at p1; have HM6 := Lib.hid hm6; clear hm6 hg6))
        all_goals
          obtain ⟨D6, hD6⟩ : ∃ D6, D6 = D1 ++ partP ql := ⟨_, rfl⟩
          rw [← hD6] at HM6
          have ED6 := Lib.hid hD6
          have hfit6 : Hid (n6 + (partP vl).length ≤ 140737488000000) := by
            show _ ≤ _
            have h1 := HM6.out.1
            rw [hD6, List.length_append, H5.out.1] at h1
            have := hfit.out; omega
          clear hD6
          go_wp2_with fail
          refine (appendPart_any w w6 A6 D6 n6 c6 vA vl vn vc HM6.out HVN.out HSV.out (by have := hfit6.out; omega)).mono ?_
          rintro e w7 ⟨A7, n7, c7, rfl, hm7, _⟩
          have HM7 := Lib.hid hm7
          clear hm7
          go_wp2_with fail
          go_roundw
          case rel =>
            refine ⟨k + 1, A7, n7, c7, by rw [HL.out]; omega, by go_num, rfl, ?_⟩
            have e : putL ps.length ++ putsV (valsOf (ps.take (k + 1))) = D6 ++ partP vl := by rw [HN'.out, ED6.out, ED1.out, ED.out, HL.out]; simp
            rw [e]; exact HM7.out
          case measure => simp [intOf]; omega
    · obtain rfl : k = L := by omega
      have e : D = batchL (valsOf ps) := by rw [HBE.out, ED.out, ← HL.out, List.take_length]
      go_wp2_with fail
      go_ret
      exact ⟨A2, n2, c2, rfl, by rw [← e]; exact HM.out⟩
end Go.Proofs.YtdaahapbpnjkfaaGreat
namespace Go.Proofs.YtdaahapbpnjkfaaGreat
open Go.RowKit
end Go.Proofs.YtdaahapbpnjkfaaGreat
namespace Go.Proofs.YtdaahapbpnjkfaaGreat
open Go.RowKit
def putsOf (els : List (El 0)) : List PPut := els.map fun q => (epiece 0 q, eval0 q, false)
theorem putsOf_vals (els : List (El 0)) : valsOf (putsOf els) = allP (els.map kv0) := by
  unfold valsOf putsOf allP
  rw [List.map_map, List.map_map]
  rfl
def putCells (ps : List PPut) : List Value := (ps.map pcells).flatten
theorem putCells_append (a b : List PPut) : putCells (a ++ b) = putCells a ++ putCells b := by simp [putCells]
theorem putCells_length (ps : List PPut) : (putCells ps).length = ps.length * 3 := pcells_flat ps
theorem puts_of {w : World} {F : Nat → Prop} {A : Option Addr} {ps : List PPut} (h : Cells w F A (putCells ps)) (hk : ∀ q ∈ ps, PutOk w q) : PutsSeen w A ps := by
  rcases h with h | ⟨b, off, rfl, hlt, _, hc⟩
  · left
    have := putCells_length ps
    rw [h] at this
    exact List.eq_nil_of_length_eq_zero (by simp at this; omega)
  · refine .inr ⟨b, off, rfl, hlt, fun j hj => ?_⟩
    have key : ∀ i, i < 3 → w.cell? ⟨b, off + j * 3 + i, none⟩ = (pcells ps[j])[i]? := fun i hi => by
      have hlt2 : j * 3 + i < (putCells ps).length := by rw [putCells_length]; omega
      rw [Nat.add_assoc, hc _ hlt2, ← List.getElem?_eq_getElem hlt2]
      have h2 := flat_at (ps.map pcells) j i (by simpa using hj) (m := 3) (fun r hr => by obtain ⟨x, _, rfl⟩ := List.mem_map.1 hr; rfl) (by simp [pcells]; omega)
      refine Eq.trans h2 ?_
      simp
    exact ⟨key 0 (by decide), key 1 (by decide), key 2 (by decide), hk _ (List.getElem_mem hj)⟩
theorem rowU : ∃ i z, RowTy Tryz.prog 38 72 3 56 i z := by
  have hf : (Tryz.prog.info? 72).map (fun i => (i.zero, i.size, i.bytes)) = some (some (.agg #[.slice none 0 0, .slice none 0 0, .bool false]), 3, 56) := by kernel_rfl
  obtain ⟨i, hi, hz, hs, hb⟩ := info_parts hf
  exact ⟨i, _, Tryz.underlying38, by kernel_rfl, hi, hz, hs, hb, rfl, by decide⟩
theorem three_one (A : Option Addr) (n c : Nat) (B : Option Addr) (m d : Nat) (g : Bool) : ∀ u ∈ ([.slice A n c, .slice B m d, .bool g] : List Value), u.oneCell' = true := fun u hu => by
  rcases List.mem_cons.1 hu with rfl | hu
  · rfl
  · rcases List.mem_cons.1 hu with rfl | hu
    · rfl
    · rw [List.mem_singleton.1 hu]; rfl
end Go.Proofs.YtdaahapbpnjkfaaGreat
namespace Go.Proofs.YtdaahapbpnjkfaaGreat
open Go.RowKit
theorem wpList_append_three {P : Program} (w : World) {ops : Array Oper} {rest : List Oper} {o : Oper} {ac : Act} {Q : Exit → Act → World → Prop} (hgd : o.guard = none) (s x : Operand) (t : TypeId)
    (ho : o.op = .call { callee := .builtin .append, args := #[s, x], argTypes := #[t, t] })
    {e : TypeId} {i : TypeInfo} {z : Value} (R : RowTy P t e 3 56 i z)
    (w0 : World) (A : Option Addr) (n c : Nat) (xs : List Value) (c0 c1 c2 : Value) (hs : ac.eval s = .slice A n c) (hx : ac.eval x = .slice (some ⟨w.heap.size, 0, none⟩) 1 1)
    (hb : Below w0.heap.size w0 w) (h : w.ownsRow w0.heap.size e 3 (.slice A n c) n xs) (hone : ∀ u ∈ [c0, c1, c2], u.oneCell' = true) (hn : n ≤ 1000000)
    (K : ∀ A' c' w', w'.ownsRow w0.heap.size e 3 (.slice A' (n + 1) c') (n + 1) (xs ++ [c0, c1, c2]) → Below w0.heap.size w0 w' → wpList P ops Q rest (ac.put o.dst (.slice A' (n + 1) c')) w') :
    wpList P ops Q (o :: rest) ac (w.alloc (.cells #[c0, c1, c2] e)) := by
  have hB : w0.heap.size ≤ (w.alloc (.cells #[c0, c1, c2] e)).heap.size := by have := hb.size; simp; omega
  have hlist : (w.alloc (.cells #[c0, c1, c2] e)).ownsRow w0.heap.size e 3 (.slice A n c) n xs := h.alloc _
  refine wpList_append_own_at (w.alloc (.cells #[c0, c1, c2] e)) hgd s x t ho w0.heap.size e i z 3 56 R.ht R.hi R.hz R.hs R.hb R.zs (by decide) _ n _ hs hlist ⟨w.heap.size, 0, none⟩ 1 1 [c0, c1, c2] hx rfl (cells_three_new _ _ _ _ _) hone (by unfold maxLen; omega) (by omega) hB ?_
  intro v' w' hown hg _ _
  obtain ⟨A', c', rfl⟩ := own_shape hown
  exact K A' c' w' hown (below_grown (hb.alloc hb.size _) hB hlist hg)
set_option maxRecDepth 100000 in
set_option maxHeartbeats 2000000 in
theorem batchOf_any (w : World) (T : Nat → Prop) (gt : Nat) (L : List Kv) (t : TreeAt w T gt anyRoom L) (hl9 : L.length ≤ 99999) (hb : (batchL (allP L)).length ≤ 140737488000000) :
    Calls Tryz.prog 76 #[.pointer (some ⟨gt, 0, none⟩)] w fun e w' => ∃ A' n' c', e = .returned (.slice A' n' c') ∧ MadeN 5 w (batchL (allP L)) A' n' c' w' := by
  have hscan : scanT [] [] (L.length : Int) L = L := by
    by_cases h1 : 1 ≤ (L.length : Int)
    · exact scan_all _ L (Int.le_refl _) h1
    · have h0 : L = [] := List.eq_nil_of_length_eq_zero (by omega)
      subst h0; rfl
  have HSC := Lib.hid (scan_any w T gt anyRoom L none none [] [] 0 0 0 0 (L.length : Int) t (.inl rfl) rfl (.inl rfl) rfl (by omega))
  rw [hscan] at HSC
  have HLEN := Lib.hid (len_any w T gt anyRoom L t)
  have HBB := Lib.hid hb
  obtain ⟨i0, z0, R⟩ := rowU
  have HR := Lib.hid R
  obtain ⟨n, hn⟩ : ∃ n, n = L.length := ⟨_, rfl⟩
  rw [← hn] at HSC HLEN hl9
  have HN := Lib.hid hn
  clear hscan hb R hn t
  go_enter Tryz.func76, Tryz.ntmps76
  go_wp2_with fail
  with_reducible refine HLEN.out.mono ?_
  rintro e w1 ⟨rfl, hw1⟩
  obtain rfl := hw1.symm
  go_wp2_with fail
  with_reducible refine HSC.out.mono ?_
  rintro e w1 ⟨hb1, B0, acc, v, rfl, hB0, hf, hL⟩
  obtain ⟨X, c, hv⟩ := hf.form
  have hal : acc.length = n := by rw [HN.out, ← hL, List.length_map]
  rw [hal] at hv
  subst hv
  have HF := Lib.hid hf
  have B1 := Lib.hid hb1
  have HAL := Lib.hid hal
  obtain ⟨ps, hps⟩ : ∃ ps, ps = putsOf acc := ⟨_, rfl⟩
  have HVL : Hid (valsOf ps = allP L) := by show _ = _; rw [hps, putsOf_vals, hL]
  have HPL : Hid (ps.length = n) := by show _ = _; rw [hps, putsOf, List.length_map, hal]
  have HPI : Hid (∀ (i : Nat) (h : i < ps.length) (h2 : i < acc.length), ps[i] = (epiece 0 acc[i], eval0 acc[i], false)) := fun i h h2 => by
    subst hps; simp [putsOf]
  have HOK : Hid (∀ q ∈ ps, PutOk w1 q) := fun q hq => by
    rw [hps] at hq
    obtain ⟨x, hx, rfl⟩ := List.mem_map.1 hq
    have hx2 := hf.each x hx
    exact ⟨⟨hx2.1.1.seen, by have h5 : (epiece 0 x).2.1.length ≤ 1000000000 := hx2.1.2.2; show (epiece 0 x).2.1.length ≤ _; omega⟩, ⟨hx2.2.1.seen, by have h5 : (eval0 x).2.1.length ≤ 1000000000 := hx2.2.2.2; show (eval0 x).2.1.length ≤ _; omega⟩⟩
  have hrow := hf.row
  rw [hal] at hrow
  have HCL := Lib.hid (own_cells hrow).1
  clear hb1 hB0 hf hL hal hps hrow HSC HLEN
  go_wp2_with fail
  go_loopg [3, 11] n (fun kx s3 s11 wr => ∃ (i : Nat) (B : Option Addr) (e : Nat), i + kx = n ∧ s11 = .int .i64 (i : Int) ∧ s3 = .slice B i e ∧ Below w1.heap.size w1 wr ∧ wr.ownsRow w1.heap.size 72 3 (.slice B i e) i (putCells (ps.take i)))
  case atStart => exact ⟨0, none, 0, by omega, rfl, rfl, Below.refl _ _, World.ownsRow_nil _ _ _ _⟩
  case round =>
    obtain ⟨i, B, e, hi, rfl, rfl, hbr, hown⟩ := hrel
    have HI := Lib.hid hi
    have HBR := Lib.hid hbr
    have HOWN := Lib.hid hown
    clear hi hbr hown
    by_cases hlt : i < n
    · have hkl : (i : Int) < (n : Int) := by omega
      have hil2 : i < acc.length := by have := HAL.out; omega
      have hil3 : i < ps.length := by have := HPL.out; omega
      obtain ⟨b, off, rfl, hblt, _, h0, h1⟩ := pair_cells HCL.out i hil2
      obtain ⟨⟨A0, y, c0⟩, hp⟩ : ∃ p, p = epiece 0 acc[i] := ⟨_, rfl⟩
      obtain ⟨⟨A1, u, c1⟩, hv⟩ : ∃ p, p = eval0 acc[i] := ⟨_, rfl⟩
      rw [← hp] at h0
      rw [← hv] at h1
      obtain ⟨ny, hny⟩ : ∃ ny, ny = y.length := ⟨_, rfl⟩
      obtain ⟨nz, hnz⟩ : ∃ nz, nz = u.length := ⟨_, rfl⟩
      have HTK : Hid (putCells (ps.take (i + 1)) = putCells (ps.take i) ++ [.slice A0 ny c0, .slice A1 nz c1, .bool false]) := by
        show _ = _
        rw [List.take_succ_eq_append_getElem hil3, putCells_append, HPI.out i hil3 hil2, ← hp, ← hv, hny, hnz]
        rfl
      have q0 : wr.cell? ⟨b, off + i * 2, none⟩ = some (.slice A0 ny c0) := by rw [HBR.out.cell (p := ⟨b, off + i * 2, none⟩) hblt, h0, hny]; rfl
      have q1 : wr.cell? ⟨b, off + i * 2 + 1, none⟩ = some (.slice A1 nz c1) := by rw [HBR.out.cell (p := ⟨b, off + i * 2 + 1, none⟩) hblt, h1, hnz]; rfl
      have hwi : IntKind.i64.wrap ((i : Int) + 1) = ((i + 1 : Nat) : Int) := by rw [IntKind.wrap_i64]; omega
      have B5 : Hid (Below w1.heap.size w1 (wr.alloc (.cells #[.slice A0 ny c0, .slice A1 nz c1] 123))) := HBR.out.alloc HBR.out.size _
      have O5 : Hid ((wr.alloc (.cells #[.slice A0 ny c0, .slice A1 nz c1] 123)).ownsRow w1.heap.size 72 3 (.slice B i e) i (putCells (ps.take i))) := HOWN.out.alloc _
      generalize putCells (ps.take i) = xs at *
      clear h0 h1 hp hv hny hnz hil2 hil3 HOWN
      go_wp2_with (at_builtin; refine wpList_append_three (wr.alloc (.cells #[.slice A0 ny c0, .slice A1 nz c1] 123)) rfl (.tmp 15) (.tmp 21) 38 rfl HR.out w1 B i e xs (.slice A0 ny c0) (.slice A1 nz c1) (.bool false) rfl (by simp [Act.eval]) B5.out O5.out (three_one A0 ny c0 A1 nz c1 false) (by omega) ?_)
      intro A7 c7 w7 ho7 hb7
      rw [← HTK.out] at ho7
      have O7 := Lib.hid ho7
      have B7 := Lib.hid hb7
      clear ho7 hb7
      go_wp2_with fail
      go_roundg (n - (i + 1))
      case measure => have := HI.out; omega
      case rel => exact ⟨i + 1, A7, c7, by have := HI.out; omega, rfl, rfl, B7.out, O7.out⟩
    · obtain rfl : i = n := by have := HI.out; omega
      have hkl : ¬ (i : Int) < (i : Int) := by omega
      have HPS : Hid (PutsSeen wr B ps) := by
        have h5 := HOWN.out
        rw [List.take_of_length_le (by rw [HPL.out]; exact Nat.le_refl _)] at h5
        exact puts_of (own_cells h5).1 (fun q hq => (HOK.out q hq).below HBR.out)
      rw [← HVL.out] at HBB
      go_wp2_with fail
      with_reducible refine (batch_any B ps i e wr HPL.out HPS.out (by omega) HBB.out).mono ?_
      rintro e w8 ⟨A8, n8, c8, rfl, hm8⟩
      rw [HVL.out] at hm8
      have M8 : Hid (MadeN 5 w (batchL (allP L)) A8 n8 c8 w8) := ⟨hm8.1, hm8.2.since (hop B1.out HBR.out)⟩
      clear hm8
      go_wp2_with fail
      go_ret
      exact ⟨A8, n8, c8, rfl, M8.out⟩
end Go.Proofs.YtdaahapbpnjkfaaGreat
namespace Go.Proofs.YtdaahapbpnjkfaaGreat
open Go.RowKit
theorem kbegin_to {w : World} {g q n c : Nat} {F : Nat → Prop} {s s' : Dsk} {f N gen E : Int} {A : Option Addr} {d : List UInt8} {lo : Option Lg} (h : DiskAt w g F s) (hb : BgTo s f N gen d E s' lo) (ha : Seen w A d) (hn : d.length = n) (hl : n ≤ 9223372036854775807) (hf : s.Few q) (hq : q ≤ 700000) (f0 : IntOk f) :
    Calls Tryz.prog 75 #[.pointer (some ⟨g, 0, none⟩), .int .i64 f, .int .i64 N, .int .i64 gen, .slice A n c] w fun e w' => ∃ (b : Nat) (F' : Nat → Prop), e = .returned (.tuple #[lp lo b, .int .i64 E]) ∧ DiskAt w' g F' s' ∧ (∀ l, lo = some l → Blk w' b (lgCells g l) 145 ∧ ¬ F' b) ∧ w.heap.size ≤ b ∧ Spared w w' F ∧ ∀ k, F' k → F k ∨ w.heap.size ≤ k := by
  refine (begin_any w g F s f N gen A d n c q h ha hn hl hf hq f0.1 f0.2).mono ?_
  rintro e w' (⟨k1, rfl, k3⟩ | ⟨k1, k2, rfl, F', m1, m2, m3⟩ | ⟨k1, k2, b, rfl, hbw, F', m1, m2, m3, m4, m5⟩)
  · rcases hb with ⟨_, rfl, rfl, rfl⟩ | ⟨j, _⟩ | ⟨j, _⟩
    · exact ⟨w.heap.size, F, rfl, h.still k3, (fun l h => by cases h), Nat.le_refl _, .of_below k3 _, fun _ h => .inl h⟩
    · exact absurd j k1
    · exact absurd j k1
  · rcases hb with ⟨j, _⟩ | ⟨_, _, rfl, rfl, rfl⟩ | ⟨_, j, _⟩
    · exact absurd k1 j
    · exact ⟨w.heap.size, F', rfl, m1, (fun l h => by cases h), Nat.le_refl _, m2, m3⟩
    · exact absurd j k2
  · rcases hb with ⟨j, _⟩ | ⟨_, j, _⟩ | ⟨_, _, rfl, rfl, rfl⟩
    · exact absurd k1 j
    · exact absurd k2 j
    · exact ⟨b, F', rfl, m1, (fun l h => by injection h with h; rw [← h]; exact ⟨m2, m3⟩), hbw, m4, m5⟩
theorem bg_some {s s' : Dsk} {f N gen E : Int} {d : List UInt8} {lo : Option Lg} (h : BgTo s f N gen d E s' lo) : (E = 0 ∧ ∃ l, lo = some l) ∨ (E ≠ 0 ∧ lo = none) := by
  rcases h with ⟨_, rfl, _, rfl⟩ | ⟨_, h1, rfl, _, rfl⟩ | ⟨_, _, rfl, _, rfl⟩
  · exact .inr ⟨by decide, rfl⟩
  · exact .inr ⟨h1, rfl⟩
  · exact .inl ⟨rfl, _, rfl⟩
def KBegun (w : World) (q g gp f : Nat) (F : Nat → Prop) (s' : Dsk) (E : Int) (lo : Option Lg) (c1 c2 c3 c4 : Value) (e : Ending) (w' : World) : Prop :=
  ∃ (b' : Nat) (F' : Nat → Prop), e = .returned (.int .i64 E) ∧ DiskAt w' g F' s' ∧ (∀ l, lo = some l → Blk w' b' (lgCells g l) 145 ∧ ¬ F' b') ∧ w.heap.size ≤ b' ∧ Spared w w' (fun x => F x ∨ x = q) ∧ (∀ x, F' x → F x ∨ w.heap.size ≤ x) ∧
    ((E = 0 ∧ Blk w' q [.pointer (some ⟨g, 0, none⟩), .int .i64 (f : Int), .pointer (some ⟨b', 0, none⟩), .pointer (some ⟨gp, 0, none⟩), c4] 94) ∨ (E ≠ 0 ∧ Blk w' q [.pointer (some ⟨g, 0, none⟩), c1, c2, c3, c4] 94))
set_option maxRecDepth 100000 in
set_option maxHeartbeats 4000000 in
theorem kbegin_any (w : World) (T : Nat → Prop) (q g gp f h : Nat) (F : Nat → Prop) (s s' : Dsk) (gen E : Int) (M : List Kv) (lo : Option Lg) (m : Nat) (c1 c2 c3 c4 : Value) (hd : DiskAt w g F s) (hx : Blk w q [.pointer (some ⟨g, 0, none⟩), c1, c2, c3, c4] 94) (hnq : ¬ F q) (hh : h = s.K.length / 2) (ht : TreeAt w T gp anyRoom M) (hl9 : M.length ≤ 99999) (hbt : (batchL (allP M)).length ≤ 140737488000000) (hbg : BgTo s (f : Int) (h : Int) gen (batchL (allP M)) E s' lo) (hf : s.Few m) (hm : m ≤ 700000) (hf9 : f ≤ 1000000) :
    Calls Tryz.prog 44 #[.pointer (some ⟨q, 0, none⟩), .int .i64 (f : Int), .int .i64 gen, .pointer (some ⟨gp, 0, none⟩)] w (KBegun w q g gp f F s' E lo c1 c2 c3 c4) := by
  have HX := Lib.hid hx
  have HNQ := Lib.hid hnq
  have bd : Below w.heap.size w w.drew := (Below.refl _ _).drew
  obtain ⟨D, hD⟩ : ∃ D, D = batchL (allP M) := ⟨_, rfl⟩
  have HHALF : Hid (∀ W, Below w.heap.size w W → Calls Tryz.prog 40 #[.pointer (some ⟨g, 0, none⟩)] W fun e w' => e = .returned (.int .i64 (h : Int)) ∧ w' = W) := fun W hW => half_any (hd.still hW) hh
  have HALL : Hid (∀ W, Below w.heap.size w W → Calls Tryz.prog 76 #[.pointer (some ⟨gp, 0, none⟩)] W fun e w' => ∃ A' n' c', e = .returned (.slice A' n' c') ∧ MadeN 5 W D A' n' c' w') := fun W hW => by rw [hD]; exact batchOf_any W T gp M (ht.below hW) hl9 hbt
  rw [← hD] at hbt hbg
  have HBEG : Hid (∀ W, Below w.heap.size w W → ∀ A n c, MadeN 5 w D A n c W → Calls Tryz.prog 75 #[.pointer (some ⟨g, 0, none⟩), .int .i64 (f : Int), .int .i64 (h : Int), .int .i64 gen, .slice A n c] W fun e w' => ∃ (b : Nat) (F' : Nat → Prop), e = .returned (.tuple #[lp lo b, .int .i64 E]) ∧ DiskAt w' g F' s' ∧ (∀ l, lo = some l → Blk w' b (lgCells g l) 145 ∧ ¬ F' b) ∧ W.heap.size ≤ b ∧ Spared W w' F ∧ ∀ k, F' k → F k ∨ W.heap.size ≤ k) := fun W hW A n c hmd => by
    obtain ⟨hn, hmd⟩ := hmd
    obtain ⟨A2, c2, hv, hsn⟩ := hmd.form
    injection hv with e1 e2 e3
    subst e1
    exact kbegin_to (hd.still hW) hbg hsn hn (by omega) hf hm ⟨by omega, by omega⟩
  have HC : Hid (∀ W, Spared w W F → W.cell? ⟨q, 0, none⟩ = some (.pointer (some ⟨g, 0, none⟩))) := fun W hW => by
    have h1 := hW.blk hx hnq
    exact h1.cell (i := 0) (by simp)
  have HSO := Lib.hid (bg_some hbg)
  have SD : Spared w w.drew F := .of_below bd _
  clear hd hx hnq hh ht hbg hf hm hD hbt hl9
  go_enter Tryz.func44, Tryz.ntmps44
  go_wp2_with fail
  go_region_held_law (fun W => W.cell? ⟨q, 0, none⟩ = some (.pointer (some ⟨g, 0, none⟩)))
    (first | exact HC.out _ SD | exact HC.out _ S6 | exact HC.out _ S7)
    (first
      | (go_at_call 40; (first | (with_reducible refine (HHALF.out _ bd).mono ?_) | (with_reducible refine (HHALF.out _ B6).mono ?_)); rintro e w9 ⟨rfl, rfl⟩)
      | (go_at_call 76; (with_reducible refine (HALL.out _ bd).mono ?_); rintro e w6 ⟨A6, n6, c6, rfl, hm6⟩; have B6 := hop bd hm6.2.2; have S6 : Spared w w6 F := .of_below B6 _; have M6 : Hid (MadeN 5 w D A6 n6 c6 w6) := ⟨hm6.1, hm6.2.since bd⟩; clear hm6)
      | (go_at_call 75; (with_reducible refine (HBEG.out _ B6 _ _ _ M6.out).mono ?_); rintro e w7 ⟨b7, F7, rfl, hr7, hl7, hb7, hs7, hg7⟩; have S7 : Spared w w7 F := S6.trans hs7 (fun _ h => .inl h); have R7 := Lib.hid hr7; have L7 := Lib.hid hl7; have HB7 : Hid (w.heap.size ≤ b7) := Nat.le_trans B6.size hb7; have HG7 : Hid (∀ x, F7 x → F x ∨ w.heap.size ≤ x) := fun x hx => (hg7 x hx).imp id (Nat.le_trans B6.size); clear hr7 hl7 hb7 hs7 hg7))
  all_goals
    have hx := S7.blk HX.out HNQ.out
    have HX7 := Lib.hid hx
    by_cases hE : E = 0
    · subst hE
      have hlo : ∃ l, lo = some l := HSO.out.elim (fun h => h.2) (fun h => absurd rfl h.1)
      obtain ⟨l, rfl⟩ := hlo
      have hlp : lp (some l) b7 = .pointer (some ⟨b7, 0, none⟩) := rfl
      have f1 := hx.free 1
      have f2 := hx.free 2
      have f3 := hx.free 3
      have y1 := hx.cell (i := 1) (by simp)
      have y2 := hx.cell (i := 2) (by simp)
      have y3 := hx.cell (i := 3) (by simp)
      simp only [List.getElem_cons_zero, List.getElem_cons_succ] at y1 y2 y3
      clear hx
      go_wp2_with fail
      go_ret
      have hsp8 : Spared w7 (((w7.setCell ⟨q, 1, none⟩ (.int .i64 (f : Int))).setCell ⟨q, 2, none⟩ (.pointer (some ⟨b7, 0, none⟩))).setCell ⟨q, 3, none⟩ (.pointer (some ⟨gp, 0, none⟩))) (fun x => x = q) := (((Spared.refl w7 (fun x => x = q)).setCell rfl _ _).setCell rfl _ _).setCell rfl _ _
      have lq := HX.out.lt
      have hb7 := HB7.out
      obtain ⟨LB, LN⟩ := L7.out l rfl
      exact ⟨b7, F7, rfl, R7.out.apart hsp8 (fun x h1 h2 => by
        subst h2
        exact (HG7.out _ h1).elim HNQ.out (fun h => by omega)), fun l' h' => by
          injection h' with h'
          subst h'
          exact ⟨hsp8.blk LB (by omega), LN⟩, hb7, (S7.mono (fun _ h => .inl h)).trans (hsp8.mono (fun _ h => .inr h)) (fun _ h => .inl h), HG7.out, .inl ⟨rfl, ((HX7.out.set 1 _).set 2 _).set 3 _⟩⟩
    · have e0 : (E == 0) = false := by rw [beq_eq_false_iff_ne]; exact hE
      have HE := Lib.hid hE
      clear hx hE
      go_wp2_with fail
      go_ret
      exact ⟨b7, F7, rfl, R7.out, L7.out, HB7.out, S7.mono (fun _ h => .inl h), HG7.out, .inr ⟨HE.out, HX7.out⟩⟩
end Go.Proofs.YtdaahapbpnjkfaaGreat
