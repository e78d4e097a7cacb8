/-
  What the program's Batch comes to: the bytes of the puts. Condition: they are at most 2^47 bytes.
-/
import Derived.Test.YtmngcfmlmdhpbaaFEnc
import Derived.Test.YtmngcfmlmdhpbaaPuts
import Derived.Deep.RegionLaw
import Derived.Deep.RegionWith
import Derived.Deep.RegionHeldLaw
namespace Go.Proofs.Ytmngcfmlmdhpbaa
open Go.RowKit

theorem partP_length (x : List UInt8) : x.length ≤ (partP x).length ∧ (partP x).length = (putL x.length).length + x.length := by
  rw [partP, List.length_append]; omega

set_option maxHeartbeats 400000 in
theorem appendPart_any (w0 w : World) (A : Option Addr) (d : List UInt8) (n c : Nat) (B : Option Addr) (x : List UInt8) (m k : Nat) (H : MadeN 5 w0 d A n c w) (hx : x.length = m) (hs : Seen w0 B x) (hb : n + (partP x).length ≤ 140737488355000) :
    Calls Try.prog 42 #[.slice A n c, .slice B m k] w fun e w' => ∃ A' n' c', e = .returned (.slice A' n' c') ∧ MadeN 5 w0 (d ++ partP x) A' n' c' w' ∧ Grew w (.slice A n c) w' (.slice A' n' c') := by
  obtain ⟨i0, hi, hz0, hz1, hz2⟩ := info_parts info8p
  have hp := partP_length x
  have HX := Lib.hid hx
  have HS := Lib.hid hs
  have HH := Lib.hid H
  have hmb : m ≤ 140737488355000 := by omega
  have HP : Hid (n + ((putL m).length + m) ≤ 140737488355000) := by show _ ≤ _; rw [← hx]; omega
  have HPT : Hid (partP x = putL m ++ x) := by show _ = _; rw [partP, hx]
  clear hx hs H hb hp
  go_enter Try.func42, Try.ntmps42
  go_wp2_with fail
  refine (appendNumber_any w0 w A d n c m HH.out (by omega) (by have := HP.out; omega)).mono ?_
  rintro e w1 ⟨A1, n1, c1, rfl, hm1, hn1, hg1⟩
  have HG1 := Lib.hid hg1
  have HM1 := Lib.hid hm1
  have HS1 := Lib.hid (HS.out.below hm1.2.2)
  clear hm1 hg1
  obtain ⟨D1, hD1⟩ : ∃ D1, D1 = d ++ putL m := ⟨_, rfl⟩
  rw [← hD1] at HM1
  obtain ⟨D, hD⟩ : ∃ D, D = D1 ++ x := ⟨_, rfl⟩
  obtain ⟨N, hN⟩ : ∃ N, N = n1 + m := ⟨_, rfl⟩
  have ED1 := Lib.hid hD1
  have ED := Lib.hid hD
  have EN := Lib.hid hN
  have hfit : n1 + m ≤ 140737488355000 := by
    have h1 := HM1.out.1
    rw [hD1, List.length_append, HH.out.1] at h1
    have := HP.out; omega
  clear hD1 hD hN
  go_wp2_with (at_builtin; refine wpList_append_by w1 rfl (.tmp 8) (.tmp 9) 22 rfl 5 i0 (.int .u8 0) Try.underlying22 hi hz0 hz1 hz2 rfl w0 A1 n1 c1 D1 B m k x D N rfl rfl HM1 HS1 HX ED EN (by omega) ?_)
  intro A2 c2 w2 H2 G2
  go_wp2_with fail
  go_ret
  have e : D = d ++ partP x := by rw [ED.out, ED1.out, HPT.out, List.append_assoc]
  exact ⟨A2, N, c2, rfl, by rw [← e]; exact H2.out, HG1.out.trans G2.out⟩

/-- a call of a function, as a step of a statement whose order is open -/
theorem step_call2 {P : Program} {ops : Array Oper} {o : Oper} {a : Act} {K : Act → World → Prop} {Q : Exit → Act → World → Prop} {E : Prop} {w : World} (hgd : o.guard = none) (f : FuncId) (hcall : ∀ (args : Array Value) (w : World), (callFunc f args).run P w = .ok (.enter f args) w) (x y : Operand) {ts : Array TypeId} {u v : Value}
    (ho : o.op = .call { callee := .value (.func f), args := #[x, y], argTypes := ts }) (hx : a.eval x = u) (hy : a.eval y = v) (h : Calls P f #[u, v] w fun e w' => ∃ r, e = .returned r ∧ K (a.put o.dst r) w') :
    if Region.wanted o (yielded ops a.tmps) = true then Oper.wp P o a w K Q else E := by
  have hw : Region.wanted o (yielded ops a.tmps) = true := by simp [Region.wanted, hgd]
  rw [if_pos hw]
  subst hx hy
  have hrun : (execOp a.eval o).run P w = .ok (.enter f #[a.eval x, a.eval y]) w := by
    simp [execOp, ho, resolve, invoke, Act.eval, Deferred.ofValue, hcall]
  unfold Oper.wp
  rw [hrun, Oper.upon_enter]
  refine h.mono ?_
  rintro e w' ⟨r, rfl, hr⟩
  exact hr

theorem enter_part (args : Array Value) (w : World) : (callFunc 42 args).run Try.prog w = .ok (.enter 42 args) w := by simp [go_sem]
theorem Blk.grown {w w' : World} {g : Nat} {row : Option Nat} {L : List Value} {t : TypeId} (h : Blk w g L t) (hg : w.grownBy w' row) (hne : row ≠ some g) : Blk w' g L t :=
  (hg.block g h.lt (fun e => hne e.symm)).trans h

theorem own_ne {w w' : World} {v v' : Value} {g : Nat} (h : Grew w v w' v') (hne : v.ownBlock ≠ some g) (hz : w.heap.size = g + 2) : v'.ownBlock ≠ some g := by
  rcases h.2 with e | ⟨x, e, hx⟩
  · rw [e]; exact hne
  · rw [e]; intro e'; injection e' with e'; omega

/-- ahead of round k -/
def BR (w : World) (ps : List PPut) (b i : Value) (wr : World) : Prop :=
  ∃ (k : Nat) (A : Option Addr) (n c : Nat), k ≤ ps.length ∧ i = .int .i64 k ∧ b = .slice A n c ∧ MadeN 5 w (putL ps.length ++ putsV (valsOf (ps.take k))) A n c wr
theorem putsV_next {ps : List PPut} {k : Nat} (h : k < ps.length) : putsV (valsOf (ps.take (k + 1))) = putsV (valsOf (ps.take k)) ++ putV1 (valOf ps[k]) := by
  rw [List.take_succ_eq_append_getElem h, valsOf, List.map_append]
  exact putsV_snoc _ _
theorem putsV_append (a b : List PutV) : putsV (a ++ b) = putsV a ++ putsV b := by simp [putsV]
theorem putsV_fits {ps : List PPut} (k : Nat) : (putsV (valsOf (ps.take k))).length ≤ (putsV (valsOf ps)).length := by
  have h : valsOf ps = valsOf (ps.take k) ++ valsOf (ps.drop k) := by rw [valsOf, valsOf, valsOf, ← List.map_append, List.take_append_drop]
  rw [h, putsV_append, List.length_append]
  omega

set_option maxRecDepth 100000 in
set_option maxHeartbeats 2000000 in
theorem batch_any (A : Option Addr) (ps : List PPut) (L c : Nat) (w : World) (hL : ps.length = L) (hs : PutsSeen w A ps) (hn : L ≤ 9223372036854775807) (hb : (batchL (valsOf ps)).length ≤ 140737488000000) :
    Calls Try.prog 22 #[.slice A L c] w fun e w' => ∃ A' n' c', e = .returned (.slice A' n' c') ∧ MadeN 5 w (batchL (valsOf ps)) A' n' c' w' := by
  obtain ⟨i0, hi, hz0, hz1, hz2⟩ := info_parts info8p
  have HS := Lib.hid hs
  have HL := Lib.hid hL
  have HB : Hid ((putL L).length + (putsV (valsOf ps)).length ≤ 140737488000000) := by
    show _ ≤ _; rw [batchL, valsOf_length, hL, List.length_append] at hb; exact hb
  have HBE : Hid (batchL (valsOf ps) = putL L ++ putsV (valsOf ps)) := by show _ = _; rw [batchL, valsOf_length, hL]
  clear hs hL hb
  have HM0 : Hid (MadeN 5 w [] none 0 0 w) := ⟨rfl, Made.nil _ _⟩
  go_enter Try.func22, Try.ntmps22
  go_wp2_with fail
  refine (appendNumber_any w w none [] 0 0 L HM0.out hn (by omega)).mono ?_
  rintro e w1 ⟨A1, n1, c1, rfl, hm1, hn1, _⟩
  have HM1 : Hid (MadeN 5 w (putL L) A1 n1 c1 w1) := hm1
  clear hm1
  go_wp2_with fail
  go_loopw [3, 11] (fun b i wr => BR w ps b i wr) (fun _ i _ => L - (intOf i).toNat)
  case atStart => exact ⟨0, A1, n1, c1, by omega, rfl, rfl, by rw [HL.out]; simpa [putsV, valsOf] using HM1.out⟩
  case round =>
    clear HM1
    obtain ⟨k, A2, n2, c2, hk, rfl, rfl, hm⟩ := hrel
    rw [HL.out] at hk hm
    obtain ⟨D, hD⟩ : ∃ D, D = putL L ++ putsV (valsOf (ps.take k)) := ⟨_, rfl⟩
    rw [← hD] at hm
    have ED := Lib.hid hD
    have HM := Lib.hid hm
    clear hD hm
    by_cases hlt : k < L
    · have hk' : k < ps.length := by rw [HL.out]; exact hlt
      obtain ⟨b, off, hA, hok, hat⟩ := HS.out.at_ k hk'
      obtain ⟨e0, e1, e2⟩ := hat wr HM.out.2.2
      subst hA
      have HN := Lib.hid (putsV_next hk')
      have HF := Lib.hid (putsV_fits (ps := ps) (k + 1))
      obtain ⟨q, hq⟩ : ∃ q, q = ps[k] := ⟨_, rfl⟩
      rw [← hq] at hok e0 e1 e2 HN
      clear hq hat
      obtain ⟨⟨qA, ql, qc⟩, ⟨vA, vl, vc⟩, g⟩ := q
      obtain ⟨⟨hsq, hlq⟩, ⟨hsv, hlv⟩⟩ := hok
      simp only [pv] at e0 e1 e2 hsq hlq hsv hlv
      obtain ⟨qn, hqn⟩ : ∃ qn, qn = ql.length := ⟨_, rfl⟩
      obtain ⟨vn, hvn⟩ : ∃ vn, vn = vl.length := ⟨_, rfl⟩
      rw [← hqn] at e0
      rw [← hvn] at e1
      have HQN : Hid (ql.length = qn) := hqn.symm
      have HVN : Hid (vl.length = vn) := hvn.symm
      have HSQ := Lib.hid hsq
      have HSV := Lib.hid hsv
      have HP := Lib.hid (HM.out.below (show Below wr.heap.size wr (wr.alloc (.cells #[.slice qA qn qc, .slice vA vn vc, .bool g] 45)) from (Below.refl _ _).alloc (Nat.le_refl _) _))
      clear hsq hsv hlq hlv hqn hvn
      cases g with
      | true =>
        have HN' : Hid (putsV (valsOf (ps.take (k + 1))) = putsV (valsOf (ps.take k)) ++ (1 :: partP ql)) := HN.out
        obtain ⟨W1, hW1⟩ : ∃ W1, W1 = (wr.alloc (.cells #[.slice qA qn qc, .slice vA vn vc, .bool true] 45)).alloc (.cells #[.int .u8 1] 5) := ⟨_, rfl⟩
        have hSX : Seen W1 (some ⟨wr.heap.size + 1, 0, none⟩) [1] := by
          have := seen_mark (wr.alloc (.cells #[.slice qA qn qc, .slice vA vn vc, .bool true] 45)) 5 [1] (0, 0)
          simp only [World.size_alloc] at this
          rw [hW1]; exact this
        have hBX := (Blk.new wr [.slice qA qn qc, .slice vA vn vc, .bool true] 45).alloc (.cells #[.int .u8 1] 5)
        have hPX := HP.out.below (show Below (wr.alloc (.cells #[.slice qA qn qc, .slice vA vn vc, .bool true] 45)).heap.size _ W1 from by rw [hW1]; exact (Below.refl _ _).alloc (Nat.le_refl _) _)
        have hzX : W1.heap.size = wr.heap.size + 2 := by rw [hW1]; simp
        rw [← hW1] at hBX
        have HSX : Hid (Seen W1.drew (some ⟨wr.heap.size + 1, 0, none⟩) [1]) := hSX.below ((Below.refl _ _).drew)
        have HPX : Hid (MadeN 5 w D A2 n2 c2 W1.drew) := hPX.below ((Below.refl _ _).drew)
        have HBX : Hid (Blk W1.drew wr.heap.size [.slice qA qn qc, .slice vA vn vc, .bool true] 45) := hBX
        have HZX : Hid (W1.drew.heap.size = wr.heap.size + 2) := hzX
        have HNE : Hid ((Value.slice A2 n2 c2).ownBlock ≠ some wr.heap.size) := fun e => by have := (HM.out.2.1.lt _ e).2; omega
        have L1 : Hid (([1] : List UInt8).length = 1) := rfl
        obtain ⟨D1, hD1⟩ : ∃ D1, D1 = D ++ [1] := ⟨_, rfl⟩
        obtain ⟨N1, hN1⟩ : ∃ N1, N1 = n2 + 1 := ⟨_, rfl⟩
        have ED1 := Lib.hid hD1
        have EN1 := Lib.hid hN1
        have hfit : Hid (N1 + (partP ql).length ≤ 140737488000000) := by
          show _ ≤ _
          have h1 := HF.out
          have h2 := HB.out
          rw [HN'.out, List.length_append, List.length_cons] at h1
          have h3 := HM.out.1
          rw [ED.out, List.length_append] at h3
          omega
        have hn2b : n2 ≤ 140737488000000 := by have := hfit.out; omega
        have HSQ' : Hid (Seen w qA ql) := HSQ
        clear hSX hBX hPX hD1 hN1 hzX
        rw [hW1] at HSX HPX HBX HZX
        clear hW1
        go_wp2_with fail
        go_region_law (first
          | (refine step_append_to _ rfl (.tmp 17) (.tmp 18) 22 rfl 5 i0 (.int .u8 0) Try.underlying22 hi hz0 hz1 hz2 rfl w A2 n2 c2 D (some ⟨wr.heap.size + 1, 0, none⟩) 1 1 [1] D1 N1 (by simp [Act.eval]) (by simp [Act.eval]) HPX HSX L1 ED1 EN1 (by omega) ?_; intro A5 c5 w5 H5 B5 G5; have p0 := (HBX.out.grown G5.out.1 HNE.out).cell (i := 0) (by simp); simp only [List.getElem_cons_zero] at p0)
          | (refine step_call2 rfl 42 enter_part (.tmp 19) (.tmp 21) rfl (by simp [Act.eval]) (by simp [Act.eval]) ((appendPart_any w w5 A5 D1 N1 c5 qA ql qn qc H5.out HQN.out HSQ'.out (by have := hfit.out; omega)).mono ?_); rintro e w6 ⟨A6, n6, c6, rfl, hm6, _⟩; refine ⟨_, rfl, ?_⟩; have HM6 := Lib.hid hm6; clear hm6))
        all_goals
          go_wp2_with fail
          go_roundw
          case rel =>
            refine ⟨k + 1, A6, n6, c6, by rw [HL.out]; omega, by go_num, rfl, ?_⟩
            have e : putL ps.length ++ putsV (valsOf (ps.take (k + 1))) = D1 ++ partP ql := by rw [HN'.out, ED1.out, ED.out, HL.out]; simp
            rw [e]; exact HM6.out
          case measure => simp [intOf]; omega
      | false =>
        have HN' : Hid (putsV (valsOf (ps.take (k + 1))) = putsV (valsOf (ps.take k)) ++ (0 :: (partP ql ++ partP vl))) := HN.out
        obtain ⟨W1, hW1⟩ : ∃ W1, W1 = (wr.alloc (.cells #[.slice qA qn qc, .slice vA vn vc, .bool false] 45)).alloc (.cells #[.int .u8 0] 5) := ⟨_, rfl⟩
        have hSX : Seen W1 (some ⟨wr.heap.size + 1, 0, none⟩) [0] := by
          have := seen_mark (wr.alloc (.cells #[.slice qA qn qc, .slice vA vn vc, .bool false] 45)) 5 [0] (0, 0)
          simp only [World.size_alloc] at this
          rw [hW1]; exact this
        have hBX := (Blk.new wr [.slice qA qn qc, .slice vA vn vc, .bool false] 45).alloc (.cells #[.int .u8 0] 5)
        have hPX := HP.out.below (show Below (wr.alloc (.cells #[.slice qA qn qc, .slice vA vn vc, .bool false] 45)).heap.size _ W1 from by rw [hW1]; exact (Below.refl _ _).alloc (Nat.le_refl _) _)
        have hzX : W1.heap.size = wr.heap.size + 2 := by rw [hW1]; simp
        rw [← hW1] at hBX
        have HSX : Hid (Seen W1.drew (some ⟨wr.heap.size + 1, 0, none⟩) [0]) := hSX.below ((Below.refl _ _).drew)
        have HPX : Hid (MadeN 5 w D A2 n2 c2 W1.drew) := hPX.below ((Below.refl _ _).drew)
        have HBX : Hid (Blk W1.drew wr.heap.size [.slice qA qn qc, .slice vA vn vc, .bool false] 45) := hBX
        have HZX : Hid (W1.drew.heap.size = wr.heap.size + 2) := hzX
        have HNE : Hid ((Value.slice A2 n2 c2).ownBlock ≠ some wr.heap.size) := fun e => by have := (HM.out.2.1.lt _ e).2; omega
        have L1 : Hid (([0] : List UInt8).length = 1) := rfl
        obtain ⟨D1, hD1⟩ : ∃ D1, D1 = D ++ [0] := ⟨_, rfl⟩
        obtain ⟨N1, hN1⟩ : ∃ N1, N1 = n2 + 1 := ⟨_, rfl⟩
        have ED1 := Lib.hid hD1
        have EN1 := Lib.hid hN1
        have hfit : Hid (N1 + ((partP ql).length + (partP vl).length) ≤ 140737488000000) := by
          show _ ≤ _
          have h1 := HF.out
          have h2 := HB.out
          rw [HN'.out, List.length_append, List.length_cons] at h1
          have h3 := HM.out.1
          rw [ED.out, List.length_append] at h3
          rw [List.length_append] at h1
          omega
        have hn2b : n2 ≤ 140737488000000 := by have := hfit.out; omega
        have HSQ' : Hid (Seen w qA ql) := HSQ
        clear hSX hBX hPX hD1 hN1 hzX
        rw [hW1] at HSX HPX HBX HZX
        clear hW1
        go_wp2_with fail
        go_region_law (first
          | (refine step_append_to _ rfl (.tmp 23) (.tmp 24) 22 rfl 5 i0 (.int .u8 0) Try.underlying22 hi hz0 hz1 hz2 rfl w A2 n2 c2 D (some ⟨wr.heap.size + 1, 0, none⟩) 1 1 [0] D1 N1 (by simp [Act.eval]) (by simp [Act.eval]) HPX HSX L1 ED1 EN1 (by omega) ?_; intro A5 c5 w5 H5 B5 G5; have p0 := (HBX.out.grown G5.out.1 HNE.out).cell (i := 0) (by simp); simp only [List.getElem_cons_zero] at p0)
          | (refine step_call2 rfl 42 enter_part (.tmp 25) (.tmp 27) rfl (by simp [Act.eval]) (by simp [Act.eval]) ((appendPart_any w w5 A5 D1 N1 c5 qA ql qn qc H5.out HQN.out HSQ'.out (by have := hfit.out; omega)).mono ?_); rintro e w6 ⟨A6, n6, c6, rfl, hm6, hg6⟩; refine ⟨_, rfl, ?_⟩; have p1 := ((HBX.out.grown G5.out.1 HNE.out).grown hg6.1 (own_ne G5.out HNE.out HZX.out)).cell (i := 1) (by simp); simp only [List.getElem_cons_zero, List.getElem_cons_succ] at p1; have HM6 := Lib.hid hm6; clear hm6 hg6))
        all_goals
          obtain ⟨D6, hD6⟩ : ∃ D6, D6 = D1 ++ partP ql := ⟨_, rfl⟩
          rw [← hD6] at HM6
          have ED6 := Lib.hid hD6
          have hfit6 : Hid (n6 + (partP vl).length ≤ 140737488000000) := by
            show _ ≤ _
            have h1 := HM6.out.1
            rw [hD6, List.length_append, H5.out.1] at h1
            have := hfit.out; omega
          clear hD6
          go_wp2_with fail
          refine (appendPart_any w w6 A6 D6 n6 c6 vA vl vn vc HM6.out HVN.out HSV.out (by have := hfit6.out; omega)).mono ?_
          rintro e w7 ⟨A7, n7, c7, rfl, hm7, _⟩
          have HM7 := Lib.hid hm7
          clear hm7
          go_wp2_with fail
          go_roundw
          case rel =>
            refine ⟨k + 1, A7, n7, c7, by rw [HL.out]; omega, by go_num, rfl, ?_⟩
            have e : putL ps.length ++ putsV (valsOf (ps.take (k + 1))) = D6 ++ partP vl := by rw [HN'.out, ED6.out, ED1.out, ED.out, HL.out]; simp
            rw [e]; exact HM7.out
          case measure => simp [intOf]; omega
    · obtain rfl : k = L := by omega
      have e : D = batchL (valsOf ps) := by rw [HBE.out, ED.out, ← HL.out, List.take_length]
      go_wp2_with fail
      go_ret
      exact ⟨A2, n2, c2, rfl, by rw [← e]; exact HM.out⟩
end Go.Proofs.Ytmngcfmlmdhpbaa
