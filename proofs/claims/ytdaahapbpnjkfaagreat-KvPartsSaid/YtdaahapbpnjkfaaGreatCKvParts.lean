/-
  The statement KvParts: batches, put by put, come to the same pairs, if all can be done; Prefix is Scan up to the key behind. Condition: the row's own.
-/
import Derived.Test.YtdaahapbpnjkfaaGreatCKvPair
import Derived.Test.YtdaahapbpnjkfaaGreatCKvRows
import Derived.Test.YtdaahapbpnjkfaaGreatCBehind
namespace Go.Proofs.YtdaahapbpnjkfaaGreat
open Go.RowKit
theorem cut_put (A : Option Addr) (n c k : Nat) (hk : k + 1 ≤ c) (W : World) : (Instr.slice 38 (.slice A n c) (some (.int .i64 (k : Int))) (some (.int .i64 ((k + 1 : Nat) : Int))) none).run Tryz.prog W = .ok (.slice (A.map (·.add (k * 3))) 1 (c - k)) W := by
  have e2 : Tryz.prog.elem 38 = 72 := by kernel_rfl
  obtain ⟨i, hi, hz⟩ := Option.map_eq_some_iff.1 infoPut
  simp only [Prod.mk.injEq] at hz
  rw [run_slice_lh W 38 A n c (by kernel_rfl) .i64 .i64 (k : Int) ((k + 1 : Nat) : Int) (by omega) (by omega) (by omega), e2]
  have h1 : ¬ c = k := by omega
  simp [sizeOf, typeInfo, hi, hz.2.1, sliced, h1]
theorem puts_one {w : World} {A : Option Addr} {ps : List PPut} (h : PutsSeen w A ps) {k : Nat} (hk : k < ps.length) : PutsSeen w (A.map (·.add (k * 3))) [ps[k]] := by
  rcases h with rfl | ⟨b, off, rfl, hlt, hc⟩
  · cases hk
  · refine .inr ⟨b, off + k * 3, by show some (Addr.add ⟨b, off, none⟩ (k * 3)) = _; rw [add_plain], hlt, fun j hj => ?_⟩
    obtain rfl : j = 0 := by simpa using hj
    simpa using hc k hk
section
variable {w0 w w' : World} {h g1 q1 g2 q2 m1 m2 : Nat} {X Y : St}
theorem KPair.mono {n1 n2 : Nat} (k : KPair w0 w h g1 q1 X m1 g2 q2 Y m2) (h1 : m1 ≤ n1) (h2 : m2 ≤ n2) : KPair w0 w h g1 q1 X n1 g2 q2 Y n2 := by
  obtain ⟨T, b1, gt1, F1, b2, gt2, F2, p1, p2, x1, x2, h5, h6, h7⟩ := k
  exact ⟨T, b1, gt1, F1, b2, gt2, F2, p1, p2, ⟨x1.1, x1.2.1, x1.2.2.mono h1⟩, ⟨x2.1, x2.2.1, x2.2.2.mono h2⟩, h5, h6, h7⟩
end
theorem KLive.prefix_ {w0 w : World} {g q h : Nat} {s : Dsk} {a : Nat} {gen : Int} {ds : List (List UInt8)} {L : List Kv} {m : Nat} (k : KLive w0 w g q h s a gen ds L m) {B : Option Addr} {p : Key} {z d : Nat} {mo : Int} (hp : Seen w B p) (hz : p.length = z) (hd : z ≤ d) (h47 : z ≤ 140737488355328) :
    Calls Tryz.prog 35 #[.pointer (some ⟨q, 0, none⟩), .slice B z d, .int .i64 mo] w (KScan w (scanT p (behindL p) mo L)) := by
  have K := Lib.hid k
  have HP := Lib.hid hp
  have HZ := Lib.hid hz
  have HB : Hid (Calls Tryz.prog 36 #[.slice B z d] w fun e w' => BehindOut w p e w') := by
    subst hz
    exact behind_any B p d w hp hd h47
  clear k hp hz
  go_enter Tryz.func35, Tryz.ntmps35
  go_wp2_with fail
  with_reducible refine HB.out.mono ?_
  rintro e w1 ⟨A1, n1, c1, rfl, hn1, hs1, hb1⟩
  have hbl : (behindL p).length ≤ z := by
    rw [← HZ.out]
    rcases behind_form p with ⟨_, _, h⟩ | ⟨q, c, m, _, h2, h3⟩
    · rw [h]; exact Nat.zero_le _
    · rw [h3, h2]; simp
  have B1 := Lib.hid hb1
  have HSC := Lib.hid ((K.out.still hb1).scan (rc := d) (d := c1) (mo := mo) (HP.out.below hb1) HZ.out hs1 hn1 (by omega))
  clear hn1 hs1 hb1 hbl HB
  go_wp2_with fail
  with_reducible refine HSC.out.mono ?_
  rintro e w2 ⟨hb2, X, n, c, rfl, hx, hn⟩
  have HX : Hid (Below w.heap.size w w2 ∧ KvSeen w2 X (scanT p (behindL p) mo L) ∧ (scanT p (behindL p) mo L).length = n) := ⟨hop B1.out hb2, hx, hn⟩
  clear hb2 hx hn HSC
  go_wp2_with fail
  go_ret
  exact ⟨HX.out.1, X, n, c, rfl, HX.out.2⟩
set_option maxRecDepth 100000 in
set_option maxHeartbeats 4000000 in
theorem kvParts_walk (A : Option Addr) (l : List PRow) (c : Nat) (B : Option Addr) (p : List UInt8) (cb : Nat) (mo : Int) (w : World) (_hl : l.length ≤ 9223372036854775807) (hs : RowsSeen w A l) (_hc : l.length ≤ c) (hp9 : p.length ≤ 140737488351232) (hp : Seen w B p) (hpc : p.length ≤ cb) (_y0 : -9223372036854775808 ≤ mo) (_y1 : mo ≤ 9223372036854775807) :
    Calls Tryz.prog 7 #[.slice A l.length c, .slice B p.length cb, .int .i64 mo] w fun e w' => e = .returned (.bool true) ∧ Below w.heap.size w w' := by
  have HS := Lib.hid hs
  have HP := Lib.hid hp
  obtain ⟨n, hn⟩ : ∃ n, n = l.length := ⟨_, rfl⟩
  have HN : Hid (l.length = n) := hn.symm
  obtain ⟨np, hnp⟩ : ∃ np, np = p.length := ⟨_, rfl⟩
  have HNP : Hid (p.length = np) := hnp.symm
  rw [← hn, ← hnp]
  rw [← hnp] at hp9 hpc
  have HPC : Hid (np ≤ cb ∧ np ≤ 140737488355328) := ⟨hpc, by omega⟩
  have HBA : Hid (∀ W, Below w.heap.size w W → Calls Tryz.prog 25 #[.slice A n c] W fun e w' => e = .returned (.bool (batchesB l)) ∧ W = w') := fun W hW => batches_any A l n c W hn.symm (hs.below hW)
  obtain ⟨ok, hok⟩ : ∃ ok, ok = batchesB l := ⟨_, rfl⟩
  rw [← hok] at HBA
  have HOK := Lib.hid hok
  clear hs hn hok hp hnp hpc
  go_enter Tryz.func7, Tryz.ntmps7
  go_wp2_with fail
  with_reducible refine (awake_any _).mono ?_
  rintro e w1 ⟨rfl, hb1⟩
  have B1 := Lib.hid hb1
  clear hb1
  go_wp2_with fail
  with_reducible refine (HBA.out _ B1.out).mono ?_
  rintro e w2 ⟨rfl, hw2⟩
  obtain rfl := hw2
  by_cases hbad : ok = false ∨ 1000 < np
  · have hdone : ok = false ∨ (ok = true ∧ 1000 < np) := by
      rcases Bool.eq_false_or_eq_true ok with h | h
      · rcases hbad with h0 | hbad
        · rw [h] at h0; cases h0
        · exact .inr ⟨h, hbad⟩
      · exact .inl h
    clear hbad
    rcases hdone with rfl | ⟨rfl, g1⟩
    · go_wp2_with fail
      go_ret
      exact ⟨rfl, B1.out⟩
    · have d1 : decide ((1000 : Int) < (np : Int)) = true := decide_eq_true (by omega)
      go_wp2_with fail
      go_ret
      exact ⟨rfl, B1.out⟩
  obtain rfl : ok = true := by cases ok <;> simp_all
  have g1 : ¬ (1000 : Int) < (np : Int) := by omega
  have d1 : decide ((1000 : Int) < (np : Int)) = false := decide_eq_false g1
  have HALL := Lib.hid (batchesB_true HOK.out.symm)
  have hn40 : n ≤ 40 := by have := HALL.out.1; have := HN.out; omega
  have HNEW : Hid (∀ W, Calls Tryz.prog 26 #[.int .i64 400] W (Fresh W (Dsk.new 400))) := fun W => new_any W 400 (by decide) (by decide)
  clear hbad HOK HBA
  go_wp2_with fail
  with_reducible refine (HNEW.out _).mono ?_
  rintro e w2 ⟨g, F, rfl, hd, hF, hb⟩
  have D2 := Lib.hid hd
  have HF2 : Hid (∀ k, F k → w.heap.size ≤ k) := fun k hk => Nat.le_trans B1.out.size (hF k hk)
  have B2 : Hid (Below w.heap.size w w2) := hop B1.out hb
  clear hd hF hb
  go_wp2_with fail
  with_reducible refine (HNEW.out _).mono ?_
  rintro e w3 ⟨x, G, rfl, hd, hG, hb⟩
  have HOP := Lib.hid (kopen_pair (w0 := w) (D2.out.still hb) hd (by decide) (by decide) (hop B2.out hb) HF2.out (fun k hk => Nat.le_trans B2.out.size (hG k hk)) (fun k h1 h2 => by have := D2.out.lt k h1; have := hG k h2; omega))
  clear hd hG hb HNEW D2 HF2
  go_wp2_with fail
  with_reducible refine HOP.out.mono ?_
  rintro e w4 ⟨q1, rfl, ho2⟩
  have HOP2 := Lib.hid ho2
  clear ho2 HOP
  go_wp2_with fail
  with_reducible refine HOP2.out.mono ?_
  rintro e w5 ⟨q2, X, Y, rfl, hx, hy, hxl, hyl, hk⟩
  have K5 := Lib.hid hk
  have HXY : Hid (X.s.K.length = 400 ∧ Y.s.K.length = 400 ∧ X.L = [] ∧ Y.L = []) := ⟨hx, hy, hxl, hyl⟩
  clear hk hx hy hxl hyl HOP2 d1 g1
  go_wp2_with fail
  go_loopw [17] (fun v wr => ∃ (k : Nat) (X Y : St), k ≤ n ∧ v = .int .i64 (k : Int) ∧ (X.s.K.length = 400 ∧ Y.s.K.length = 400 ∧ X.L = Y.L) ∧ KPair w wr (400 / 2) g q1 X (1100 + 204 * k) x q2 Y (1100 + 204 * (60 * k))) (fun v _ => n - (intOf v).toNat)
  case atStart => exact ⟨0, X, Y, by omega, rfl, ⟨HXY.out.1, HXY.out.2.1, by rw [HXY.out.2.2.1, HXY.out.2.2.2]⟩, K5.out⟩
  case round =>
    rename World => wr
    obtain ⟨k, X, Y, hk, rfl, hxy, hkd⟩ := hrel
    have KK := Lib.hid hkd
    have HXY2 := Lib.hid hxy
    clear hkd hxy K5 HXY
    by_cases hlt : k < n
    · have hkl : (k : Int) < (n : Int) := by omega
      have hkn : k < l.length := by have := HN.out; omega
      obtain ⟨bl, off, rfl, hps, hcp1, hcp2, hcell⟩ := HS.out.at_ k hkn
      have hfew := HALL.out.2 k hkn
      obtain ⟨⟨A1, ps, c1⟩, hq⟩ : ∃ q, q = l[k] := ⟨_, rfl⟩
      rw [← hq] at hps hcell hfew hcp1
      obtain ⟨n1, hn1⟩ : ∃ n1, ps.length = n1 := ⟨_, rfl⟩
      have hps' : PutsSeen w A1 ps := hps
      have HCL : Hid (∀ W, Below w.heap.size w W → W.cell? ⟨bl, off + k, none⟩ = some (.slice A1 n1 c1)) := fun W hW => by rw [← hn1]; exact hcell W hW
      have hfv : FewV (valsOf ps) := ⟨by rw [valsOf_length]; exact hfew.1, fun p hp => by
        obtain ⟨x, hx, rfl⟩ := List.mem_map.1 hp
        exact hfew.2 x hx⟩
      have HFV := Lib.hid hfv
      have HPS := Lib.hid hps'
      have HN1 := Lib.hid hn1
      have HN60 : Hid (n1 ≤ 60 ∧ n1 ≤ c1) := by
        have h5 : ps.length ≤ 60 := hfew.1
        have h6 : ps.length ≤ c1 := hcp1
        show _ ∧ _; omega
      have HCM := Lib.hid (KK.out.commit (c := c1) (by have := HXY2.out.1; omega) (by omega) hps' hn1 hfv)
      have o0 := HCL.out wr KK.out.live.below
      have hwi : IntKind.i64.wrap ((k : Int) + 1) = ((k + 1 : Nat) : Int) := by rw [IntKind.wrap_i64]; omega
      clear hps hcell hfew hq hps' hfv hn1 hcp1 hcp2 hkn
      go_wp2_with fail
      with_reducible refine HCM.out.mono ?_
      rintro e w6 ⟨E, X6, rfl, hk6, hs6, hcq⟩
      have K6 := Lib.hid hk6
      have o1 := HCL.out w6 hk6.live.below
      have HX6 : Hid (X6.s.K.length = 400) := by show _ = _; rw [hs6]; exact HXY2.out.1
      clear hk6 hs6 HCM
      rcases hcq with ⟨rfl, hL⟩ | rfl
      · have HL := Lib.hid hL
        clear hL
        go_wp2_with fail
        go_loopw [18] (fun v wz => ∃ (j : Nat) (Z : St), j ≤ n1 ∧ v = .int .i64 (j : Int) ∧ (Z.s.K.length = 400 ∧ Z.L = doAll ((valsOf ps).take j) Y.L) ∧ KPair w wz (400 / 2) g q1 X6 (1100 + 204 * k + 400 / 2 + 4) x q2 Z (1100 + 204 * (60 * k) + 204 * j)) (fun v _ => n1 - (intOf v).toNat)
        case atStart => exact ⟨0, Y, by omega, rfl, ⟨HXY2.out.2.1, rfl⟩, K6.out⟩
        case round =>
        rename World => wz
        obtain ⟨j, Z, hj, rfl, hz, hkz⟩ := hrel
        have KZ := Lib.hid hkz
        have HZ := Lib.hid hz
        have o2 := HCL.out wz hkz.live.below
        clear hz hkz K6 o0 o1
        by_cases hjt : j < n1
        · have hjl : (j : Int) < (n1 : Int) := by omega
          have hjn : j < ps.length := by have := HN1.out; omega
          have hcut : ∀ W, (Instr.slice 38 (.slice A1 n1 c1) (some (.int .i64 (j : Int))) (some (.int .i64 ((j : Int) + 1))) none).run Tryz.prog W = .ok (.slice (A1.map (·.add (j * 3))) 1 (c1 - j)) W := fun W => by
            have h5 := cut_put A1 n1 c1 j (by have := HN60.out; omega) W
            rw [show ((j + 1 : Nat) : Int) = (j : Int) + 1 by omega] at h5
            exact h5
          have hwj : IntKind.i64.wrap ((j : Int) + 1) = ((j + 1 : Nat) : Int) := by have := HN60.out; rw [IntKind.wrap_i64]; omega
          have htk := congrFun (vals_take hjn) Y.L
          have hfo : FewV (valsOf [ps[j]]) := ⟨by simp [valsOf], fun p hp => by
            rw [List.mem_singleton.1 (show p ∈ [valOf _] from hp)]
            exact HFV.out.2 _ (List.mem_map_of_mem (List.getElem_mem hjn))⟩
          have HCJ := Lib.hid (KZ.out.swap.commit (n := 1) (c := c1 - j) (by have := HZ.out.1; omega) (by have := HN60.out; omega) (puts_one HPS.out hjn) rfl hfo)
          have HTK : Hid (doAll ((valsOf ps).take (j + 1)) Y.L = doAll (valsOf [ps[j]]) (doAll ((valsOf ps).take j) Y.L)) := htk
          generalize [ps[j]] = one at *
          clear htk hfo hjn
          go_wp2_with fail
          with_reducible refine HCJ.out.mono ?_
          rintro e w8 ⟨E, Z8, rfl, hk8, hs8, hcq⟩
          have K8 := Lib.hid hk8.swap
          have HZ8 : Hid (Z8.s.K.length = 400) := by show _ = _; rw [hs8]; exact HZ.out.1
          clear hk8 hs8 HCJ
          rcases hcq with ⟨rfl, hL⟩ | rfl
          · have HLZ := Lib.hid hL
            clear hL
            go_wp2_with fail
            go_roundw
            case rel => exact ⟨j + 1, Z8, by omega, by go_num, ⟨HZ8.out, by rw [HLZ.out, HTK.out, HZ.out.2]⟩, K8.out.mono (Nat.le_refl _) (by omega)⟩
            case measure => simp [intOf]; omega
          · go_wp2_with fail
            go_ret
            exact ⟨rfl, K8.out.live.below⟩
        · obtain rfl : j = n1 := by omega
          have hjl : ¬ (j : Int) < (j : Int) := by omega
          have HTA : Hid ((valsOf ps).take j = valsOf ps) := List.take_of_length_le (by rw [valsOf_length, HN1.out]; exact Nat.le_refl _)
          go_wp2_with fail
          go_roundw
          case rel => exact ⟨k + 1, X6, Z, by omega, by go_num, ⟨HX6.out, HZ.out.1, by rw [HL.out, HZ.out.2, HTA.out, HXY2.out.2.2]⟩, KZ.out.mono (by omega) (by have := HN60.out; omega)⟩
          case measure => simp [intOf]; omega
      · go_wp2_with fail
        go_ret
        exact ⟨rfl, K6.out.live.below⟩
    · obtain rfl : k = n := by omega
      have hkl : ¬ (k : Int) < (k : Int) := by omega
      have hsm := (KK.out.live.small (by have := HXY2.out.1; omega)).1
      have hxl := HXY2.out.2.2
      obtain ⟨L, hL⟩ : ∃ L, L = X.L := ⟨_, rfl⟩
      have HLX : Hid (L = X.L) := hL
      have HLY : Hid (L = Y.L) := hL.trans hxl
      have HL9 : Hid (L.length ≤ 99999) := by show _ ≤ _; rw [hL]; omega
      have HS1 : Hid (∀ W, Below wr.heap.size wr W → Calls Tryz.prog 32 #[.pointer (some ⟨q1, 0, none⟩), .slice none 0 0, .slice none 0 0, .int .i64 100000] W (KScanN W L)) := fun W hW => by rw [hL]; exact (KK.out.still hW).live.all (by omega)
      have HS2 : Hid (∀ W, Below wr.heap.size wr W → Calls Tryz.prog 32 #[.pointer (some ⟨q2, 0, none⟩), .slice none 0 0, .slice none 0 0, .int .i64 100000] W (KScanN W L)) := fun W hW => by rw [HLY.out]; exact (KK.out.still hW).swap.live.all (by rw [← HLY.out]; exact HL9.out)
      have HPR : Hid (∀ W, Below wr.heap.size wr W → Calls Tryz.prog 35 #[.pointer (some ⟨q1, 0, none⟩), .slice B np cb, .int .i64 mo] W (KScan W (scanT p (behindL p) mo L))) := fun W hW => by rw [hL]; exact (KK.out.still hW).live.prefix_ (HP.out.below (KK.out.still hW).live.below) HNP.out HPC.out.1 HPC.out.2
      have HBH : Hid (∀ W, Below wr.heap.size wr W → Calls Tryz.prog 36 #[.slice B np cb] W fun e w' => BehindOut W p e w') := fun W hW => by
        have := behind_any B p cb W (HP.out.below (KK.out.still hW).live.below) (by rw [HNP.out]; exact HPC.out.1) (by rw [HNP.out]; exact HPC.out.2)
        rw [HNP.out] at this
        exact this
      have hbl : (behindL p).length ≤ np := by
        rw [← HNP.out]
        rcases behind_form p with ⟨_, _, h⟩ | ⟨q, c, m, _, h2, h3⟩
        · rw [h]; exact Nat.zero_le _
        · rw [h3, h2]; simp
      have HSP : Hid (∀ W, Below wr.heap.size wr W → ∀ A9 n9 c9, Seen W A9 (behindL p) → (behindL p).length = n9 → Calls Tryz.prog 32 #[.pointer (some ⟨q1, 0, none⟩), .slice B np cb, .slice A9 n9 c9, .int .i64 mo] W (KScan W (scanT p (behindL p) mo L))) := fun W hW A9 n9 c9 h1 h2 => by rw [hL]; exact (KK.out.still hW).live.scan (HP.out.below (KK.out.still hW).live.below) HNP.out h1 h2 (by omega)
      have HPL : Hid ((scanT p (behindL p) mo L).length ≤ 1000000) := by
        show _ ≤ _
        have h9 := HL9.out
        unfold scanT
        split
        · exact Nat.zero_le _
        · have h5 := visit_length (behindL p) mo (since p L) []
          have h6 : (since p L).length ≤ L.length := List.length_filter_le _ _
          rw [List.length_nil] at h5
          omega
      have HBE := Lib.hid KK.out.live.below
      clear hsm hxl hL hbl KK HXY2
      go_wp2_with fail
      with_reducible refine (HS1.out _ (Below.refl _ _)).mono ?_
      rintro e w6 ⟨hb6, X6, n6, c6, rfl, hx6, hl6⟩
      have B6 := Lib.hid hb6
      have HX6 := Lib.hid hx6
      have HL6 := Lib.hid hl6
      clear hb6 hx6 hl6
      go_wp2_with fail
      with_reducible refine (HS2.out _ B6.out).mono ?_
      rintro e w7 ⟨hb7, X7, n7, c7, rfl, hx7, hl7⟩
      have B7 : Hid (Below wr.heap.size wr w7) := hop B6.out hb7
      have HPA := Lib.hid (pairs_kv (c := c6) (d := c7) HL6.out hl7 (by have := HL6.out; have := HL9.out; omega) (HX6.out w7 (.of_below hb7 _)) (hx7 w7 (.refl _ _)))
      clear hb7 hx7 hl7
      go_wp2_with fail
      with_reducible refine HPA.out.mono ?_
      rintro e w8 ⟨rfl, hb8⟩
      have B8 : Hid (Below wr.heap.size wr w8) := hop B7.out hb8
      clear hb8 HPA
      go_wp2_with fail
      with_reducible refine (HPR.out _ B8.out).mono ?_
      rintro e w9 ⟨hb9, X9, n9, c9, rfl, hx9, hl9⟩
      have B9 : Hid (Below wr.heap.size wr w9) := hop B8.out hb9
      have HX9 := Lib.hid hx9
      have HL9' := Lib.hid hl9
      clear hb9 hx9 hl9
      go_wp2_with fail
      with_reducible refine (HBH.out _ B9.out).mono ?_
      rintro e w10 ⟨A10, n10, c10, rfl, hn10, hs10, hb10⟩
      have B10 : Hid (Below wr.heap.size wr w10) := hop B9.out hb10
      have HX10 := Lib.hid (HX9.out.below hb10)
      have HSQ := Lib.hid (HSP.out w10 B10.out A10 n10 c10 hs10 hn10)
      clear hn10 hs10 hb10 HX9
      go_wp2_with fail
      with_reducible refine HSQ.out.mono ?_
      rintro e w11 ⟨hb11, X11, n11, c11, rfl, hx11, hl11⟩
      have B11 : Hid (Below wr.heap.size wr w11) := hop B10.out hb11
      have HPA := Lib.hid (pairs_kv (c := c9) (d := c11) HL9'.out hl11 (by have := HL9'.out; have := HPL.out; omega) (HX10.out.below hb11) hx11)
      clear hb11 hx11 hl11 HSQ
      go_wp2_with fail
      with_reducible refine HPA.out.mono ?_
      rintro e w12 ⟨rfl, hb12⟩
      have BE : Hid (Below w.heap.size w w12) := hop HBE.out (hop B11.out hb12)
      clear hb12
      go_wp2_with fail
      go_ret
      exact ⟨rfl, BE.out⟩
end Go.Proofs.YtdaahapbpnjkfaaGreat
