/-
  The statement KvWhole: wherever the power goes out, and whatever is kept, the pairs then are those of the first so many batches that could be done, with all that were told to be done. Condition: the row's own.
-/
import Derived.Test.YtdaahapbpnjkfaaGreatCKvOpened
import Derived.Test.YtdaahapbpnjkfaaGreatCKvRows
import Derived.Test.YtdaahapbpnjkfaaGreatCKvRun
import Derived.Test.YtdaahapbpnjkfaaGreatCKvShows
namespace Go.Proofs.YtdaahapbpnjkfaaGreat
open Go.RowKit
theorem or_case {L M N : List Kv} (h : L = M ∨ L = N) : decide (L = M) = true ∨ (decide (L = M) = false ∧ decide (L = N) = true) := by
  by_cases h1 : L = M
  · exact .inl (decide_eq_true h1)
  · exact .inr ⟨decide_eq_false h1, decide_eq_true (h.resolve_left h1)⟩
set_option maxRecDepth 100000 in
set_option maxHeartbeats 4000000 in
theorem kvWhole_walk (y : Int) (A : Option Addr) (l : List PRow) (c : Nat) (z : Int) (A2 : Option Addr) (ps : List Int) (cp : Nat) (A3 : Option Addr) (cs : List Int) (cc : Nat) (w : World) (y0 : -9223372036854775808 ≤ y) (y1 : y ≤ 9223372036854775807) (_hl : l.length ≤ 9223372036854775807) (hs : RowsSeen w A l) (_hc : l.length ≤ c) (_z0 : -9223372036854775808 ≤ z) (z1 : z ≤ 9223372036854775807)
    (hp9 : ps.length ≤ 9223372036854775807) (hp : Ints w A2 ps) (hpb : ∀ x ∈ ps, -9223372036854775808 ≤ x ∧ x ≤ 9223372036854775807) (_hc9 : cs.length ≤ 9223372036854775807) (hcs : Ints w A3 cs) (hcb : ∀ x ∈ cs, -9223372036854775808 ≤ x ∧ x ≤ 9223372036854775807) :
    Calls Tryz.prog 4 #[.int .i64 y, .slice A l.length c, .int .i64 z, .slice A2 ps.length cp, .slice A3 cs.length cc] w fun e w' => e = .returned (.bool true) ∧ Below w.heap.size w w' := by
  have HS := Lib.hid hs
  have HZ := Lib.hid z1
  obtain ⟨n, hn⟩ : ∃ n, n = l.length := ⟨_, rfl⟩
  have HN : Hid (l.length = n) := hn.symm
  obtain ⟨np, hnp⟩ : ∃ n, n = ps.length := ⟨_, rfl⟩
  obtain ⟨nc, hnc⟩ : ∃ n, n = cs.length := ⟨_, rfl⟩
  rw [← hn, ← hnp, ← hnc]
  have HBA : Hid (∀ W, Below w.heap.size w W → Calls Tryz.prog 25 #[.slice A n c] W fun e w' => e = .returned (.bool (batchesB l)) ∧ W = w') := fun W hW => batches_any A l n c W hn.symm (hs.below hW)
  obtain ⟨ok, hok⟩ : ∃ ok, ok = batchesB l := ⟨_, rfl⟩
  rw [← hok] at HBA
  have HOK := Lib.hid hok
  have HOPA : Hid (∀ (W : World) (g gm gn h : Nat) (s : Dsk) (M N : List Kv) (m : Nat), KDisk w W g gm gn s M N m → (∀ p, ∃ L, KHas (s.crash p) h L ∧ (L = M ∨ L = N)) → h = s.K.length / 2 → s.K.length ≤ 400 → m ≤ 680000 →
      Calls Tryz.prog 29 #[.pointer (some ⟨g, 0, none⟩), .slice A2 np cp, .slice A3 nc cc] W (OpenedOut w gm gn M N)) := fun W g gm gn h s M N m k1 k2 k3 k4 k5 => opened_any k1 k2 k3 k4 k5 hp hnp.symm (by omega) hpb hcs hnc.symm hcb
  clear hs hn hok hp hpb hcs hcb hnp hnc hp9 _hc9 z1 _z0
  go_enter Tryz.func4, Tryz.ntmps4
  go_wp2_with fail
  with_reducible refine (awake_any _).mono ?_
  rintro e w1 ⟨rfl, hb1⟩
  have B1 := Lib.hid hb1
  clear hb1
  go_wp2_with fail
  with_reducible refine (HBA.out _ B1.out).mono ?_
  rintro e w2 ⟨rfl, hw2⟩
  obtain rfl := hw2
  by_cases hbad : ok = false ∨ y < 2 ∨ 200 < y
  · have hdone : ok = false ∨ (ok = true ∧ y < 2) ∨ (ok = true ∧ ¬ y < 2 ∧ 200 < y) := by
      rcases Bool.eq_false_or_eq_true ok with h | h
      · right
        rcases hbad with h0 | hbad
        · rw [h] at h0; cases h0
        · by_cases h2 : y < 2
          · exact .inl ⟨h, h2⟩
          · exact .inr ⟨h, h2, by omega⟩
      · exact .inl h
    clear hbad
    rcases hdone with rfl | ⟨rfl, g1⟩ | ⟨rfl, g1, g2⟩
    · go_wp2_with fail
      go_ret
      exact ⟨rfl, B1.out⟩
    · have d1 : decide (y < 2) = true := decide_eq_true g1
      go_wp2_with fail
      go_ret
      exact ⟨rfl, B1.out⟩
    · have d1 : decide (y < 2) = false := decide_eq_false g1
      have d2 : decide (200 < y) = true := decide_eq_true g2
      go_wp2_with fail
      go_ret
      exact ⟨rfl, B1.out⟩
  obtain rfl : ok = true := by cases ok <;> simp_all
  obtain ⟨nb, rfl⟩ : ∃ nb : Nat, y = (nb : Int) := ⟨y.toNat, by omega⟩
  have hb2 : 2 ≤ nb ∧ nb ≤ 200 := by omega
  have g1 : ¬ (nb : Int) < 2 := by omega
  have g2 : ¬ (200 : Int) < (nb : Int) := by omega
  have d1 : decide ((nb : Int) < 2) = false := decide_eq_false g1
  have d2 : decide ((200 : Int) < (nb : Int)) = false := decide_eq_false g2
  have HALL := Lib.hid (batchesB_true HOK.out.symm)
  have hn40 : n ≤ 40 := by have := HALL.out.1; have := HN.out; omega
  have HB2 := Lib.hid hb2
  have HNEW := Lib.hid (new_any w1 nb (by omega) (by omega))
  clear hbad y0 y1 hb2 HOK HBA
  go_wp2_with fail
  with_reducible refine HNEW.out.mono ?_
  rintro e w2 ⟨g, F, rfl, hd, hF, hb⟩
  have HAR := Lib.hid (arm_any w2 g F _ z hd)
  have HFF : Hid (∀ k, F k → w.heap.size ≤ k) := fun k hk => Nat.le_trans B1.out.size (hF k hk)
  have B2 := Lib.hid (hop B1.out hb)
  clear hd hF hb HNEW
  go_wp2_with fail
  with_reducible refine HAR.out.mono ?_
  rintro e w3 ⟨rfl, F3, hd3, hs3, hF3⟩
  have HOP := Lib.hid (kopen_arm (w0 := w) hd3 HZ.out HB2.out.1 (by have := HB2.out.2; omega) (hs3.below B2.out HFF.out) (fun k hk => (hF3 k hk).elim (HFF.out k) (fun h => Nat.le_trans B2.out.size h)))
  clear hd3 hs3 hF3 HAR
  go_wp2_with fail
  with_reducible refine HOP.out.mono ?_
  rintro e w4 ⟨s, hsK, hout⟩
  have HSK := Lib.hid hsK
  have HEM := Lib.hid (rempty_any w4)
  clear hsK HOP g1 g2 d1 d2
  rcases hout with ⟨q, a, gen, ds, rfl, hup, hon⟩ | ⟨rfl, hkd, hcr⟩
  · have HUP := Lib.hid hup
    have HON := Lib.hid hon
    clear hup hon
    go_wp2_with fail
    with_reducible refine HEM.out.mono ?_
    rintro e w5 ⟨rfl, hw5⟩
    have KD := Lib.hid HUP.out.empty
    rw [← hw5] at KD
    generalize w4.heap.size = gm at *
    clear hw5 HEM HUP
    go_wp2_with fail
    go_loopw [17, 18, 19] (fun u v x wr => ∃ (k gm : Nat) (s : Dsk) (a : Nat) (gen : Int) (ds : List (List UInt8)) (L : List Kv), k ≤ n ∧ u = .pointer (some ⟨gm, 0, none⟩) ∧ v = .pointer (some ⟨gm, 0, none⟩) ∧ x = .int .i64 (k : Int) ∧ s.K.length = nb ∧ KDown w wr g q gm (nb / 2) s (kvAt (nb / 2) a gen ds L) L (1100 * k + 1100) ∧ KvOn s (nb / 2) a gen ds L) (fun _ _ x _ => n - (intOf x).toNat)
    case atStart => exact ⟨0, gm, s, a, gen, ds, [], by omega, rfl, rfl, rfl, HSK.out, KD.out, HON.out⟩
    case round =>
      rename World => wr
      obtain ⟨k, gm, s, a, gen, ds, L, hk, rfl, rfl, rfl, hsK, hkd, hon⟩ := hrel
      have KK := Lib.hid hkd
      have HSK2 := Lib.hid hsK
      have HON2 := Lib.hid hon
      clear hkd hsK hon KD HSK HON
      by_cases hlt : k < n
      · have hkl : (k : Int) < (n : Int) := by omega
        have hkn : k < l.length := by have := HN.out; omega
        obtain ⟨bl, off, rfl, hps, hcp1, hcp2, hcell⟩ := HS.out.at_ k hkn
        have hfew := HALL.out.2 k hkn
        obtain ⟨⟨A1, pu, c1⟩, hq⟩ : ∃ q, q = l[k] := ⟨_, rfl⟩
        rw [← hq] at hps hcell hfew
        obtain ⟨n1, hn1⟩ : ∃ n1, pu.length = n1 := ⟨_, rfl⟩
        have hps' : PutsSeen w A1 pu := hps
        have HCL : Hid (∀ W, Below w.heap.size w W → W.cell? ⟨bl, off + k, none⟩ = some (.slice A1 n1 c1)) := fun W hW => by rw [← hn1]; exact hcell W hW
        have hfv : FewV (valsOf pu) := ⟨by rw [valsOf_length]; exact hfew.1, fun p hp => by
          obtain ⟨x, hx, rfl⟩ := List.mem_map.1 hp
          exact hfew.2 x hx⟩
        have HFV := Lib.hid hfv
        have HPS := Lib.hid hps'
        have HN1 := Lib.hid hn1
        have HSM := Lib.hid (on_small HON2.out (by have := HB2.out.2; have := HSK2.out; omega))
        have HCM := Lib.hid (KK.out.commit (c := c1) HON2.out (by have := HB2.out.2; have := HSK2.out; omega) (by omega) hps' hn1 hfv)
        have o0 := HCL.out wr KK.out.below
        have hwi : IntKind.i64.wrap ((k : Int) + 1) = ((k + 1 : Nat) : Int) := by rw [IntKind.wrap_i64]; omega
        have HKK : Hid (1100 * k + 1100 + 1100 = 1100 * (k + 1) + 1100) := by show _ = _; omega
        clear hps hcell hfew hq hps' hfv hn1 hcp1 hcp2 hkn
        go_wp2_with fail
        with_reducible refine HCM.out.mono ?_
        rintro e w5 ⟨E, s5, k5, rfl, hk5, hs5, hcq⟩
        have HS5 : Hid (s5.K.length = nb) := by show _ = _; rw [hs5]; exact HSK2.out
        have o1 := HCL.out w5 hk5.below
        have HDO := Lib.hid (hk5.do_ (c := c1) HPS.out HN1.out HFV.out HSM.out.1 HSM.out.2)
        have HK5 := Lib.hid hk5
        clear hk5 hs5 HCM
        rcases hcq with ⟨rfl, a5, gen5, ds5, hon5, rfl⟩ | ⟨rfl, a5, gen5, ds5, hon5, rfl⟩ | ⟨rfl, hcr⟩
        · have HON5 := Lib.hid hon5
          clear hon5
          go_wp2_with fail
          with_reducible refine HDO.out.mono ?_
          rintro e w6 ⟨gc, rfl, hk6, _, _⟩
          have K6 := Lib.hid hk6
          clear hk6 HDO
          go_wp2_with fail
          go_roundw
          case rel => exact ⟨k + 1, gc, s5, a5, gen5, ds5, _, by omega, rfl, rfl, by go_num, HS5.out, by have h9 := K6.out; rw [HKK.out] at h9; exact h9, HON5.out⟩
          case measure => simp [intOf]; omega
        · have HON5 := Lib.hid hon5
          clear hon5
          go_wp2_with fail
          with_reducible refine HDO.out.mono ?_
          rintro e w6 ⟨gc, rfl, _, _, hb6⟩
          have K6 := Lib.hid (HK5.out.still hb6)
          clear hb6 HDO HK5
          go_wp2_with fail
          go_roundw
          case rel => exact ⟨k + 1, gm, s5, a5, gen5, ds5, L, by omega, rfl, rfl, by go_num, HS5.out, by have h9 := K6.out; rw [HKK.out] at h9; exact h9, HON5.out⟩
          case measure => simp [intOf]; omega
        · have HCR5 := Lib.hid hcr
          clear hcr
          go_wp2_with fail
          with_reducible refine HDO.out.mono ?_
          rintro e w6 ⟨gc, rfl, _, hk6, _⟩
          have HOPN := Lib.hid (HOPA.out _ _ _ _ (nb / 2) _ _ _ _ hk6 HCR5.out (by rw [HS5.out]) (by have := HB2.out.2; have := HS5.out; omega) (by omega))
          clear hk6 HDO
          go_wp2_with fail
          with_reducible refine HOPN.out.mono ?_
          rintro e w7 ⟨q7, L7, h7, s7, k7, T7, g7, b7, gt7, F7, U7, V7, rfl, hLM, hkL, hl9, hps, hU, hV, hb7⟩
          obtain ⟨x1, hx1⟩ : ∃ x, x = decide (k7.L = L) := ⟨_, rfl⟩
          obtain ⟨x2, hx2⟩ : ∃ x, x = decide (k7.L = (doAll (valsOf pu) L)) := ⟨_, rfl⟩
          have HX : Hid (x1 = true ∨ (x1 = false ∧ x2 = true)) := by show _ ∨ _; rw [hx1, hx2, hkL]; exact or_case hLM
          have HSA := Lib.hid (shows_any hps hU (by rw [hkL]; exact hl9))
          have HSB : Hid (∀ W, Below w7.heap.size w7 W → Calls Tryz.prog 30 #[.pointer (some ⟨q7, 0, none⟩), .pointer (some ⟨gc, 0, none⟩)] W fun e w' => e = .returned (.bool (decide (k7.L = (doAll (valsOf pu) L)))) ∧ Below W.heap.size W w') := fun W hb => shows_any (hps.below hb) (hV.below hb) (by rw [hkL]; exact hl9)
          rw [← hx1] at HSA
          rw [← hx2] at HSB
          have B7 := Lib.hid hb7
          clear hLM hkL hl9 hps hU hV hb7 hx1 hx2 HOPN
          go_wp2_with fail
          with_reducible refine HSA.out.mono ?_
          rintro e w8 ⟨rfl, hb8⟩
          have HSB2 := Lib.hid (HSB.out w8 hb8)
          have B8 := Lib.hid hb8
          clear hb8 HSB HSA
          go_wp2_with fail
          with_reducible refine HSB2.out.mono ?_
          rintro e w9 ⟨rfl, hb9⟩
          have B9 := Lib.hid (hop (hop B7.out B8.out) hb9)
          clear hb9 HSB2
          rcases HX.out with rfl | ⟨rfl, rfl⟩
          · go_wp2_with fail
            go_ret
            exact ⟨rfl, B9.out⟩
          · go_wp2_with fail
            go_ret
            exact ⟨rfl, B9.out⟩
      · obtain rfl : k = n := by omega
        have hkl : ¬ (k : Int) < (k : Int) := by omega
        have HOPN := Lib.hid (HOPA.out _ _ _ _ (nb / 2) _ _ _ _ KK.out.disk (fun p => ⟨L, .inr ⟨a, gen, ds, HON2.out.crash p⟩, .inl rfl⟩) (by rw [HSK2.out]) (by have := HB2.out.2; have := HSK2.out; omega) (by omega))
        go_wp2_with fail
        with_reducible refine HOPN.out.mono ?_
        rintro e w7 ⟨q7, L7, h7, s7, k7, T7, g7, b7, gt7, F7, U7, V7, rfl, hLM, hkL, hl9, hps, hU, hV, hb7⟩
        obtain ⟨x1, hx1⟩ : ∃ x, x = decide (k7.L = L) := ⟨_, rfl⟩
        obtain ⟨x2, hx2⟩ : ∃ x, x = decide (k7.L = L) := ⟨_, rfl⟩
        have HX : Hid (x1 = true ∨ (x1 = false ∧ x2 = true)) := by show _ ∨ _; rw [hx1, hx2, hkL]; exact or_case hLM
        have HSA := Lib.hid (shows_any hps hU (by rw [hkL]; exact hl9))
        have HSB : Hid (∀ W, Below w7.heap.size w7 W → Calls Tryz.prog 30 #[.pointer (some ⟨q7, 0, none⟩), .pointer (some ⟨gm, 0, none⟩)] W fun e w' => e = .returned (.bool (decide (k7.L = L))) ∧ Below W.heap.size W w') := fun W hb => shows_any (hps.below hb) (hV.below hb) (by rw [hkL]; exact hl9)
        rw [← hx1] at HSA
        rw [← hx2] at HSB
        have B7 := Lib.hid hb7
        clear hLM hkL hl9 hps hU hV hb7 hx1 hx2 HOPN
        go_wp2_with fail
        with_reducible refine HSA.out.mono ?_
        rintro e w8 ⟨rfl, hb8⟩
        have HSB2 := Lib.hid (HSB.out w8 hb8)
        have B8 := Lib.hid hb8
        clear hb8 HSB HSA
        go_wp2_with fail
        with_reducible refine HSB2.out.mono ?_
        rintro e w9 ⟨rfl, hb9⟩
        have B9 := Lib.hid (hop (hop B7.out B8.out) hb9)
        clear hb9 HSB2
        rcases HX.out with rfl | ⟨rfl, rfl⟩
        · go_wp2_with fail
          go_ret
          exact ⟨rfl, B9.out⟩
        · go_wp2_with fail
          go_ret
          exact ⟨rfl, B9.out⟩
  · have HKD := Lib.hid hkd
    have HCR := Lib.hid hcr
    clear hkd hcr
    go_wp2_with fail
    with_reducible refine HEM.out.mono ?_
    rintro e w5 ⟨rfl, hw5⟩
    rw [← hw5] at HKD
    generalize w4.heap.size = gm at *
    clear hw5 HEM
    have HOPN := Lib.hid (HOPA.out _ _ _ _ (nb / 2) _ _ _ _ HKD.out (fun p => ⟨[], HCR.out p, .inl rfl⟩) (by rw [HSK.out]) (by have := HB2.out.2; have := HSK.out; omega) (by omega))
    go_wp2_with fail
    go_loopw [17, 18, 19] (fun u v x wr => u = .pointer (some ⟨gm, 0, none⟩) ∧ v = .pointer (some ⟨gm, 0, none⟩) ∧ x = .int .i64 0 ∧ wr = w5) (fun _ _ _ _ => 0)
    case atStart => exact ⟨rfl, rfl, rfl, rfl⟩
    case round =>
      rename World => wr
      obtain ⟨rfl, rfl, rfl, hwr⟩ := hrel
      obtain rfl := hwr.symm
      by_cases h0 : 0 < n
      · have e1 : (0 : Int) < (n : Int) := by omega
        go_wp2_with fail
        with_reducible refine HOPN.out.mono ?_
        rintro e w7 ⟨q7, L7, h7, s7, k7, T7, g7, b7, gt7, F7, U7, V7, rfl, hLM, hkL, hl9, hps, hU, hV, hb7⟩
        obtain ⟨x1, hx1⟩ : ∃ x, x = decide (k7.L = ([] : List Kv)) := ⟨_, rfl⟩
        obtain ⟨x2, hx2⟩ : ∃ x, x = decide (k7.L = ([] : List Kv)) := ⟨_, rfl⟩
        have HX : Hid (x1 = true ∨ (x1 = false ∧ x2 = true)) := by show _ ∨ _; rw [hx1, hx2, hkL]; exact or_case hLM
        have HSA := Lib.hid (shows_any hps hU (by rw [hkL]; exact hl9))
        have HSB : Hid (∀ W, Below w7.heap.size w7 W → Calls Tryz.prog 30 #[.pointer (some ⟨q7, 0, none⟩), .pointer (some ⟨gm, 0, none⟩)] W fun e w' => e = .returned (.bool (decide (k7.L = ([] : List Kv)))) ∧ Below W.heap.size W w') := fun W hb => shows_any (hps.below hb) (hV.below hb) (by rw [hkL]; exact hl9)
        rw [← hx1] at HSA
        rw [← hx2] at HSB
        have B7 := Lib.hid hb7
        clear hLM hkL hl9 hps hU hV hb7 hx1 hx2 HOPN
        go_wp2_with fail
        with_reducible refine HSA.out.mono ?_
        rintro e w8 ⟨rfl, hb8⟩
        have HSB2 := Lib.hid (HSB.out w8 hb8)
        have B8 := Lib.hid hb8
        clear hb8 HSB HSA
        go_wp2_with fail
        with_reducible refine HSB2.out.mono ?_
        rintro e w9 ⟨rfl, hb9⟩
        have B9 := Lib.hid (hop (hop B7.out B8.out) hb9)
        clear hb9 HSB2
        rcases HX.out with rfl | ⟨rfl, rfl⟩
        · go_wp2_with fail
          go_ret
          exact ⟨rfl, B9.out⟩
        · go_wp2_with fail
          go_ret
          exact ⟨rfl, B9.out⟩
      · have e1 : ¬ (0 : Int) < (n : Int) := by omega
        go_wp2_with fail
        with_reducible refine HOPN.out.mono ?_
        rintro e w7 ⟨q7, L7, h7, s7, k7, T7, g7, b7, gt7, F7, U7, V7, rfl, hLM, hkL, hl9, hps, hU, hV, hb7⟩
        obtain ⟨x1, hx1⟩ : ∃ x, x = decide (k7.L = ([] : List Kv)) := ⟨_, rfl⟩
        obtain ⟨x2, hx2⟩ : ∃ x, x = decide (k7.L = ([] : List Kv)) := ⟨_, rfl⟩
        have HX : Hid (x1 = true ∨ (x1 = false ∧ x2 = true)) := by show _ ∨ _; rw [hx1, hx2, hkL]; exact or_case hLM
        have HSA := Lib.hid (shows_any hps hU (by rw [hkL]; exact hl9))
        have HSB : Hid (∀ W, Below w7.heap.size w7 W → Calls Tryz.prog 30 #[.pointer (some ⟨q7, 0, none⟩), .pointer (some ⟨gm, 0, none⟩)] W fun e w' => e = .returned (.bool (decide (k7.L = ([] : List Kv)))) ∧ Below W.heap.size W w') := fun W hb => shows_any (hps.below hb) (hV.below hb) (by rw [hkL]; exact hl9)
        rw [← hx1] at HSA
        rw [← hx2] at HSB
        have B7 := Lib.hid hb7
        clear hLM hkL hl9 hps hU hV hb7 hx1 hx2 HOPN
        go_wp2_with fail
        with_reducible refine HSA.out.mono ?_
        rintro e w8 ⟨rfl, hb8⟩
        have HSB2 := Lib.hid (HSB.out w8 hb8)
        have B8 := Lib.hid hb8
        clear hb8 HSB HSA
        go_wp2_with fail
        with_reducible refine HSB2.out.mono ?_
        rintro e w9 ⟨rfl, hb9⟩
        have B9 := Lib.hid (hop (hop B7.out B8.out) hb9)
        clear hb9 HSB2
        rcases HX.out with rfl | ⟨rfl, rfl⟩
        · go_wp2_with fail
          go_ret
          exact ⟨rfl, B9.out⟩
        · go_wp2_with fail
          go_ret
          exact ⟨rfl, B9.out⟩
end Go.Proofs.YtdaahapbpnjkfaaGreat
