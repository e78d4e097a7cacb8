/-
  The statement KvTurns: the turn grows, as far as batches need more room, and never shrinks; behind each opening it is the same. Condition: the row's own.
-/
import Derived.Test.YtdaahapbpnjkfaaGreatCKvAgain
namespace Go.Proofs.YtdaahapbpnjkfaaGreat
open Go.RowKit
set_option maxRecDepth 100000 in
set_option maxHeartbeats 4000000 in
theorem kvTurns_walk (y : Int) (A : Option Addr) (l : List PRow) (c : Nat) (w : World) (y0 : -9223372036854775808 ≤ y) (y1 : y ≤ 9223372036854775807) (_hl : l.length ≤ 9223372036854775807) (hs : RowsSeen w A l) (_hc : l.length ≤ c) :
    Calls Tryz.prog 8 #[.int .i64 y, .slice A l.length c] w fun e w' => e = .returned (.bool true) ∧ Below w.heap.size w w' := by
  have HS := Lib.hid hs
  obtain ⟨n, hn⟩ : ∃ n, n = l.length := ⟨_, rfl⟩
  have HN : Hid (l.length = n) := hn.symm
  rw [← hn]
  have HBA : Hid (∀ W, Below w.heap.size w W → Calls Tryz.prog 25 #[.slice A n c] W fun e w' => e = .returned (.bool (batchesB l)) ∧ W = w') := fun W hW => batches_any A l n c W hn.symm (hs.below hW)
  obtain ⟨ok, hok⟩ : ∃ ok, ok = batchesB l := ⟨_, rfl⟩
  rw [← hok] at HBA
  have HOK := Lib.hid hok
  clear hs hn hok
  go_enter Tryz.func8, Tryz.ntmps8
  go_wp2_with fail
  with_reducible refine (awake_any _).mono ?_
  rintro e w1 ⟨rfl, hb1⟩
  have B1 := Lib.hid hb1
  clear hb1
  go_wp2_with fail
  with_reducible refine (HBA.out _ B1.out).mono ?_
  rintro e w2 ⟨rfl, hw2⟩
  obtain rfl := hw2
  by_cases hbad : ok = false ∨ y < 2 ∨ 200 < y
  · have hdone : ok = false ∨ (ok = true ∧ y < 2) ∨ (ok = true ∧ ¬ y < 2 ∧ 200 < y) := by
      rcases Bool.eq_false_or_eq_true ok with h | h
      · right
        rcases hbad with h0 | hbad
        · rw [h] at h0; cases h0
        · by_cases h2 : y < 2
          · exact .inl ⟨h, h2⟩
          · exact .inr ⟨h, h2, by omega⟩
      · exact .inl h
    clear hbad
    rcases hdone with rfl | ⟨rfl, g1⟩ | ⟨rfl, g1, g2⟩
    · go_wp2_with fail
      go_ret
      exact ⟨rfl, B1.out⟩
    · have d1 : decide (y < 2) = true := decide_eq_true g1
      go_wp2_with fail
      go_ret
      exact ⟨rfl, B1.out⟩
    · have d1 : decide (y < 2) = false := decide_eq_false g1
      have d2 : decide (200 < y) = true := decide_eq_true g2
      go_wp2_with fail
      go_ret
      exact ⟨rfl, B1.out⟩
  obtain rfl : ok = true := by cases ok <;> simp_all
  obtain ⟨nb, rfl⟩ : ∃ nb : Nat, y = (nb : Int) := ⟨y.toNat, by omega⟩
  have hb2 : 2 ≤ nb ∧ nb ≤ 200 := by omega
  have g1 : ¬ (nb : Int) < 2 := by omega
  have g2 : ¬ (200 : Int) < (nb : Int) := by omega
  have d1 : decide ((nb : Int) < 2) = false := decide_eq_false g1
  have d2 : decide ((200 : Int) < (nb : Int)) = false := decide_eq_false g2
  have HALL := Lib.hid (batchesB_true HOK.out.symm)
  have hn40 : n ≤ 40 := by have := HALL.out.1; have := HN.out; omega
  have HB2 := Lib.hid hb2
  have HNEW := Lib.hid (new_any w1 nb (by omega) (by omega))
  clear hbad y0 y1 hb2 HOK HBA
  go_wp2_with fail
  with_reducible refine HNEW.out.mono ?_
  rintro e w2 ⟨g, F, rfl, hd, hF, hb⟩
  have HOP := Lib.hid (kopen_new (w0 := w) hd HB2.out.1 (by have := HB2.out.2; omega) (hop B1.out hb) (fun k hk => Nat.le_trans B1.out.size (hF k hk)))
  clear hd hF hb HNEW
  go_wp2_with fail
  with_reducible refine HOP.out.mono ?_
  rintro e w3 ⟨q, s, rfl, hsK, hk⟩
  have K3 := Lib.hid hk
  have HSK := Lib.hid hsK
  have HEM := Lib.hid (rempty_any w3)
  have HT0 := Lib.hid K3.out.turn
  clear hk hsK HOP g1 g2 d1 d2
  go_wp2_with fail
  with_reducible refine HT0.out.mono ?_
  rintro e w4 ⟨rfl, hw4⟩
  obtain rfl := hw4.symm
  go_wp2_with fail
  with_reducible refine HEM.out.mono ?_
  rintro e w4 ⟨rfl, hw4⟩
  have KD := Lib.hid K3.out.empty
  rw [← hw4] at KD
  generalize w3.heap.size = gm at *
  clear hw4 HEM
  go_wp2_with fail
  go_loopw [11, 12] (fun u v wr => ∃ (k gm : Nat) (s : Dsk) (a : Nat) (gen : Int) (ds : List (List UInt8)) (L : List Kv), k ≤ n ∧ u = .pointer (some ⟨gm, 0, none⟩) ∧ v = .int .i64 (k : Int) ∧ s.K.length = nb ∧ KDoc w wr g q gm (nb / 2) s a gen ds L L (1100 * k + 1100)) (fun _ v _ => n - (intOf v).toNat)
  case atStart => exact ⟨0, gm, s, 0, 1, _, [], by omega, rfl, rfl, HSK.out, KD.out⟩
  case round =>
    obtain ⟨k, gm, s, a, gen, ds, L, hk, rfl, rfl, hsK, hkd⟩ := hrel
    have KK := Lib.hid hkd
    have HSK2 := Lib.hid hsK
    clear hkd hsK KD HSK
    by_cases hlt : k < n
    · have hkl : (k : Int) < (n : Int) := by omega
      have hkn : k < l.length := by have := HN.out; omega
      obtain ⟨bl, off, rfl, hps, hcp1, hcp2, hcell⟩ := HS.out.at_ k hkn
      have hfew := HALL.out.2 k hkn
      obtain ⟨⟨A1, ps, c1⟩, hq⟩ : ∃ q, q = l[k] := ⟨_, rfl⟩
      rw [← hq] at hps hcell hfew
      obtain ⟨n1, hn1⟩ : ∃ n1, ps.length = n1 := ⟨_, rfl⟩
      have hps' : PutsSeen w A1 ps := hps
      have HCL : Hid (∀ W, Below w.heap.size w W → W.cell? ⟨bl, off + k, none⟩ = some (.slice A1 n1 c1)) := fun W hW => by rw [← hn1]; exact hcell W hW
      have hfv : FewV (valsOf ps) := ⟨by rw [valsOf_length]; exact hfew.1, fun p hp => by
        obtain ⟨x, hx, rfl⟩ := List.mem_map.1 hp
        exact hfew.2 x hx⟩
      have HFV := Lib.hid hfv
      have HPS := Lib.hid hps'
      have HN1 := Lib.hid hn1
      have hsm := KK.out.live.small (by have := HB2.out.2; have := HSK2.out; omega)
      have HSM := Lib.hid hsm
      have HTK := Lib.hid KK.out.live.turn
      have hg12 : 1 ≤ gen ∧ gen ≤ 1152921504606846976 := ⟨KK.out.live.on.has.g1, KK.out.live.on.has.g2⟩
      have hwg : IntKind.i64.wrap (gen + 1) = gen + 1 := by rw [IntKind.wrap_i64]; omega
      have HCM := Lib.hid (KK.out.commit (c := c1) (by have := HB2.out.2; have := HSK2.out; omega) (by omega) hps' hn1 hfv)
      have o0 := HCL.out wr KK.out.live.below
      have hwi : IntKind.i64.wrap ((k : Int) + 1) = ((k + 1 : Nat) : Int) := by rw [IntKind.wrap_i64]; omega
      have HKK : Hid (1100 * k + 1100 + 1100 = 1100 * (k + 1) + 1100) := by show _ = _; omega
      clear hps hcell hfew hq hps' hfv hn1 hcp1 hcp2 hkn hsm hg12
      go_wp2_with fail
      with_reducible refine HTK.out.mono ?_
      rintro e w5 ⟨rfl, hw5⟩
      obtain rfl := hw5.symm
      go_wp2_with fail
      with_reducible refine HCM.out.mono ?_
      rintro e w5 ⟨E, s5, a5, gen5, ds5, L5, rfl, hk5, hs5, hcq⟩
      have K5 := Lib.hid hk5
      have HS5 : Hid (s5.K.length = nb) := by show _ = _; rw [hs5]; exact HSK2.out
      have HK4 : Hid (s5.K.length ≤ 400) := by have := HB2.out.2; have := HS5.out; show _ ≤ _; omega
      have o1 := HCL.out w5 hk5.live.below
      clear hk5 hs5 HCM HTK
      rcases hcq with ⟨rfl, hL, hg1, hg2⟩ | ⟨rfl, _, _, hg, _, hL⟩
      · have HL := Lib.hid hL
        have g1 : decide (gen5 < gen) = false := decide_eq_false (by omega)
        have g2 : decide (gen + 1 < gen5) = false := decide_eq_false (by omega)
        have HDO := Lib.hid (K5.out.do_ (c := c1) HPS.out HN1.out HFV.out HSM.out.1 HSM.out.2)
        clear hL hg1 hg2
        go_wp2_with fail
        with_reducible refine HDO.out.mono ?_
        rintro e w6 ⟨gc, rfl, hk6, _⟩
        have K6 := Lib.hid hk6
        have HOJ := Lib.hid (hk6.live.open_ HK4.out (by omega))
        clear hk6 HDO
        go_wp2_with fail
        with_reducible refine HOJ.out.mono ?_
        rintro e w7 ⟨q7, rfl, hk7, hb7⟩
        have K7 := Lib.hid hk7
        have KD7 := Lib.hid (K6.out.still hb7)
        have HT1 := Lib.hid hk7.turn
        have HT2 := Lib.hid KD7.out.live.turn
        have HL9 : Hid (L5.length ≤ 99999) := by have := (hk7.small HK4.out).1; show _ ≤ _; omega
        have HSH := Lib.hid (KD7.out.shows hk7 HL9.out)
        rw [decide_eq_true HL.out] at HSH
        clear hk7 hb7 HOJ
        go_wp2_with fail
        with_reducible refine HT1.out.mono ?_
        rintro e w9 ⟨rfl, hw9⟩
        obtain rfl := hw9.symm
        go_wp2_with fail
        with_reducible refine HT2.out.mono ?_
        rintro e w9 ⟨rfl, hw9⟩
        obtain rfl := hw9.symm
        go_wp2_with fail
        with_reducible refine HT2.out.mono ?_
        rintro e w9 ⟨rfl, hw9⟩
        obtain rfl := hw9.symm
        go_wp2_with fail
        with_reducible refine HT2.out.mono ?_
        rintro e w9 ⟨rfl, hw9⟩
        obtain rfl := hw9.symm
        go_wp2_with fail
        with_reducible refine HSH.out.mono ?_
        rintro e w8 ⟨rfl, hb8⟩
        have KD8 := Lib.hid (KD7.out.still hb8)
        clear hb8 HSH
        go_wp2_with fail
        go_roundw
        case rel => exact ⟨k + 1, gc, s5, a5, gen5, ds5, L5, by omega, rfl, by go_num, HS5.out, by have h9 := KD8.out; rw [← HL.out, HKK.out] at h9; exact h9⟩
        case measure => simp [intOf]; omega
      · have HL := Lib.hid hL
        subst hg
        have g1 : decide (gen5 < gen5) = false := decide_eq_false (by omega)
        have g2 : decide (gen5 + 1 < gen5) = false := decide_eq_false (by omega)
        have HOJ := Lib.hid (K5.out.live.open_ HK4.out (by omega))
        clear hL
        go_wp2_with fail
        with_reducible refine HOJ.out.mono ?_
        rintro e w7 ⟨q7, rfl, hk7, hb7⟩
        have K7 := Lib.hid hk7
        have KD7 := Lib.hid (K5.out.still hb7)
        have HT1 := Lib.hid hk7.turn
        have HT2 := Lib.hid KD7.out.live.turn
        have HL9 : Hid (L5.length ≤ 99999) := by have := (hk7.small HK4.out).1; show _ ≤ _; omega
        have HSH := Lib.hid (KD7.out.shows hk7 HL9.out)
        rw [decide_eq_true HL.out] at HSH
        clear hk7 hb7 HOJ
        go_wp2_with fail
        with_reducible refine HT1.out.mono ?_
        rintro e w9 ⟨rfl, hw9⟩
        obtain rfl := hw9.symm
        go_wp2_with fail
        with_reducible refine HT2.out.mono ?_
        rintro e w9 ⟨rfl, hw9⟩
        obtain rfl := hw9.symm
        go_wp2_with fail
        with_reducible refine HT2.out.mono ?_
        rintro e w9 ⟨rfl, hw9⟩
        obtain rfl := hw9.symm
        go_wp2_with fail
        with_reducible refine HT2.out.mono ?_
        rintro e w9 ⟨rfl, hw9⟩
        obtain rfl := hw9.symm
        go_wp2_with fail
        with_reducible refine HT2.out.mono ?_
        rintro e w9 ⟨rfl, hw9⟩
        obtain rfl := hw9.symm
        go_wp2_with fail
        with_reducible refine HSH.out.mono ?_
        rintro e w8 ⟨rfl, hb8⟩
        have KD8 := Lib.hid (KD7.out.still hb8)
        clear hb8 HSH
        go_wp2_with fail
        go_roundw
        case rel => exact ⟨k + 1, gm, s5, a5, gen5, ds5, L5, by omega, rfl, by go_num, HS5.out, by have h9 := KD8.out; rw [← HL.out, HKK.out] at h9; exact h9⟩
        case measure => simp [intOf]; omega
    · obtain rfl : k = n := by omega
      have hkl : ¬ (k : Int) < (k : Int) := by omega
      go_wp2_with fail
      go_ret
      exact ⟨rfl, KK.out.live.below⟩
end Go.Proofs.YtdaahapbpnjkfaaGreat
