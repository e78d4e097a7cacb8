/-
  The statement KvAgain: opened again and again the pairs are the same, and nothing is written, once there is a log. Condition: the row's own.
-/
import Derived.Test.YtdaahapbpnjkfaaGreatCKvAwake
import Derived.Test.YtdaahapbpnjkfaaGreatCKvShows
import Derived.Test.YtdaahapbpnjkfaaGreatCKvRows
import Derived.Test.YtdaahapbpnjkfaaGreatCDkImage
namespace Go.Proofs.YtdaahapbpnjkfaaGreat
open Go.RowKit
theorem KDoc.shows {w0 w : World} {g q gm h : Nat} {s : Dsk} {a : Nat} {gen : Int} {ds : List (List UInt8)} {L M : List Kv} {m : Nat} (k : KDoc w0 w g q gm h s a gen ds L M m) {q' : Nat} {L' : List Kv} (k' : KLive w0 w g q' h s a gen ds L' m) (hl : L'.length ≤ 99999) :
    Calls Tryz.prog 30 #[.pointer (some ⟨q', 0, none⟩), .pointer (some ⟨gm, 0, none⟩)] w fun e w' => e = .returned (.bool (decide (L' = M))) ∧ Below w.heap.size w w' := by
  obtain ⟨_, _, _, _, _, _, _, _, _, _, hm, _⟩ := k
  obtain ⟨_, _, _, _, p, _⟩ := k'
  exact shows_any p hm hl
def ImgTo (T : ByteArray) (n : Nat) (w w' : World) (e : Ending) : Prop :=
  ∃ A c, e = .returned (.slice A n c) ∧ (∀ w'', Below w'.heap.size w' w'' → (convert 22 9 (.slice A n c)).run Tryz.prog w'' = .ok (.string T) w'') ∧ Below w.heap.size w w'
theorem img_to {w : World} {g : Nat} {F : Nat → Prop} {s : Dsk} (h : DiskAt w g F s) : Calls Tryz.prog 23 #[.pointer (some ⟨g, 0, none⟩)] w fun e w' => ImgTo ⟨s.K.flatten.toArray⟩ s.K.flatten.length w w' e := by
  refine (image_any w g _ s h).mono ?_
  rintro e w' ⟨v, rfl, hm⟩
  obtain ⟨A, c, rfl, hs⟩ := hm.form
  exact ⟨A, c, rfl, text_on hs _ c rfl, hm.2⟩
set_option maxRecDepth 100000 in
set_option maxHeartbeats 4000000 in
theorem kvAgain_walk (y : Int) (A : Option Addr) (l : List PRow) (c : Nat) (z : Int) (w : World) (y0 : -9223372036854775808 ≤ y) (y1 : y ≤ 9223372036854775807) (_hl : l.length ≤ 9223372036854775807) (hs : RowsSeen w A l) (_hc : l.length ≤ c) (z0 : -9223372036854775808 ≤ z) (z1 : z ≤ 9223372036854775807) :
    Calls Tryz.prog 5 #[.int .i64 y, .slice A l.length c, .int .i64 z] w fun e w' => e = .returned (.bool true) ∧ Below w.heap.size w w' := by
  have HS := Lib.hid hs
  obtain ⟨n, hn⟩ : ∃ n, n = l.length := ⟨_, rfl⟩
  have HN : Hid (l.length = n) := hn.symm
  rw [← hn]
  have HBA : Hid (∀ W, Below w.heap.size w W → Calls Tryz.prog 25 #[.slice A n c] W fun e w' => e = .returned (.bool (batchesB l)) ∧ W = w') := fun W hW => batches_any A l n c W hn.symm (hs.below hW)
  obtain ⟨ok, hok⟩ : ∃ ok, ok = batchesB l := ⟨_, rfl⟩
  rw [← hok] at HBA
  have HOK := Lib.hid hok
  clear hs hn hok
  go_enter Tryz.func5, Tryz.ntmps5
  go_wp2_with fail
  with_reducible refine (awake_any _).mono ?_
  rintro e w1 ⟨rfl, hb1⟩
  have B1 := Lib.hid hb1
  clear hb1
  go_wp2_with fail
  with_reducible refine (HBA.out _ B1.out).mono ?_
  rintro e w2 ⟨rfl, hw2⟩
  obtain rfl := hw2
  by_cases hbad : ok = false ∨ y < 2 ∨ 200 < y ∨ z < 0 ∨ 10 < z
  · have hdone : ok = false ∨ (ok = true ∧ y < 2) ∨ (ok = true ∧ ¬ y < 2 ∧ 200 < y) ∨ (ok = true ∧ ¬ y < 2 ∧ ¬ 200 < y ∧ z < 0) ∨ (ok = true ∧ ¬ y < 2 ∧ ¬ 200 < y ∧ ¬ z < 0 ∧ 10 < z) := by
      rcases Bool.eq_false_or_eq_true ok with h | h
      · right
        rcases hbad with h0 | hbad
        · rw [h] at h0; cases h0
        · by_cases h2 : y < 2
          · exact .inl ⟨h, h2⟩
          · by_cases h3 : 200 < y
            · exact .inr (.inl ⟨h, h2, h3⟩)
            · by_cases h4 : z < 0
              · exact .inr (.inr (.inl ⟨h, h2, h3, h4⟩))
              · exact .inr (.inr (.inr ⟨h, h2, h3, h4, by omega⟩))
      · exact .inl h
    clear hbad
    rcases hdone with rfl | ⟨rfl, g1⟩ | ⟨rfl, g1, g2⟩ | ⟨rfl, g1, g2, g3⟩ | ⟨rfl, g1, g2, g3, g4⟩
    · go_wp2_with fail
      go_ret
      exact ⟨rfl, B1.out⟩
    · have d1 : decide (y < 2) = true := decide_eq_true g1
      go_wp2_with fail
      go_ret
      exact ⟨rfl, B1.out⟩
    · have d1 : decide (y < 2) = false := decide_eq_false g1
      have d2 : decide (200 < y) = true := decide_eq_true g2
      go_wp2_with fail
      go_ret
      exact ⟨rfl, B1.out⟩
    · have d1 : decide (y < 2) = false := decide_eq_false g1
      have d2 : decide (200 < y) = false := decide_eq_false g2
      have d3 : decide (z < 0) = true := decide_eq_true g3
      go_wp2_with fail
      go_ret
      exact ⟨rfl, B1.out⟩
    · have d1 : decide (y < 2) = false := decide_eq_false g1
      have d2 : decide (200 < y) = false := decide_eq_false g2
      have d3 : decide (z < 0) = false := decide_eq_false g3
      have d4 : decide (10 < z) = true := decide_eq_true g4
      go_wp2_with fail
      go_ret
      exact ⟨rfl, B1.out⟩
  obtain rfl : ok = true := by cases ok <;> simp_all
  obtain ⟨nb, rfl⟩ : ∃ nb : Nat, y = (nb : Int) := ⟨y.toNat, by omega⟩
  obtain ⟨nt, rfl⟩ : ∃ nt : Nat, z = (nt : Int) := ⟨z.toNat, by omega⟩
  have hb2 : 2 ≤ nb ∧ nb ≤ 200 ∧ nt ≤ 10 := by omega
  have g1 : ¬ (nb : Int) < 2 := by omega
  have g2 : ¬ (200 : Int) < (nb : Int) := by omega
  have g3 : ¬ (nt : Int) < 0 := by omega
  have g4 : ¬ (10 : Int) < (nt : Int) := by omega
  have d1 : decide ((nb : Int) < 2) = false := decide_eq_false g1
  have d2 : decide ((200 : Int) < (nb : Int)) = false := decide_eq_false g2
  have d3 : decide ((nt : Int) < 0) = false := decide_eq_false g3
  have d4 : decide ((10 : Int) < (nt : Int)) = false := decide_eq_false g4
  have HALL := Lib.hid (batchesB_true HOK.out.symm)
  have hn40 : n ≤ 40 := by have := HALL.out.1; have := HN.out; omega
  have HB2 := Lib.hid hb2
  have HNEW := Lib.hid (new_any w1 nb (by omega) (by omega))
  clear hbad y0 y1 z0 z1 hb2 HOK HBA
  go_wp2_with fail
  with_reducible refine HNEW.out.mono ?_
  rintro e w2 ⟨g, F, rfl, hd, hF, hb⟩
  have HOP := Lib.hid (kopen_new (w0 := w) hd HB2.out.1 (by have := HB2.out.2.1; omega) (hop B1.out hb) (fun k hk => Nat.le_trans B1.out.size (hF k hk)))
  clear hd hF hb HNEW
  go_wp2_with fail
  with_reducible refine HOP.out.mono ?_
  rintro e w3 ⟨q, s, rfl, hsK, hk⟩
  have K3 := Lib.hid hk
  have HSK := Lib.hid hsK
  have HEM := Lib.hid (rempty_any w3)
  clear hk hsK HOP g1 g2 g3 g4 d1 d2 d3 d4
  go_wp2_with fail
  with_reducible refine HEM.out.mono ?_
  rintro e w4 ⟨rfl, hw4⟩
  have KD := Lib.hid K3.out.empty
  rw [← hw4] at KD
  generalize w3.heap.size = gm at *
  clear hw4 HEM
  go_wp2_with fail
  go_loopw [13, 14] (fun u v wr => ∃ (k gm : Nat) (s : Dsk) (a : Nat) (gen : Int) (ds : List (List UInt8)) (L : List Kv), k ≤ n ∧ u = .pointer (some ⟨gm, 0, none⟩) ∧ v = .int .i64 (k : Int) ∧ s.K.length = nb ∧ KDoc w wr g q gm (nb / 2) s a gen ds L L (1100 * k + 1100)) (fun _ v _ => n - (intOf v).toNat)
  case atStart => exact ⟨0, gm, s, 0, 1, _, [], by omega, rfl, rfl, HSK.out, KD.out⟩
  case round =>
    obtain ⟨k, gm, s, a, gen, ds, L, hk, rfl, rfl, hsK, hkd⟩ := hrel
    have KK := Lib.hid hkd
    have HSK2 := Lib.hid hsK
    clear hkd hsK KD HSK
    by_cases hlt : k < n
    · have hkl : (k : Int) < (n : Int) := by omega
      have hkn : k < l.length := by have := HN.out; omega
      obtain ⟨bl, off, rfl, hps, hcp1, hcp2, hcell⟩ := HS.out.at_ k hkn
      have hfew := HALL.out.2 k hkn
      obtain ⟨⟨A1, ps, c1⟩, hq⟩ : ∃ q, q = l[k] := ⟨_, rfl⟩
      rw [← hq] at hps hcell hfew
      obtain ⟨n1, hn1⟩ : ∃ n1, ps.length = n1 := ⟨_, rfl⟩
      have hps' : PutsSeen w A1 ps := hps
      have HCL : Hid (∀ W, Below w.heap.size w W → W.cell? ⟨bl, off + k, none⟩ = some (.slice A1 n1 c1)) := fun W hW => by rw [← hn1]; exact hcell W hW
      have hfv : FewV (valsOf ps) := ⟨by rw [valsOf_length]; exact hfew.1, fun p hp => by
        obtain ⟨x, hx, rfl⟩ := List.mem_map.1 hp
        exact hfew.2 x hx⟩
      have HFV := Lib.hid hfv
      have HPS := Lib.hid hps'
      have HN1 := Lib.hid hn1
      have hsm := KK.out.live.small (by have := HB2.out.2.1; have := HSK2.out; omega)
      have HSM := Lib.hid hsm
      have HCM := Lib.hid (KK.out.commit (c := c1) (by have := HB2.out.2.1; have := HSK2.out; omega) (by omega) hps' hn1 hfv)
      have o0 := HCL.out wr KK.out.live.below
      have hwi : IntKind.i64.wrap ((k : Int) + 1) = ((k + 1 : Nat) : Int) := by rw [IntKind.wrap_i64]; omega
      have HKK : Hid (1100 * k + 1100 + 1100 = 1100 * (k + 1) + 1100) := by show _ = _; omega
      clear hps hcell hfew hq hps' hfv hn1 hcp1 hcp2 hkn hsm
      go_wp2_with fail
      with_reducible refine HCM.out.mono ?_
      rintro e w5 ⟨E, s5, a5, gen5, ds5, L5, rfl, hk5, hs5, hcq⟩
      have K5 := Lib.hid hk5
      have HS5 : Hid (s5.K.length = nb) := by show _ = _; rw [hs5]; exact HSK2.out
      have o1 := HCL.out w5 hk5.live.below
      clear hk5 hs5 HCM
      rcases hcq with ⟨rfl, hL, _⟩ | ⟨rfl, _, _, _, _, hL⟩
      · have HL := Lib.hid hL
        have HDO := Lib.hid (K5.out.do_ (c := c1) HPS.out HN1.out HFV.out HSM.out.1 HSM.out.2)
        clear hL
        go_wp2_with fail
        with_reducible refine HDO.out.mono ?_
        rintro e w6 ⟨gc, rfl, hk6, _⟩
        have K6 := Lib.hid hk6
        clear hk6 HDO
        go_wp2_with fail
        go_roundw
        case rel => exact ⟨k + 1, gc, s5, a5, gen5, ds5, L5, by omega, rfl, by go_num, HS5.out, by have h9 := K6.out; rw [← HL.out, HKK.out] at h9; exact h9⟩
        case measure => simp [intOf]; omega
      · have HL := Lib.hid hL
        clear hL
        go_wp2_with fail
        go_roundw
        case rel => exact ⟨k + 1, gm, s5, a5, gen5, ds5, L5, by omega, rfl, by go_num, HS5.out, by have h9 := K5.out; rw [← HL.out, HKK.out] at h9; exact h9⟩
        case measure => simp [intOf]; omega
    · obtain rfl : k = n := by omega
      have hkl : ¬ (k : Int) < (k : Int) := by omega
      obtain ⟨F5, hd5⟩ := KK.out.live.disk
      have HCA : Hid (∀ W, Below wr.heap.size wr W → Calls Tryz.prog 22 #[.pointer (some ⟨g, 0, none⟩)] W fun e w' => e = .returned (.int .i64 (s.calls : Int)) ∧ w' = W) := fun W hW => calls_any (hd5.still hW)
      obtain ⟨TI, NI, hti⟩ : ∃ T N, T = (⟨s.K.flatten.toArray⟩ : ByteArray) ∧ N = s.K.flatten.length := ⟨_, _, rfl, rfl⟩
      have HIM : Hid (∀ W, Below wr.heap.size wr W → Calls Tryz.prog 23 #[.pointer (some ⟨g, 0, none⟩)] W fun e w' => ImgTo TI NI W w' e) := fun W hW => by rw [hti.1, hti.2]; exact img_to (hd5.still hW)
      generalize (s.calls : Int) = ca at HCA
      have HL9 : Hid (L.length ≤ 99999) := by have := (KK.out.live.small (by have := HB2.out.2.1; have := HSK2.out; omega)).1; show _ ≤ _; omega
      have HK4 : Hid (s.K.length ≤ 400) := by have := HB2.out.2.1; have := HSK2.out; show _ ≤ _; omega
      clear hd5 hti
      go_wp2_with fail
      with_reducible refine (HCA.out _ (Below.refl _ _)).mono ?_
      rintro e w5 ⟨rfl, hw5⟩
      obtain rfl := hw5.symm
      go_wp2_with fail
      with_reducible refine (HIM.out _ (Below.refl _ _)).mono ?_
      rintro e w5 ⟨A5, c5, rfl, hu5, hb5⟩
      have B5 := Lib.hid hb5
      have hv5 := hu5 _ (Below.refl _ _)
      have K5 := Lib.hid (KK.out.still hb5)
      have HCA5 : Hid (∀ W, Below w5.heap.size w5 W → Calls Tryz.prog 22 #[.pointer (some ⟨g, 0, none⟩)] W fun e w' => e = .returned (.int .i64 ca) ∧ w' = W) := fun W hW => HCA.out W (hop B5.out hW)
      have HIM5 : Hid (∀ W, Below w5.heap.size w5 W → Calls Tryz.prog 23 #[.pointer (some ⟨g, 0, none⟩)] W fun e w' => ImgTo TI NI W w' e) := fun W hW => HIM.out W (hop B5.out hW)
      have hnt : nt ≤ 10 := HB2.out.2.2
      clear hu5 hb5 HCA HIM KK B5
      go_wp2_with fail
      go_loopw [17] (fun v w6 => ∃ j, j ≤ nt ∧ v = .int .i64 (j : Int) ∧ Below w5.heap.size w5 w6) (fun v _ => nt - (intOf v).toNat)
      case atStart => exact ⟨0, by omega, rfl, Below.refl _ _⟩
      case round =>
      obtain ⟨j, hj, rfl, hb6⟩ := hrel
      have BJ := Lib.hid hb6
      have KJ := Lib.hid (K5.out.still hb6)
      clear hb6
      by_cases hjt : j < nt
      · have hjl : (j : Int) < (nt : Int) := by omega
        have HOJ := Lib.hid (KJ.out.live.open_ HK4.out (by omega))
        have hwj : IntKind.i64.wrap ((j : Int) + 1) = ((j + 1 : Nat) : Int) := by rw [IntKind.wrap_i64]; omega
        go_wp2_with fail
        with_reducible refine HOJ.out.mono ?_
        rintro e w7 ⟨q7, rfl, hk7, hb7⟩
        have K7 := Lib.hid hk7
        have KD7 := Lib.hid (KJ.out.still hb7)
        have B7 : Hid (Below w5.heap.size w5 w7) := hop BJ.out hb7
        have HSH := Lib.hid (KD7.out.shows hk7 HL9.out)
        rw [decide_eq_true rfl] at HSH
        clear hk7 hb7 HOJ
        go_wp2_with fail
        with_reducible refine HSH.out.mono ?_
        rintro e w8 ⟨rfl, hb8⟩
        have K8 := Lib.hid (K7.out.still hb8)
        have KD8 := Lib.hid (KD7.out.still hb8)
        have B8 : Hid (Below w5.heap.size w5 w8) := hop B7.out hb8
        have HT1 := Lib.hid K8.out.turn
        have HT2 := Lib.hid KD8.out.live.turn
        clear hb8 HSH
        go_wp2_with fail
        with_reducible refine HT1.out.mono ?_
        rintro e w9 ⟨rfl, hw9⟩
        obtain rfl := hw9.symm
        go_wp2_with fail
        with_reducible refine HT2.out.mono ?_
        rintro e w9 ⟨rfl, hw9⟩
        obtain rfl := hw9.symm
        go_wp2_with fail
        go_roundw
        case rel => exact ⟨j + 1, by omega, by go_num, B8.out⟩
        case measure => simp [intOf]; omega
      · obtain rfl : j = nt := by omega
        have hjl : ¬ (j : Int) < (j : Int) := by omega
        have HCJ := Lib.hid (HCA5.out _ BJ.out)
        have HIJ := Lib.hid (HIM5.out _ BJ.out)
        have HBE := Lib.hid KJ.out.live.below
        go_wp2_with fail
        with_reducible refine HCJ.out.mono ?_
        rintro e w7 ⟨rfl, hw7⟩
        obtain rfl := hw7.symm
        go_wp2_with fail
        with_reducible refine HIJ.out.mono ?_
        rintro e w7 ⟨A7, c7, rfl, hu7, hb7⟩
        have B7 := Lib.hid hb7
        have hv7 := hu7 _ (Below.refl _ _)
        clear hu7 hb7
        go_wp2_with fail
        go_ret
        exact ⟨rfl, hop HBE.out B7.out⟩
end Go.Proofs.YtdaahapbpnjkfaaGreat
