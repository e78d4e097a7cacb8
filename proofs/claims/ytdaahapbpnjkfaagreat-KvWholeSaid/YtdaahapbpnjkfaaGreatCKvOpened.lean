/-
  A store once the power has come again, though it goes out within some openings (opened). Conditions: at most 400 blocks; at most 680,000 calls.
-/
import Derived.Test.YtdaahapbpnjkfaaGreatCKvDisk
namespace Go.Proofs.YtdaahapbpnjkfaaGreat
open Go.RowKit
def OpenedOut (w0 : World) (gm gn : Nat) (M N : List Kv) (e : Ending) (w' : World) : Prop :=
  ∃ (q : Nat) (L : List Kv) (h : Nat) (s : Dsk) (k : KvS) (T : Nat → Prop) (g b gt : Nat) (F : Nat → Prop) (U V : Nat → Prop), e = .returned (.pointer (some ⟨q, 0, none⟩)) ∧ (L = M ∨ L = N) ∧ k.L = L ∧ L.length ≤ 99999 ∧ PSt w' T q g b gt F h s k ∧ MapAt w' U gm 1000000000 M ∧ MapAt w' V gn 1000000000 N ∧ Below w0.heap.size w0 w'
theorem ints_cell {w : World} {A : Option Addr} {l : List Int} (h : Ints w A l) (k : Nat) (hk : k < l.length) : ∃ b off, A = some ⟨b, off, none⟩ ∧ ∀ w', Below w.heap.size w w' → w'.cell? ⟨b, off + k, none⟩ = some (.int .i64 l[k]) := by
  rcases h with rfl | ⟨b, off, rfl, hb, hc⟩
  · simp at hk
  · exact ⟨b, off, rfl, fun w' hbl => by rw [hbl.cell (p := ⟨b, off + k, none⟩) hb, hc k hk]⟩
set_option maxRecDepth 100000 in
set_option maxHeartbeats 4000000 in
theorem opened_any {w0 w : World} {g gm gn h : Nat} {s : Dsk} {M N : List Kv} {m : Nat} (kd : KDisk w0 w g gm gn s M N m) (hcr : ∀ p, ∃ L, KHas (s.crash p) h L ∧ (L = M ∨ L = N)) (hh : h = s.K.length / 2) (hK : s.K.length ≤ 400) (hm : m ≤ 680000)
    {A : Option Addr} {ps : List Int} {np cp : Nat} (hp : Ints w0 A ps) (hpn : ps.length = np) (hp9 : np ≤ 9223372036854775807) (hpb : ∀ x ∈ ps, -9223372036854775808 ≤ x ∧ x ≤ 9223372036854775807)
    {C : Option Addr} {cs : List Int} {nc cc : Nat} (hc : Ints w0 C cs) (hcn : cs.length = nc) (hcb : ∀ x ∈ cs, -9223372036854775808 ≤ x ∧ x ≤ 9223372036854775807) :
    Calls Tryz.prog 29 #[.pointer (some ⟨g, 0, none⟩), .slice A np cp, .slice C nc cc] w (OpenedOut w0 gm gn M N) := by
  have HC := Lib.hid hc
  have HCN := Lib.hid hcn
  have HCB := Lib.hid hcb
  obtain ⟨L, hL, hLM⟩ := hcr (pickOf ps)
  have hl9 := hL.small
  have HL9 : Hid (L.length ≤ 99999) := by show _ ≤ _; omega
  have HLM := Lib.hid hLM
  obtain ⟨nb, hnb⟩ : ∃ nb, nb = s.K.length := ⟨_, rfl⟩
  rw [← hnb] at hh hK
  have hkl : (s.crash (pickOf ps)).K.length = nb := by rw [crash_len]; exact hnb.symm
  have HCR : Hid (∀ (W : World) (s : Dsk) (m : Nat), KDisk w0 W g gm gn s M N m → Calls Tryz.prog 19 #[.pointer (some ⟨g, 0, none⟩), .slice A np cp] W fun e w' => e = .returned (.tuple #[]) ∧ KDisk w0 w' g gm gn (s.crash (pickOf ps)) M N m) := fun W s m k => k.crash hp hpn hp9 hpb
  have HOP : Hid (∀ (W : World) (s : Dsk) (m : Nat), KDisk w0 W g gm gn s M N m → KHas s h L → s.K.length = nb → m ≤ 690000 → Calls Tryz.prog 13 #[.pointer (some ⟨g, 0, none⟩)] W (KOut w0 g gm gn h s M N L m)) := fun W s m k k2 k3 k4 => k.open_ k2 (by rw [k3]; exact hh) (by omega) k4
  have H0 := Lib.hid hL
  have KD := Lib.hid kd
  have HKL := Lib.hid hkl
  clear kd hcr hp hpn hp9 hpb hc hcn hcb hL hLM hl9 hkl hnb
  go_enter Tryz.func29, Tryz.ntmps29
  go_wp2_with fail
  with_reducible refine (HCR.out _ _ _ KD.out).mono ?_
  rintro e w1 ⟨rfl, hk1⟩
  have K1 := Lib.hid hk1
  clear hk1 KD
  go_wp2_with fail
  go_loopw [7] (fun v wr => ∃ (i : Nat) (s' : Dsk), i ≤ nc ∧ i ≤ 8 ∧ v = .int .i64 (i : Int) ∧ KDisk w0 wr g gm gn s' M N (m + 1100 * i) ∧ KHas s' h L ∧ s'.Quiet ∧ s'.K.length = nb) (fun v _ => nc - (intOf v).toNat)
  case atStart => exact ⟨0, _, by omega, by omega, rfl, K1.out, H0.out, ⟨rfl, rfl⟩, HKL.out⟩
  case round =>
    rename World => wr
    obtain ⟨i, s', hi, hi8, rfl, hkd, hkh, hq, hkl⟩ := hrel
    have KD := Lib.hid hkd
    have HKH := Lib.hid hkh
    have HQ := Lib.hid hq
    have HKL2 := Lib.hid hkl
    clear hkd hkh hq hkl K1 H0 HKL
    by_cases hgo : i < nc ∧ i < 8
    · have e1 : (i : Int) < (nc : Int) := by omega
      have e2 : (i : Int) < 8 := by omega
      have hwi : IntKind.i64.wrap ((i : Int) + 1) = ((i + 1 : Nat) : Int) := by rw [IntKind.wrap_i64]; omega
      have hin : i < cs.length := by have := HCN.out; omega
      obtain ⟨bc, oc, rfl, hcell⟩ := ints_cell HC.out i hin
      have hcb := HCB.out _ (List.getElem_mem hin)
      obtain ⟨z, hz⟩ : ∃ z, z = cs[i] := ⟨_, rfl⟩
      rw [← hz] at hcell hcb
      have o0 := hcell wr KD.out.below
      have HAR := Lib.hid (KD.out.arm (z := z) hcb.2)
      have HA2 := Lib.hid (HKH.out.arm z)
      have HAL : Hid ((s'.arm z).K.length = nb) := by show _ = _; rw [(arm_same s' z).1]; exact HKL2.out
      clear hcell hcb hz hin
      go_wp2_with fail
      with_reducible refine HAR.out.mono ?_
      rintro e w2 ⟨rfl, hk2⟩
      have HO2 := Lib.hid (HOP.out w2 _ _ hk2 HA2.out HAL.out (by omega))
      clear hk2 HAR
      go_wp2_with fail
      with_reducible refine HO2.out.mono ?_
      rintro e w3 ⟨s3, hk3, hc3, hl3, hout⟩
      have K3 := Lib.hid hk3
      have HC3 := Lib.hid (HCR.out w3 s3 _ hk3)
      have H3 := Lib.hid (hc3 (pickOf ps))
      have HL3 : Hid ((s3.crash (pickOf ps)).K.length = nb) := by show _ = _; rw [crash_len, hl3]; exact HAL.out
      have HM : Hid (m + 1100 * i + 1100 = m + 1100 * (i + 1)) := by show _ = _; omega
      clear hk3 hc3 hl3 HO2
      rcases hout with ⟨q, _, _, _, _, _, rfl, _⟩ | ⟨rfl, _⟩ | ⟨rfl, _⟩
      all_goals
        go_wp2_with fail
        with_reducible refine HC3.out.mono ?_
        rintro e w4 ⟨rfl, hk4⟩
        have K4 := Lib.hid hk4
        clear hk4
        go_wp2_with fail
        go_roundw
        case rel => exact ⟨i + 1, _, by omega, by omega, by go_num, by have h9 := K4.out; rw [HM.out] at h9; exact h9, H3.out, ⟨rfl, rfl⟩, HL3.out⟩
        case measure => simp [intOf]; omega
    · have HO2 := Lib.hid (HOP.out wr _ _ KD.out HKH.out HKL2.out (by omega))
      have hend : (¬ (i : Int) < (nc : Int)) ∨ ((i : Int) < (nc : Int) ∧ ¬ (i : Int) < 8) := by omega
      clear hgo
      rcases hend with e1 | ⟨e1, e2⟩
      · have d1 : decide ((i : Int) < (nc : Int)) = false := decide_eq_false e1
        go_wp2_with fail
        with_reducible refine HO2.out.mono ?_
        rintro e w3 ⟨s3, hk3, _, _, hout⟩
        have B3 := Lib.hid hk3.below
        rcases hout with ⟨q, T, b, gt, F, k, rfl, hps, hkL, U, V, hU, hV⟩ | ⟨_, hoff⟩ | ⟨_, hnq⟩
        · have HPS := Lib.hid hps
          have HKK := Lib.hid hkL
          have HUU := Lib.hid hU
          have HVV := Lib.hid hV
          clear hk3 hps hkL hU hV HO2
          go_wp2_with fail
          go_ret
          exact ⟨q, L, h, s3, k, T, g, b, gt, F, U, V, rfl, HLM.out, HKK.out, HL9.out, HPS.out, HUU.out, HVV.out, B3.out⟩
        · exact absurd hoff (by rw [HQ.out.1]; decide)
        · exact absurd HQ.out hnq
      · have d1 : decide ((i : Int) < (nc : Int)) = true := decide_eq_true e1
        have d2 : decide ((i : Int) < 8) = false := decide_eq_false e2
        go_wp2_with fail
        with_reducible refine HO2.out.mono ?_
        rintro e w3 ⟨s3, hk3, _, _, hout⟩
        have B3 := Lib.hid hk3.below
        rcases hout with ⟨q, T, b, gt, F, k, rfl, hps, hkL, U, V, hU, hV⟩ | ⟨_, hoff⟩ | ⟨_, hnq⟩
        · have HPS := Lib.hid hps
          have HKK := Lib.hid hkL
          have HUU := Lib.hid hU
          have HVV := Lib.hid hV
          clear hk3 hps hkL hU hV HO2
          go_wp2_with fail
          go_ret
          exact ⟨q, L, h, s3, k, T, g, b, gt, F, U, V, rfl, HLM.out, HKK.out, HL9.out, HPS.out, HUU.out, HVV.out, B3.out⟩
        · exact absurd hoff (by rw [HQ.out.1]; decide)
        · exact absurd HQ.out hnq
end Go.Proofs.YtdaahapbpnjkfaaGreat
