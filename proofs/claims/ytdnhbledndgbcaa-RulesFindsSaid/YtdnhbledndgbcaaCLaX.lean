/-
  Are two expressions the same (conciergelaw11's Exprs)? Condition: both are there.
-/
import Derived.Test.YtdnhbledndgbcaaCLaF
import Derived.Deep.RegionHeldLaw
namespace Go.Proofs.Ytdnhbledndgbcaa
open Go.RowKit
set_option maxHeartbeats 2000000 in
theorem exprs_any : ∀ (e e' : Ex) (W : World) (F F' : Nat → Prop) (cs cs' : List Value), ExAt W F e cs → ExAt W F' e' cs' →
    Calls Try.prog 14 #[.agg cs.toArray, .agg cs'.toArray] W fun r w' => r = .returned (.bool (eqE e e')) ∧ Below W.heap.size W w' := by
  intro e
  refine Ex.all (P := fun e => ∀ (e' : Ex) (W : World) (F F' : Nat → Prop) (cs cs' : List Value), ExAt W F e cs → ExAt W F' e' cs' →
    Calls Try.prog 14 #[.agg cs.toArray, .agg cs'.toArray] W fun r w' => r = .returned (.bool (eqE e e')) ∧ Below W.heap.size W w') (fun k n o ks ih e' W F F' cs cs' hE hE' => ?_) e
  obtain ⟨k', n', o', ks'⟩ := e'
  obtain ⟨A, c, rfl, ⟨⟨k1, k2⟩, _, _, hl⟩, hr⟩ := hE.row
  obtain ⟨A', c', rfl, ⟨⟨k3, k4⟩, _, _, hl'⟩, hr'⟩ := hE'.row
  show Calls _ _ #[.agg #[.int .i64 k, strV n, strV o, .slice A ks.length c], .agg #[.int .i64 k', strV n', strV o', .slice A' ks'.length c']] _ _
  obtain ⟨W1, hW⟩ : ∃ W1, W1 = (W.alloc (.cells #[.int .i64 k, strV n, strV o, .slice A ks.length c] 36)).alloc (.cells #[.int .i64 k', strV n', strV o', .slice A' ks'.length c'] 36) := ⟨_, rfl⟩
  have HK0 : Hid (Blk W1 W.heap.size [.int .i64 k, strV n, strV o, .slice A ks.length c] 36) := by rw [hW]; exact Lib.hid ((Blk.new W [.int .i64 k, strV n, strV o, .slice A ks.length c] _).alloc _)
  have HK1 : Hid (Blk W1 (W.heap.size + 1) [.int .i64 k', strV n', strV o', .slice A' ks'.length c'] 36) := by
    have h := Blk.new (W.alloc (.cells #[.int .i64 k, strV n, strV o, .slice A ks.length c] 36)) [.int .i64 k', strV n', strV o', .slice A' ks'.length c'] 36
    rw [hW]
    exact Lib.hid (by simpa using h)
  have HB0 : Hid (Below W.heap.size W W1) := by rw [hW]; exact Lib.hid (((Below.refl W.heap.size W).alloc (Nat.le_refl _) _).alloc (by simp) _)
  have HR := Lib.hid hr
  have HR' := Lib.hid hr'
  have HI := Lib.hid ih
  have HW := Lib.hid hW
  clear ih hr hr' hE hE' hW
  obtain ⟨v, hv⟩ : ∃ v, v = eqE (.mk k n o ks) (.mk k' n' o' ks') := ⟨_, rfl⟩
  rw [← hv]
  unfold eqE at hv
  by_cases h1 : k = k'
  case neg =>
    rw [if_neg (fun h => h1 h.1)] at hv
    have hd : (k != k') = true := bne_iff_ne.2 h1
    subst hv
    go_enter Try.func14, Try.ntmps14
    go_wp2_with fail
    go_ret
    exact ⟨rfl, by rw [← HW.out]; exact HB0.out⟩
  case pos =>
    subst h1
    obtain ⟨m, hm⟩ : ∃ m, m = ks.length := ⟨_, rfl⟩
    obtain ⟨m', hm'⟩ : ∃ m', m' = ks'.length := ⟨_, rfl⟩
    by_cases h2 : ks.length = ks'.length
    case neg =>
      rw [if_neg (fun h => h2 h.2)] at hv
      have hd : ((ks.length : Int) != (ks'.length : Int)) = true := bne_iff_ne.2 (by omega)
      subst hv
      go_enter Try.func14, Try.ntmps14
      go_wp2_with fail
      go_ret
      exact ⟨rfl, by rw [← HW.out]; exact HB0.out⟩
    case pos =>
      rw [if_pos ⟨rfl, h2⟩] at hv
      rw [← h2] at HK1 HW ⊢
      by_cases h0 : ks.length = 0
      case pos =>
        rw [if_pos h0] at hv
        rw [h0] at HK0 HK1 HW ⊢
        have HV := Lib.hid hv
        clear hv h0 h2 hl hl'
        obtain ⟨q, hq⟩ : ∃ q, (n == n') = q := ⟨_, rfl⟩
        obtain ⟨r, hr⟩ : ∃ r, (k == 0) = r := ⟨_, rfl⟩
        obtain ⟨s, hs⟩ : ∃ s, (o == o') = s := ⟨_, rfl⟩
        rw [hq, hr, hs] at HV
        cases q
        · go_enter Try.func14, Try.ntmps14
          go_wp2_with fail
          go_ret
          exact ⟨by rw [HV.out]; rfl, by rw [← HW.out]; exact HB0.out⟩
        · cases r
          · go_enter Try.func14, Try.ntmps14
            go_wp2_with fail
            go_ret
            exact ⟨by rw [HV.out]; simp, by rw [← HW.out]; exact HB0.out⟩
          · go_enter Try.func14, Try.ntmps14
            go_wp2_with fail
            go_ret
            exact ⟨by rw [HV.out]; rfl, by rw [← HW.out]; exact HB0.out⟩
      case neg =>
        rw [if_neg h0] at hv
        have HV := Lib.hid hv
        have HL := Lib.hid h2
        have hd : ((ks.length : Int) == 0) = false := beq_eq_false_iff_ne.2 (by omega)
        clear hv h2
        go_enter Try.func14, Try.ntmps14
        go_wp2_with fail
        rw [← HW.out]
        go_loopw [5] (fun i wr => ∃ j : Nat, j ≤ ks.length ∧ i = .int .i64 j ∧ Hid (eqL (ks.drop j) (ks'.drop j) = v) ∧ Hid (Below W1.heap.size W1 wr)) (fun i _ => ks.length - (intOf i).toNat)
        case atStart => exact ⟨0, by omega, rfl, Lib.hid HV.out.symm, Lib.hid (Below.refl _ _)⟩
        case round =>
          obtain ⟨j, hj, rfl, HQ, BW⟩ := hrel
          have x3 := (HK0.out.below BW.out HK0.out.lt).cell (i := 3) (by simp)
          have y3 := (HK1.out.below BW.out HK1.out.lt).cell (i := 3) (by simp)
          simp only [List.getElem_cons_succ, List.getElem_cons_zero] at x3 y3
          by_cases hlt : j < ks.length
          · have hlt' : j < ks'.length := by rw [← HL.out]; exact hlt
            have HD := Lib.hid (eqL_drop hlt hlt')
            obtain ⟨b, off, k1', n1, o1, A1, m1, c1, rfl, hE, hcells⟩ := HR.out.kid hlt
            obtain ⟨b', off', k2', n2, o2, A2, m2, c2, rfl, hE', hcells'⟩ := HR'.out.kid hlt'
            have hW1 : ∀ w', Below W1.heap.size W1 w' → (w'.cell? ⟨W.heap.size, 3, none⟩ = some (.slice (some ⟨b, off, none⟩) ks.length c) ∧ w'.cell? ⟨W.heap.size + 1, 3, none⟩ = some (.slice (some ⟨b', off', none⟩) ks.length c')) ∧
                (w'.cell? ⟨b, off + j * 4, none⟩ = some (.int .i64 k1') ∧ w'.cell? ⟨b, off + j * 4 + 1, none⟩ = some (strV n1) ∧ w'.cell? ⟨b, off + j * 4 + 2, none⟩ = some (strV o1) ∧ w'.cell? ⟨b, off + j * 4 + 3, none⟩ = some (.slice A1 m1 c1)) ∧ (w'.cell? ⟨b', off' + j * 4, none⟩ = some (.int .i64 k2') ∧ w'.cell? ⟨b', off' + j * 4 + 1, none⟩ = some (strV n2) ∧ w'.cell? ⟨b', off' + j * 4 + 2, none⟩ = some (strV o2) ∧ w'.cell? ⟨b', off' + j * 4 + 3, none⟩ = some (.slice A2 m2 c2)) := fun w' hw => by
              have hb := HB0.out.trans (hw.mono HB0.out.size)
              exact ⟨⟨(HK0.out.below hw HK0.out.lt).cell (i := 3) (by simp), (HK1.out.below hw HK1.out.lt).cell (i := 3) (by simp)⟩, hcells w' hb, hcells' w' hb⟩
            have HS := Lib.hid hW1
            have hS0 := hW1 _ BW.out.drew
            have HC := Lib.hid (HI.out ks[j] (List.getElem_mem hlt) ks'[j] wr.drew F F' _ _ (hE.below (HB0.out.trans (BW.out.drew.mono HB0.out.size))) (hE'.below (HB0.out.trans (BW.out.drew.mono HB0.out.size))))
            obtain ⟨q, hq⟩ : ∃ q, eqE ks[j] ks'[j] = q := ⟨_, rfl⟩
            rw [hq] at HC HD
            clear hW1 hE hE' hcells hcells' hq
            cases q
            · have HQ2 : Hid (v = false) := by
                show _ = _
                rw [← HQ.out, HD.out]; rfl
              go_wp2_with fail
              go_region_held_law (fun w' => (w'.cell? ⟨W.heap.size, 3, none⟩ = some (.slice (some ⟨b, off, none⟩) ks.length c) ∧ w'.cell? ⟨W.heap.size + 1, 3, none⟩ = some (.slice (some ⟨b', off', none⟩) ks.length c')) ∧
                  (w'.cell? ⟨b, off + j * 4, none⟩ = some (.int .i64 k1') ∧ w'.cell? ⟨b, off + j * 4 + 1, none⟩ = some (strV n1) ∧ w'.cell? ⟨b, off + j * 4 + 2, none⟩ = some (strV o1) ∧ w'.cell? ⟨b, off + j * 4 + 3, none⟩ = some (.slice A1 m1 c1)) ∧ (w'.cell? ⟨b', off' + j * 4, none⟩ = some (.int .i64 k2') ∧ w'.cell? ⟨b', off' + j * 4 + 1, none⟩ = some (strV n2) ∧ w'.cell? ⟨b', off' + j * 4 + 2, none⟩ = some (strV o2) ∧ w'.cell? ⟨b', off' + j * 4 + 3, none⟩ = some (.slice A2 m2 c2)))
                (with_reducible assumption)
                (first
                  | (go_at_call 14; refine HC.out.mono ?_; rintro e w2 ⟨rfl, hb2⟩; have HB2 := Lib.hid (BW.out.drew.trans (hb2.mono BW.out.drew.size)); have hS2 := HS.out _ HB2.out; clear hb2))
              go_wp2_with fail
              go_ret
              exact ⟨by rw [HQ2.out]; rfl, HB0.out.trans (HB2.out.mono HB0.out.size)⟩
            · have HQ2 : Hid (eqL (ks.drop (j + 1)) (ks'.drop (j + 1)) = v) := by
                show _ = _
                rw [← HQ.out, HD.out]; rfl
              go_wp2_with fail
              go_region_held_law (fun w' => (w'.cell? ⟨W.heap.size, 3, none⟩ = some (.slice (some ⟨b, off, none⟩) ks.length c) ∧ w'.cell? ⟨W.heap.size + 1, 3, none⟩ = some (.slice (some ⟨b', off', none⟩) ks.length c')) ∧
                  (w'.cell? ⟨b, off + j * 4, none⟩ = some (.int .i64 k1') ∧ w'.cell? ⟨b, off + j * 4 + 1, none⟩ = some (strV n1) ∧ w'.cell? ⟨b, off + j * 4 + 2, none⟩ = some (strV o1) ∧ w'.cell? ⟨b, off + j * 4 + 3, none⟩ = some (.slice A1 m1 c1)) ∧ (w'.cell? ⟨b', off' + j * 4, none⟩ = some (.int .i64 k2') ∧ w'.cell? ⟨b', off' + j * 4 + 1, none⟩ = some (strV n2) ∧ w'.cell? ⟨b', off' + j * 4 + 2, none⟩ = some (strV o2) ∧ w'.cell? ⟨b', off' + j * 4 + 3, none⟩ = some (.slice A2 m2 c2)))
                (with_reducible assumption)
                (first
                  | (go_at_call 14; refine HC.out.mono ?_; rintro e w2 ⟨rfl, hb2⟩; have HB2 := Lib.hid (BW.out.drew.trans (hb2.mono BW.out.drew.size)); have hS2 := HS.out _ HB2.out; clear hb2))
              go_wp2_with fail
              go_roundw
              case rel => exact ⟨j + 1, by omega, by go_num, HQ2, HB2⟩
              case measure => simp [intOf]; omega
          · have HQ2 : Hid (v = true) := by
              show _ = _
              rw [← HQ.out, List.drop_of_length_le (by omega), eqL]
              intro _ _ _ _ h; cases h
            go_wp2_with fail
            go_ret
            exact ⟨by rw [HQ2.out]; rfl, HB0.out.trans (BW.out.mono HB0.out.size)⟩
end Go.Proofs.Ytdnhbledndgbcaa
