/-
  What is wrong with an expression of a type (conciergeref12's expr). Conditions: the schema and the expression are there; the type's number is one.
  What is wrong with a relation of a type (conciergeref12's names). Conditions: the schema and the relation are there; the type's number is one.
-/
import Derived.Test.YtdnhbledndgbcaaGreatCRuT
namespace Go.Proofs.YtdnhbledndgbcaaGreat
open Go.RowKit
theorem chkL_drop {s : Sc} {t : Nat} {ks : List Ex} {j : Nat} (h : j < ks.length) : chkL s t (ks.drop j) = if chkE s t ks[j] ≠ 0 then chkE s t ks[j] else chkL s t (ks.drop (j + 1)) := by
  rw [List.drop_eq_getElem_cons h, chkL]
set_option maxRecDepth 100000 in
set_option maxHeartbeats 2000000 in
theorem rexpr_any (s : Sc) (A : Option Addr) (c : Nat) (hl : s.length ≤ 9223372036854775807) (F : Nat → Prop) {y : Nat} (hy : y < s.length) : ∀ (e : Ex) (W : World) (F' : Nat → Prop) (cs : List Value), ScAt W F A s → ExAt W F' e cs →
    Calls Tryz.prog 64 #[.agg #[.slice A s.length c], .int .i64 (y : Int), .agg cs.toArray] W fun r w' => r = .returned (.int .i64 (chkE s y e : Int)) ∧ Below W.heap.size W w' := by
  intro e
  refine Ex.all (P := fun e => ∀ (W : World) (F' : Nat → Prop) (cs : List Value), ScAt W F A s → ExAt W F' e cs →
    Calls Tryz.prog 64 #[.agg #[.slice A s.length c], .int .i64 (y : Int), .agg cs.toArray] W fun r w' => r = .returned (.int .i64 (chkE s y e : Int)) ∧ Below W.heap.size W w') (fun k n o ks ih W F' cs hs hE => ?_) e
  obtain ⟨E, m, rfl, ⟨⟨k1, k2⟩, hn, ho, hkl⟩, hr⟩ := hE.row
  show Calls _ _ #[.agg #[.slice A s.length c], .int .i64 (y : Int), .agg #[.int .i64 k, strV n, strV o, .slice E ks.length m]] _ _
  obtain ⟨v, hv⟩ : ∃ v, v = chkE s y (.mk k n o ks) := ⟨_, rfl⟩
  rw [← hv]
  unfold chkE at hv
  obtain ⟨W1, hW⟩ : ∃ W1, W1 = (W.alloc (.cells #[.slice A s.length c] 24)).alloc (.cells #[.int .i64 k, strV n, strV o, .slice E ks.length m] 44) := ⟨_, rfl⟩
  have HKA : Hid (Blk W1 W.heap.size [.slice A s.length c] 24) := by rw [hW]; exact Lib.hid ((Blk.new W _ _).alloc _)
  have HKE : Hid (Blk W1 (W.heap.size + 1) [.int .i64 k, strV n, strV o, .slice E ks.length m] 44) := by
    rw [hW]
    have := Blk.new (W.alloc (.cells #[.slice A s.length c] 24)) [.int .i64 k, strV n, strV o, .slice E ks.length m] 44
    rw [World.size_alloc] at this
    exact Lib.hid this
  have HB0 : Hid (Below W.heap.size W W1) := by rw [hW]; exact Lib.hid (((Below.refl _ _).alloc (Nat.le_refl _) _).alloc (by simp) _)
  have HW := Lib.hid hW
  have HV := Lib.hid hv
  have HR := Lib.hid hr
  have HI := Lib.hid ih
  have HX : Hid (∀ w, Below W1.heap.size W1 w → w.cell? ⟨W.heap.size, 0, none⟩ = some (.slice A s.length c) ∧ w.cell? ⟨W.heap.size + 1, 0, none⟩ = some (.int .i64 k) ∧ w.cell? ⟨W.heap.size + 1, 1, none⟩ = some (strV n) ∧ w.cell? ⟨W.heap.size + 1, 2, none⟩ = some (strV o) ∧ w.cell? ⟨W.heap.size + 1, 3, none⟩ = some (.slice E ks.length m)) := Lib.hid (fun w hw => by
    have h1 := HKA.out.below hw HKA.out.lt
    have h2 := HKE.out.below hw HKE.out.lt
    exact ⟨h1.cell (i := 0) (by simp), h2.cell (i := 0) (by simp), h2.cell (i := 1) (by simp), h2.cell (i := 2) (by simp), h2.cell (i := 3) (by simp)⟩)
  have HS : Hid (∀ w, Below W1.heap.size W1 w → ScAt w F A s) := Lib.hid (fun w hw => hs.below (HB0.out.trans (hw.mono HB0.out.size)))
  clear hW hs hE hv hr ih
  go_enter Tryz.func64, Tryz.ntmps64
  go_wp2_with fail
  rw [← HW.out]
  go_loopw [7] (fun i wr => ∃ j : Nat, j ≤ ks.length ∧ i = .int .i64 j ∧ Hid (v = if chkL s y (ks.drop j) ≠ 0 then chkL s y (ks.drop j) else if 0 < ks.length then 0 else leafN s y k n o) ∧ Hid (Below W1.heap.size W1 wr)) (fun i _ => ks.length - (intOf i).toNat)
  case atStart => exact ⟨0, by omega, rfl, HV, Lib.hid (Below.refl _ _)⟩
  case round =>
    obtain ⟨j, hj, rfl, H, BW⟩ := hrel
    obtain ⟨x0, y0, y1, y2, y3⟩ := HX.out wr BW.out
    by_cases hlt : j < ks.length
    · have HD := Lib.hid (chkL_drop (s := s) (t := y) hlt)
      obtain ⟨b, off, k3, n3, o3, A3, m3, c3, rfl, hE3, hc3⟩ := HR.out.kid hlt
      have hbw : Below W.heap.size W wr := HB0.out.trans (BW.out.mono HB0.out.size)
      have HC := Lib.hid (HI.out ks[j] (List.getElem_mem hlt) wr.drew F' _ (HS.out wr.drew BW.out.drew) (ExAt.below hbw.drew hE3))
      have HC : Hid (Calls Tryz.prog 64 #[.agg #[.slice A s.length c], .int .i64 (y : Int), .agg #[.int .i64 k3, strV n3, strV o3, .slice A3 m3 c3]] wr.drew fun r w' => r = .returned (.int .i64 (chkE s y ks[j] : Int)) ∧ Below wr.drew.heap.size wr.drew w') := HC
      have HC3 : Hid (∀ W', Below W.heap.size W W' → W'.cell? ⟨b, off + j * 4, none⟩ = some (.int .i64 k3) ∧ W'.cell? ⟨b, off + j * 4 + 1, none⟩ = some (strV n3) ∧ W'.cell? ⟨b, off + j * 4 + 2, none⟩ = some (strV o3) ∧ W'.cell? ⟨b, off + j * 4 + 3, none⟩ = some (.slice A3 m3 c3)) := Lib.hid (fun W' hW' => by have h := hc3 W' hW'; unfold ExFour at h; exact h)
      have hS : ∀ w, Below wr.heap.size wr w → (w.cell? ⟨W.heap.size, 0, none⟩ = some (.slice A s.length c) ∧ w.cell? ⟨W.heap.size + 1, 3, none⟩ = some (.slice (some ⟨b, off, none⟩) ks.length m)) ∧ (w.cell? ⟨b, off + j * 4, none⟩ = some (.int .i64 k3) ∧ w.cell? ⟨b, off + j * 4 + 1, none⟩ = some (strV n3) ∧ w.cell? ⟨b, off + j * 4 + 2, none⟩ = some (strV o3) ∧ w.cell? ⟨b, off + j * 4 + 3, none⟩ = some (.slice A3 m3 c3)) := fun w hw => by
        have h := HX.out w (hop BW.out hw)
        exact ⟨⟨h.1, h.2.2.2.2⟩, HC3.out w (hop hbw hw)⟩
      have hS0 := hS wr.drew (Below.refl _ _).drew
      have HSS := Lib.hid hS
      obtain ⟨q, hq⟩ : ∃ q, chkE s y ks[j] = q := ⟨_, rfl⟩
      rw [hq] at HC HD
      clear hc3 hE3 hS hq hbw
      go_wp2_with fail
      go_region_held_law (fun w => (w.cell? ⟨W.heap.size, 0, none⟩ = some (.slice A s.length c) ∧ w.cell? ⟨W.heap.size + 1, 3, none⟩ = some (.slice (some ⟨b, off, none⟩) ks.length m)) ∧ (w.cell? ⟨b, off + j * 4, none⟩ = some (.int .i64 k3) ∧ w.cell? ⟨b, off + j * 4 + 1, none⟩ = some (strV n3) ∧ w.cell? ⟨b, off + j * 4 + 2, none⟩ = some (strV o3) ∧ w.cell? ⟨b, off + j * 4 + 3, none⟩ = some (.slice A3 m3 c3)))
        (assumption)
        (first
          | (go_at_call 64; with_reducible refine HC.out.mono ?_; rintro r w5 ⟨rfl, hb5⟩; have HB5 := Lib.hid ((Below.refl wr.heap.size wr).drew.trans (hb5.mono (Below.refl wr.heap.size wr).drew.size)); have hS5 := HSS.out _ HB5.out; clear hb5))
      by_cases hq0 : q = 0
      · subst hq0
        have HN : Hid (v = if chkL s y (ks.drop (j + 1)) ≠ 0 then chkL s y (ks.drop (j + 1)) else if 0 < ks.length then 0 else leafN s y k n o) := Lib.hid (by rw [H.out, HD.out, if_neg (show ¬ (0 : Nat) ≠ 0 from fun h => h rfl)])
        go_wp2_with fail
        go_roundw
        case rel => exact ⟨j + 1, by omega, by go_num, HN, Lib.hid (hop BW.out HB5.out)⟩
        case measure => simp [intOf]; omega
      · have HN : Hid (v = q) := Lib.hid (by rw [H.out, HD.out, if_pos hq0, if_pos hq0])
        have q1 : ¬ (q : Int) = 0 := by omega
        have q2 : ((q : Int) != 0) = true := bne_iff_ne.2 q1
        clear hq0
        go_wp2_with fail
        go_ret
        have hb := hop BW.out HB5.out
        exact ⟨by rw [HN.out]; rfl, HB0.out.trans (hb.mono HB0.out.size)⟩
    · have HN : Hid (v = if 0 < ks.length then 0 else leafN s y k n o) := Lib.hid (by
        rw [H.out, List.drop_of_length_le (l := ks) (i := j) (by omega), chkL, if_neg (show ¬ (0 : Nat) ≠ 0 from fun h => h rfl)])
      by_cases h0 : 0 < ks.length
      · have HN2 : Hid (v = 0) := Lib.hid (by rw [HN.out, if_pos h0])
        have hd : decide (0 < ks.length) = true := decide_eq_true h0
        go_wp2_with fail
        go_ret
        exact ⟨by rw [HN2.out]; rfl, HB0.out.trans (BW.out.mono HB0.out.size)⟩
      have HN2 : Hid (v = leafN s y k n o) := Lib.hid (by rw [HN.out, if_neg h0])
      have hk0 : ks.length = 0 := by omega
      have hd : decide (0 < ks.length) = false := decide_eq_false h0
      have HC := Lib.hid (rrel_any s (y : Int) n wr F A c (HS.out wr BW.out) hl (.inr ⟨y, hy, rfl⟩))
      have HRI := Lib.hid (relsN_is (ofT s (y : Int)) n)
      rw [ofT_at hy] at HRI
      have HRE : Hid (relN s (y : Int) n = relsN s[y].rels n) := Lib.hid (by unfold relN; rw [ofT_at hy])
      rw [HRE.out] at HC
      obtain ⟨b, off, B, d, rfl, ⟨_, hrl⟩, hr, hc⟩ := RowAt.ty (HS.out W1 (Below.refl _ _)) hy
      have HCT := Lib.hid (fun w hw => (hc w hw).2)
      have HRL := Lib.hid hr
      have HLF : Hid (leafN s y k n o = if relsN s[y].rels n < 0 then 6 else if k = 0 then 0 else if (((s[y].rels)[(relsN s[y].rels n).toNat]?).getD noRel).refs.length = 0 then 10 else if (((s[y].rels)[(relsN s[y].rels n).toNat]?).getD noRel).refs.any (fun r => decide (r.2 = []) && decide (0 ≤ relN s (typN s r.1) o)) then 0 else 6) := Lib.hid (by
        unfold leafN relAt
        dsimp only
        rw [HRE.out, ofT_at hy])
      rw [HLF.out] at HN2
      clear hc hr HLF HN HRE
      generalize s[y].rels = rs at *
      generalize relsN rs n = rk at *
      by_cases hneg : rk < 0
      · have HN3 : Hid (v = 6) := Lib.hid (by rw [HN2.out, if_pos hneg])
        go_wp2_with (go_at_call 38; with_reducible refine HC.out.mono ?_; rintro r w5 ⟨rfl, hb5⟩; have HB5' := Lib.hid (hop BW.out hb5); obtain ⟨z0, zk, z2, _, _⟩ := HX.out w5 HB5'.out; have HBF := Lib.hid (HB0.out.trans (HB5'.out.mono HB0.out.size)); have zt := HCT.out w5 HB5'.out; clear hb5)
        go_ret
        exact ⟨by rw [HN3.out]; rfl, HBF.out⟩
      rw [if_neg hneg] at HN2
      obtain ⟨i, hi, rfl⟩ : ∃ i, i < rs.length ∧ rk = (i : Int) := by
        rcases HRI.out with h | h
        · omega
        · exact h
      clear hneg
      have hnn : ¬ ((i : Int) < 0) := by omega
      by_cases hkz : k = 0
      · subst hkz
        rw [if_pos rfl] at HN2
        go_wp2_with (go_at_call 38; with_reducible refine HC.out.mono ?_; rintro r w5 ⟨rfl, hb5⟩; have HB5' := Lib.hid (hop BW.out hb5); obtain ⟨z0, zk, z2, _, _⟩ := HX.out w5 HB5'.out; have HBF := Lib.hid (HB0.out.trans (HB5'.out.mono HB0.out.size)); have zt := HCT.out w5 HB5'.out; clear hb5)
        go_ret
        exact ⟨by rw [HN2.out]; rfl, HBF.out⟩
      rw [if_neg hkz, Int.toNat_natCast, List.getElem?_eq_getElem hi] at HN2
      have HN2 : Hid (v = if rs[i].refs.length = 0 then 10 else if rs[i].refs.any (fun r => decide (r.2 = []) && decide (0 ≤ relN s (typN s r.1) o)) then 0 else 6) := HN2
      have hkz2 : (k == 0) = false := beq_eq_false_iff_ne.2 hkz
      obtain ⟨g, og, B1, c1, k1', p1, p2, E1, m2, c2, rfl, ⟨_, hrf⟩, hrr, _, hcells⟩ := HRL.out.rl hi
      have HCE := Lib.hid (fun w hw => (hcells w hw).2.1)
      have HRR := Lib.hid hrr
      generalize rs[i].refs = rf at *
      clear hcells hrr
      by_cases hrz : rf.length = 0
      · have HN3 : Hid (v = 10) := Lib.hid (by rw [HN2.out, if_pos hrz])
        have hrd : ((rf.length : Int) == 0) = true := beq_iff_eq.2 (by omega)
        go_wp2_with (go_at_call 38; with_reducible refine HC.out.mono ?_; rintro r w5 ⟨rfl, hb5⟩; have HB5' := Lib.hid (hop BW.out hb5); obtain ⟨z0, zk, z2, _, _⟩ := HX.out w5 HB5'.out; have HBF := Lib.hid (HB0.out.trans (HB5'.out.mono HB0.out.size)); have HBW5 := Lib.hid ((Below.refl W1.heap.size W1).trans HB5'.out); have zt := HCT.out w5 HBW5.out; have zr := HCE.out w5 HBW5.out; clear hb5)
        go_ret
        exact ⟨by rw [HN3.out]; rfl, HBF.out⟩
      -- the loop over the refs
      rw [if_neg hrz] at HN2
      have hrd : ((rf.length : Int) == 0) = false := beq_eq_false_iff_ne.2 (by omega)
      go_wp2_with (go_at_call 38; with_reducible refine HC.out.mono ?_; rintro r w5 ⟨rfl, hb5⟩; have HB5' := Lib.hid (hop BW.out hb5); obtain ⟨z0, zk, z2, _, _⟩ := HX.out w5 HB5'.out; have HBW5 := Lib.hid ((Below.refl W1.heap.size W1).trans HB5'.out); have zt := HCT.out w5 HBW5.out; have zr := HCE.out w5 HBW5.out; clear hb5)
      clear z0 zk z2 zt zr
      go_loopw [11] (fun i w6 => ∃ a : Nat, a ≤ rf.length ∧ i = .int .i64 a ∧ Hid (v = if (rf.drop a).any (fun r => decide (r.2 = []) && decide (0 ≤ relN s (typN s r.1) o)) then 0 else 6) ∧ Hid (Below W1.heap.size W1 w6)) (fun i _ => rf.length - (intOf i).toNat)
      case atStart => exact ⟨0, by omega, rfl, HN2, HBW5⟩
      case round =>
        rename World => w6
        obtain ⟨a, ha, rfl, HA, B6⟩ := hrel
        by_cases hal : a < rf.length
        · obtain ⟨b3, off3, rfl, hc3⟩ := HRR.out.pair hal
          have hdr : (rf.drop a).any (fun r => decide (r.2 = []) && decide (0 ≤ relN s (typN s r.1) o)) = ((decide (rf[a].2 = []) && decide (0 ≤ relN s (typN s rf[a].1) o)) || (rf.drop (a + 1)).any (fun r => decide (r.2 = []) && decide (0 ≤ relN s (typN s r.1) o))) := by
            rw [List.drop_eq_getElem_cons hal, List.any_cons]
          have HDR := Lib.hid hdr
          generalize rf[a].1 = t1 at *
          generalize rf[a].2 = t2 at *
          have hN : ∀ w, Below W1.heap.size W1 w → (Below W1.heap.size W1 w ∧ w.cell? ⟨W.heap.size, 0, none⟩ = some (.slice (some ⟨b, off, none⟩) s.length c) ∧ w.cell? ⟨W.heap.size + 1, 2, none⟩ = some (strV o) ∧ w.cell? ⟨b3, off3 + a * 2, none⟩ = some (strV t1) ∧ w.cell? ⟨b3, off3 + a * 2 + 1, none⟩ = some (strV t2)) := fun w hw => by
            have h1 := HX.out w hw
            have h2 := hc3 w hw
            exact ⟨hw, h1.1, h1.2.2.2.1, h2.1, h2.2⟩
          have HN := Lib.hid hN
          have HTC : Hid (∀ w, (Below W1.heap.size W1 w ∧ w.cell? ⟨W.heap.size, 0, none⟩ = some (.slice (some ⟨b, off, none⟩) s.length c) ∧ w.cell? ⟨W.heap.size + 1, 2, none⟩ = some (strV o) ∧ w.cell? ⟨b3, off3 + a * 2, none⟩ = some (strV t1) ∧ w.cell? ⟨b3, off3 + a * 2 + 1, none⟩ = some (strV t2)) → Calls Tryz.prog 37 #[.agg #[.slice (some ⟨b, off, none⟩) s.length c], strV t1] w fun r w' => r = .returned (.int .i64 (typN s t1)) ∧ (Below W1.heap.size W1 w' ∧ w'.cell? ⟨W.heap.size, 0, none⟩ = some (.slice (some ⟨b, off, none⟩) s.length c) ∧ w'.cell? ⟨W.heap.size + 1, 2, none⟩ = some (strV o) ∧ w'.cell? ⟨b3, off3 + a * 2, none⟩ = some (strV t1) ∧ w'.cell? ⟨b3, off3 + a * 2 + 1, none⟩ = some (strV t2))) := Lib.hid (fun w hw => (rtyp_any s t1 w F _ c (HS.out w hw.1) hl).mono (fun r w' h => ⟨h.1, hN w' (hop hw.1 h.2)⟩))
          have HLC : Hid (∀ w, (Below W1.heap.size W1 w ∧ w.cell? ⟨W.heap.size, 0, none⟩ = some (.slice (some ⟨b, off, none⟩) s.length c) ∧ w.cell? ⟨W.heap.size + 1, 2, none⟩ = some (strV o) ∧ w.cell? ⟨b3, off3 + a * 2, none⟩ = some (strV t1) ∧ w.cell? ⟨b3, off3 + a * 2 + 1, none⟩ = some (strV t2)) → Calls Tryz.prog 38 #[.agg #[.slice (some ⟨b, off, none⟩) s.length c], .int .i64 (typN s t1), strV o] w fun r w' => r = .returned (.int .i64 (relN s (typN s t1) o)) ∧ (Below W1.heap.size W1 w' ∧ w'.cell? ⟨W.heap.size, 0, none⟩ = some (.slice (some ⟨b, off, none⟩) s.length c) ∧ w'.cell? ⟨W.heap.size + 1, 2, none⟩ = some (strV o) ∧ w'.cell? ⟨b3, off3 + a * 2, none⟩ = some (strV t1) ∧ w'.cell? ⟨b3, off3 + a * 2 + 1, none⟩ = some (strV t2))) := Lib.hid (fun w hw => (rrel_any s (typN s t1) o w F _ c (HS.out w hw.1) hl (typN_no s t1)).mono (fun r w' h => ⟨h.1, hN w' (hop hw.1 h.2)⟩))
          have hS0 : (Below W1.heap.size W1 w6.drew ∧ w6.drew.cell? ⟨W.heap.size, 0, none⟩ = some (.slice (some ⟨b, off, none⟩) s.length c) ∧ w6.drew.cell? ⟨W.heap.size + 1, 2, none⟩ = some (strV o) ∧ w6.drew.cell? ⟨b3, off3 + a * 2, none⟩ = some (strV t1) ∧ w6.drew.cell? ⟨b3, off3 + a * 2 + 1, none⟩ = some (strV t2)) := hN w6.drew B6.out.drew
          clear hc3 hdr hN
          generalize typN s t1 = ty at *
          generalize relN s ty o = rl at *
          go_wp2_with fail
          go_region_held_law (fun w => (Below W1.heap.size W1 w ∧ w.cell? ⟨W.heap.size, 0, none⟩ = some (.slice (some ⟨b, off, none⟩) s.length c) ∧ w.cell? ⟨W.heap.size + 1, 2, none⟩ = some (strV o) ∧ w.cell? ⟨b3, off3 + a * 2, none⟩ = some (strV t1) ∧ w.cell? ⟨b3, off3 + a * 2 + 1, none⟩ = some (strV t2)))
            (assumption)
            (first
              | (go_at_call 37; with_reducible refine (HTC.out _ (by assumption)).mono ?_; rintro r w' ⟨rfl, hS'⟩)
              | (go_at_call 38; with_reducible refine (HLC.out _ (by assumption)).mono ?_; rintro r w' ⟨rfl, hS'⟩))
          obtain ⟨hb6, _, _, _, q2⟩ := hS'
          have HB6 := Lib.hid hb6
          clear hb6
          by_cases ht : t2 = []
          · subst ht
            by_cases hr0 : 0 ≤ rl
            · have HN3 : Hid (v = 0) := Lib.hid (by rw [HA.out, HDR.out, decide_eq_true hr0]; rfl)
              go_wp2_with fail
              go_ret
              exact ⟨by rw [HN3.out]; rfl, HB0.out.trans (HB6.out.mono HB0.out.size)⟩
            · have HN3 : Hid (v = if (rf.drop (a + 1)).any (fun r => decide (r.2 = []) && decide (0 ≤ relN s (typN s r.1) o)) then 0 else 6) := Lib.hid (by rw [HA.out, HDR.out, decide_eq_false hr0]; rfl)
              have hr1 : rl < 0 := by omega
              go_wp2_with fail
              go_roundw
              case rel => exact ⟨a + 1, by omega, by go_num, HN3, HB6⟩
              case measure => simp [intOf]; omega
          · have he := nonempty ht
            have HN3 : Hid (v = if (rf.drop (a + 1)).any (fun r => decide (r.2 = []) && decide (0 ≤ relN s (typN s r.1) o)) then 0 else 6) := Lib.hid (by rw [HA.out, HDR.out, decide_eq_false ht]; rfl)
            go_wp2_with fail
            go_roundw
            case rel => exact ⟨a + 1, by omega, by go_num, HN3, HB6⟩
            case measure => simp [intOf]; omega
        · have HN3 : Hid (v = 6) := Lib.hid (by rw [HA.out, List.drop_of_length_le (l := rf) (i := a) (by omega)]; rfl)
          go_wp2_with fail
          go_ret
          exact ⟨by rw [HN3.out]; rfl, HB0.out.trans (B6.out.mono HB0.out.size)⟩
end Go.Proofs.YtdnhbledndgbcaaGreat
namespace Go.Proofs.YtdnhbledndgbcaaGreat
open Go.RowKit
set_option maxRecDepth 100000 in
set_option maxHeartbeats 2000000 in
theorem rnames_any (s : Sc) (A : Option Addr) (c : Nat) (hl : s.length ≤ 9223372036854775807) (F : Nat → Prop) {y : Nat} (hy : y < s.length) (x : Rl) (W : World) (F' : Nat → Prop) (cs : List Value) (hs : ScAt W F A s) (hx : RlAt W F' x cs) :
    Calls Tryz.prog 39 #[.agg #[.slice A s.length c], .int .i64 (y : Int), .agg cs.toArray] W fun r w' => r = .returned (.int .i64 (namesN s y x : Int)) ∧ Below W.heap.size W w' := by
  obtain ⟨B, m, k, n, o, E, me, ce, rfl, ⟨hn, hrl⟩, hr, he⟩ := hx.six
  obtain ⟨nm, rf, ex⟩ := x
  dsimp only at *
  show Calls _ _ #[.agg #[.slice A s.length c], .int .i64 (y : Int), .agg #[strV nm, .slice B rf.length m, .int .i64 k, strV n, strV o, .slice E me ce]] _ _
  obtain ⟨v, hv⟩ : ∃ v, v = namesN s y ⟨nm, rf, ex⟩ := ⟨_, rfl⟩
  rw [← hv]
  unfold namesN at hv
  dsimp only at hv
  obtain ⟨W1, hW⟩ : ∃ W1, W1 = (W.alloc (.cells #[.slice A s.length c] 24)).alloc (.cells #[strV nm, .slice B rf.length m, .int .i64 k, strV n, strV o, .slice E me ce] 46) := ⟨_, rfl⟩
  have HKA : Hid (Blk W1 W.heap.size [.slice A s.length c] 24) := by rw [hW]; exact Lib.hid ((Blk.new W _ _).alloc _)
  have HKE : Hid (Blk W1 (W.heap.size + 1) [strV nm, .slice B rf.length m, .int .i64 k, strV n, strV o, .slice E me ce] 46) := by
    rw [hW]
    have := Blk.new (W.alloc (.cells #[.slice A s.length c] 24)) [strV nm, .slice B rf.length m, .int .i64 k, strV n, strV o, .slice E me ce] 46
    rw [World.size_alloc] at this
    exact Lib.hid this
  have HB0 : Hid (Below W.heap.size W W1) := by rw [hW]; exact Lib.hid (((Below.refl _ _).alloc (Nat.le_refl _) _).alloc (by simp) _)
  have HW := Lib.hid hW
  have HV := Lib.hid hv
  have HX : Hid (∀ w, Below W1.heap.size W1 w → w.cell? ⟨W.heap.size, 0, none⟩ = some (.slice A s.length c) ∧ w.cell? ⟨W.heap.size + 1, 1, none⟩ = some (.slice B rf.length m) ∧ w.cell? ⟨W.heap.size + 1, 2, none⟩ = some (.int .i64 k) ∧ w.cell? ⟨W.heap.size + 1, 3, none⟩ = some (strV n) ∧ w.cell? ⟨W.heap.size + 1, 4, none⟩ = some (strV o) ∧ w.cell? ⟨W.heap.size + 1, 5, none⟩ = some (.slice E me ce)) := Lib.hid (fun w hw => by
    have h1 := HKA.out.below hw HKA.out.lt
    have h2 := HKE.out.below hw HKE.out.lt
    exact ⟨h1.cell (i := 0) (by simp), h2.cell (i := 1) (by simp), h2.cell (i := 2) (by simp), h2.cell (i := 3) (by simp), h2.cell (i := 4) (by simp), h2.cell (i := 5) (by simp)⟩)
  have HS : Hid (∀ w, Below W1.heap.size W1 w → ScAt w F A s) := Lib.hid (fun w hw => hs.below (HB0.out.trans (hw.mono HB0.out.size)))
  have HEX := Lib.hid (rexpr_any s A c hl F hy ex W1 F' _ (HS.out W1 (Below.refl _ _)) (ExAt.below HB0.out he))
  have HRR : Hid (RowAt 2 RfAt W F' B rf) := Lib.hid hr
  clear hW hs hv hr he hx
  by_cases h0 : rf.length = 0
  · have HV2 : Hid (v = chkE s y ex) := Lib.hid (by rw [HV.out, if_pos h0])
    have hd : ((rf.length : Int) == 0) = true := beq_iff_eq.2 (by omega)
    have HEX : Hid (Calls Tryz.prog 64 #[.agg #[.slice A s.length c], .int .i64 (y : Int), .agg #[.int .i64 k, strV n, strV o, .slice E me ce]] W1 fun r w' => r = .returned (.int .i64 (chkE s y ex : Int)) ∧ Below W1.heap.size W1 w') := HEX
    generalize chkE s y ex = q at *
    clear h0
    go_enter Tryz.func39, Tryz.ntmps39
    go_wp2_with (go_at_call 64; rw [← HW.out]; refine HEX.out.mono ?_; rintro r w5 ⟨rfl, hb5⟩)
    go_ret
    exact ⟨by rw [HV2.out]; rfl, HB0.out.trans (hb5.mono HB0.out.size)⟩
  have HV2 : Hid (v = if (rf.drop 0).any (refN s) then 6 else 0) := Lib.hid (by rw [HV.out, if_neg h0, List.drop_zero])
  have hd : ((rf.length : Int) == 0) = false := beq_eq_false_iff_ne.2 (by omega)
  clear HEX
  go_enter Tryz.func39, Tryz.ntmps39
  go_wp2_with fail
  rw [← HW.out]
  go_loopw [7] (fun i wr => ∃ a : Nat, a ≤ rf.length ∧ i = .int .i64 a ∧ Hid (v = if (rf.drop a).any (refN s) then 6 else 0) ∧ Hid (Below W1.heap.size W1 wr)) (fun i _ => rf.length - (intOf i).toNat)
  case atStart => exact ⟨0, by omega, rfl, HV2, Lib.hid (Below.refl _ _)⟩
  case round =>
    obtain ⟨a, ha, rfl, HA, BW⟩ := hrel
    obtain ⟨x0, x1, _⟩ := HX.out wr BW.out
    by_cases hal : a < rf.length
    · obtain ⟨b3, off3, rfl, hc3⟩ := HRR.out.pair hal
      have hdr : (rf.drop a).any (refN s) = (refN s rf[a] || (rf.drop (a + 1)).any (refN s)) := by
        rw [List.drop_eq_getElem_cons hal, List.any_cons]
      have hrn : refN s rf[a] = (decide (typN s rf[a].1 < 0) || (decide (rf[a].2 ≠ []) && decide (relN s (typN s rf[a].1) rf[a].2 < 0))) := rfl
      rw [hrn] at hdr
      have HDR := Lib.hid hdr
      generalize rf[a].1 = t1 at *
      generalize rf[a].2 = t2 at *
      have hN : ∀ w, Below W1.heap.size W1 w → (Below W1.heap.size W1 w ∧ w.cell? ⟨W.heap.size, 0, none⟩ = some (.slice A s.length c) ∧ w.cell? ⟨W.heap.size + 1, 1, none⟩ = some (.slice (some ⟨b3, off3, none⟩) rf.length m) ∧ w.cell? ⟨b3, off3 + a * 2, none⟩ = some (strV t1) ∧ w.cell? ⟨b3, off3 + a * 2 + 1, none⟩ = some (strV t2)) := fun w hw => by
        have h1 := HX.out w hw
        have h2 := hc3 w (HB0.out.trans (hw.mono HB0.out.size))
        exact ⟨hw, h1.1, h1.2.1, h2.1, h2.2⟩
      have HTC : Hid (∀ w, (Below W1.heap.size W1 w ∧ w.cell? ⟨W.heap.size, 0, none⟩ = some (.slice A s.length c) ∧ w.cell? ⟨W.heap.size + 1, 1, none⟩ = some (.slice (some ⟨b3, off3, none⟩) rf.length m) ∧ w.cell? ⟨b3, off3 + a * 2, none⟩ = some (strV t1) ∧ w.cell? ⟨b3, off3 + a * 2 + 1, none⟩ = some (strV t2)) → Calls Tryz.prog 37 #[.agg #[.slice A s.length c], strV t1] w fun r w' => r = .returned (.int .i64 (typN s t1)) ∧ (Below W1.heap.size W1 w' ∧ w'.cell? ⟨W.heap.size, 0, none⟩ = some (.slice A s.length c) ∧ w'.cell? ⟨W.heap.size + 1, 1, none⟩ = some (.slice (some ⟨b3, off3, none⟩) rf.length m) ∧ w'.cell? ⟨b3, off3 + a * 2, none⟩ = some (strV t1) ∧ w'.cell? ⟨b3, off3 + a * 2 + 1, none⟩ = some (strV t2))) := Lib.hid (fun w hw => (rtyp_any s t1 w F _ c (HS.out w hw.1) hl).mono (fun r w' h => ⟨h.1, hN w' (hop hw.1 h.2)⟩))
      have HLC : Hid (∀ w, (Below W1.heap.size W1 w ∧ w.cell? ⟨W.heap.size, 0, none⟩ = some (.slice A s.length c) ∧ w.cell? ⟨W.heap.size + 1, 1, none⟩ = some (.slice (some ⟨b3, off3, none⟩) rf.length m) ∧ w.cell? ⟨b3, off3 + a * 2, none⟩ = some (strV t1) ∧ w.cell? ⟨b3, off3 + a * 2 + 1, none⟩ = some (strV t2)) → Calls Tryz.prog 38 #[.agg #[.slice A s.length c], .int .i64 (typN s t1), strV t2] w fun r w' => r = .returned (.int .i64 (relN s (typN s t1) t2)) ∧ (Below W1.heap.size W1 w' ∧ w'.cell? ⟨W.heap.size, 0, none⟩ = some (.slice A s.length c) ∧ w'.cell? ⟨W.heap.size + 1, 1, none⟩ = some (.slice (some ⟨b3, off3, none⟩) rf.length m) ∧ w'.cell? ⟨b3, off3 + a * 2, none⟩ = some (strV t1) ∧ w'.cell? ⟨b3, off3 + a * 2 + 1, none⟩ = some (strV t2))) := Lib.hid (fun w hw => (rrel_any s (typN s t1) t2 w F _ c (HS.out w hw.1) hl (typN_no s t1)).mono (fun r w' h => ⟨h.1, hN w' (hop hw.1 h.2)⟩))
      have hS0 : (Below W1.heap.size W1 wr.drew ∧ wr.drew.cell? ⟨W.heap.size, 0, none⟩ = some (.slice A s.length c) ∧ wr.drew.cell? ⟨W.heap.size + 1, 1, none⟩ = some (.slice (some ⟨b3, off3, none⟩) rf.length m) ∧ wr.drew.cell? ⟨b3, off3 + a * 2, none⟩ = some (strV t1) ∧ wr.drew.cell? ⟨b3, off3 + a * 2 + 1, none⟩ = some (strV t2)) := hN wr.drew BW.out.drew
      have HN := Lib.hid hN
      clear hc3 hdr hrn hN
      generalize typN s t1 = ty at *
      generalize relN s ty t2 = rl at *
      go_wp2_with fail
      go_region_held_law (fun w => (Below W1.heap.size W1 w ∧ w.cell? ⟨W.heap.size, 0, none⟩ = some (.slice A s.length c) ∧ w.cell? ⟨W.heap.size + 1, 1, none⟩ = some (.slice (some ⟨b3, off3, none⟩) rf.length m) ∧ w.cell? ⟨b3, off3 + a * 2, none⟩ = some (strV t1) ∧ w.cell? ⟨b3, off3 + a * 2 + 1, none⟩ = some (strV t2)))
        (assumption)
        (first
          | (go_at_call 37; with_reducible refine (HTC.out _ (by assumption)).mono ?_; rintro r w' ⟨rfl, hS'⟩))
      have hS1 : (Below W1.heap.size W1 w'.drew ∧ w'.drew.cell? ⟨W.heap.size, 0, none⟩ = some (.slice A s.length c) ∧ w'.drew.cell? ⟨W.heap.size + 1, 1, none⟩ = some (.slice (some ⟨b3, off3, none⟩) rf.length m) ∧ w'.drew.cell? ⟨b3, off3 + a * 2, none⟩ = some (strV t1) ∧ w'.drew.cell? ⟨b3, off3 + a * 2 + 1, none⟩ = some (strV t2)) := HN.out w'.drew hS'.1.drew
      go_wp2_with fail
      go_region_held_law (fun w => (Below W1.heap.size W1 w ∧ w.cell? ⟨W.heap.size, 0, none⟩ = some (.slice A s.length c) ∧ w.cell? ⟨W.heap.size + 1, 1, none⟩ = some (.slice (some ⟨b3, off3, none⟩) rf.length m) ∧ w.cell? ⟨b3, off3 + a * 2, none⟩ = some (strV t1) ∧ w.cell? ⟨b3, off3 + a * 2 + 1, none⟩ = some (strV t2)))
        (assumption)
        (first
          | (go_at_call 38; with_reducible refine (HLC.out _ (by assumption)).mono ?_; rintro r w'' ⟨rfl, hS''⟩))
      obtain ⟨hb6, p0, p1, p2, p3⟩ := hS''
      have HB6 := Lib.hid hb6
      have HBF := Lib.hid (HB0.out.trans (hb6.mono HB0.out.size))
      clear hb6
      by_cases hty : ty < 0
      · have HN3 : Hid (v = 6) := Lib.hid (by rw [HA.out, HDR.out, decide_eq_true hty]; rfl)
        go_wp2_with fail
        go_ret
        exact ⟨by rw [HN3.out]; rfl, HBF.out⟩
      by_cases ht : t2 = []
      · subst ht
        have HN3 : Hid (v = if (rf.drop (a + 1)).any (refN s) then 6 else 0) := Lib.hid (by rw [HA.out, HDR.out, decide_eq_false hty]; rfl)
        go_wp2_with fail
        go_roundw
        case rel => exact ⟨a + 1, by omega, by go_num, HN3, HB6⟩
        case measure => simp [intOf]; omega
      have he := nonempty ht
      by_cases hr0 : rl < 0
      · have HN3 : Hid (v = 6) := Lib.hid (by rw [HA.out, HDR.out, decide_eq_false hty, decide_eq_true ht, decide_eq_true hr0]; rfl)
        go_wp2_with fail
        go_ret
        exact ⟨by rw [HN3.out]; rfl, HBF.out⟩
      · have HN3 : Hid (v = if (rf.drop (a + 1)).any (refN s) then 6 else 0) := Lib.hid (by rw [HA.out, HDR.out, decide_eq_false hty, decide_eq_true ht, decide_eq_false hr0]; rfl)
        go_wp2_with fail
        go_roundw
        case rel => exact ⟨a + 1, by omega, by go_num, HN3, HB6⟩
        case measure => simp [intOf]; omega
    · have HN3 : Hid (v = 0) := Lib.hid (by rw [HA.out, List.drop_of_length_le (l := rf) (i := a) (by omega)]; rfl)
      go_wp2_with fail
      go_ret
      exact ⟨by rw [HN3.out]; rfl, HB0.out.trans (BW.out.mono HB0.out.size)⟩
end Go.Proofs.YtdnhbledndgbcaaGreat
