/-
  RulesStands, walked. Conditions: the argument is there.
-/
import Derived.Test.YtdnhbledndgbcaaCPaSz0
import Derived.Test.YtdnhbledndgbcaaCClose
import Derived.Test.YtdnhbledndgbcaaCLaOpW
import Derived.Deep.QuietTactic
import Derived.BigQuiet
namespace Go.Proofs.Ytdnhbledndgbcaa
open Go.RowKit
theorem RowAt.tyk {W : World} {F : Nat → Prop} {b off : Nat} {s : Sc} (h : ScAt W F (some ⟨b, off, none⟩) s) {j : Nat} (hj : j < s.length) :
    ∃ B d, s[j].rels.length ≤ 9223372036854775807 ∧ RowAt 6 RlAt W F B s[j].rels ∧ ∀ w, Below W.heap.size W w → w.cell? ⟨b, off + j * 2, none⟩ = some (strV s[j].name) ∧ w.cell? ⟨b, off + j * 2 + 1, none⟩ = some (.slice B s[j].rels.length d) := by
  obtain ⟨b', off', B, d, e, ⟨_, hl⟩, hr, hc⟩ := RowAt.ty h hj
  injection e with e
  injection e with e1 e2 _
  subst e1 e2
  exact ⟨B, d, hl, hr, hc⟩
theorem IlAt.rowk {w : World} {F : Nat → Prop} {b off : Nat} {ls : List (List Nat)} (h : IlAt w F (some ⟨b, off, none⟩) ls) {i : Nat} (hi : i < ls.length) :
    ∃ A1 c1, (∀ w', Below w.heap.size w w' → w'.cell? ⟨b, off + i, none⟩ = some (.slice A1 ls[i].length c1)) ∧ ∀ j (hj : j < ls[i].length), ∃ b1 off1, A1 = some ⟨b1, off1, none⟩ ∧ ∀ w', Below w.heap.size w w' → w'.cell? ⟨b1, off1 + j, none⟩ = some (nv ls[i][j]) := by
  obtain ⟨b', off', A1, c1, e, h1, h2⟩ := h.rowB hi
  injection e with e
  injection e with e1 e2 _
  subst e1 e2
  exact ⟨A1, c1, h1, h2⟩
structure LvOf (s : Sc) (ls : List (List Nat)) : Prop where
  len : ls.length = s.length
  row : ∀ i (hi : i < s.length) (h2 : i < ls.length), ls[i].length = s[i].rels.length
  key : ∀ i (hi : i < s.length) (hi2 : i < ls.length) k (hk : k < s[i].rels.length) (hk2 : k < ls[i].length) (r : Rf), r ∈ s[i].rels[k].refs → ∀ t (ht : t < s.length) (ht2 : t < ls.length) m (hm : m < s[t].rels.length) (hm2 : m < ls[t].length), r.2 ≠ [] → s[t].name = r.1 → s[t].rels[m].name = r.2 → ls[t][m] ≤ ls[i][k]
theorem lvOf_levS {s : Sc} (hok : OkN s) (h : ∀ i (hi : i < s.length) k (hk : k < s[i].rels.length), lvG (levS s) (i, k) ≤ manyN s ∧ ∀ c ∈ allN s i s[i].rels[k], lvG (levS s) c.1 + stN c.2 ≤ lvG (levS s) (i, k)) : LvOf s (levS s) := by
  have h1 := levS_len s
  have hlen : (levS s).length = s.length := by
    have := congrArg List.length h1
    simpa using this
  have hrow : ∀ i (hi : i < s.length) (h2 : i < (levS s).length), (levS s)[i].length = s[i].rels.length := fun i hi h2 => by
    have h3 : ((levS s).map List.length)[i]'(by simpa using h2) = (s.map (fun t => t.rels.length))[i]'(by simpa using hi) := by
      congr 1
    simpa using h3
  have hat : ∀ i (hi : i < (levS s).length) k (hk : k < (levS s)[i].length), (levS s)[i][k] = lvG (levS s) (i, k) := fun i hi k hk =>
    ((lvG_at (l := levS s) (x := (i, k)) ⟨hi, by rw [List.getD_eq_getElem?_getD, List.getElem?_eq_getElem hi]; exact hk⟩).2.2).symm
  refine ⟨hlen, hrow, fun i hi hi2 k hk hk2 r hr t ht ht2 m hm hm2 h0 e1 e2 => ?_⟩
  rw [hat t ht2 m hm2, hat i hi2 k hk2]
  have h3 : ((t, m), false) ∈ allN s i s[i].rels[k] := by
    unfold allN
    have hne : s[i].rels[k].refs.length ≠ 0 := fun h => by rw [List.length_eq_zero_iff.1 h] at hr; cases hr
    rw [if_neg hne]
    refine List.mem_filterMap.2 ⟨r, hr, ?_⟩
    rw [if_pos h0, ← e1, ← e2, hok.dist.typ ht, hok.dist.rel ht hm]
    rfl
  have h4 := (h i hi k hk).2 _ h3
  unfold stN at h4
  simpa using h4
set_option maxRecDepth 100000 in
set_option maxHeartbeats 4000000 in
theorem rulesStands_walk (s : Sc) (A : Option Addr) (c : Nat) (W : World) (hs : ScAt W noF A s) (hl : s.length ≤ 9223372036854775807 ∧ s.length ≤ c) :
    Calls Try.prog 5 #[.agg #[.slice A s.length c]] W fun e w' => e = .returned (.bool true) ∧ Below W.heap.size W w' := by
  obtain ⟨hl, hcap⟩ := hl
  obtain ⟨W1, hW⟩ : ∃ W1, W1 = W.alloc (.cells #[.slice A s.length c] 25) := ⟨_, rfl⟩
  have HK0 : Hid (Blk W1 W.heap.size [.slice A s.length c] 25) := by rw [hW]; exact Lib.hid (Blk.new W _ _)
  have HB0 : Hid (Below W.heap.size W W1) := by rw [hW]; exact Lib.hid ((Below.refl W.heap.size W).alloc (Nat.le_refl _) _)
  have HW := Lib.hid hW
  have HX : Hid (∀ w, Below W1.heap.size W1 w → w.cell? ⟨W.heap.size, 0, none⟩ = some (.slice A s.length c)) := Lib.hid (fun w hw => (HK0.out.below hw HK0.out.lt).cell (i := 0) (by simp))
  have HS : Hid (∀ w, Below W1.heap.size W1 w → ScAt w noF A s) := Lib.hid (fun w hw => hs.below (HB0.out.trans (hw.mono HB0.out.size)))
  have HA := Lib.hid (awake_any W1)
  clear hW hs
  go_enter Try.func5, Try.ntmps5
  go_wp2_with fail
  rw [← HW.out]
  refine HA.out.mono ?_
  rintro e w1 ⟨rfl, hb1⟩
  have HB1 := Lib.hid hb1
  have x1 := HX.out w1 hb1
  have HF := Lib.hid (few_any s 80 w1 noF A c (HS.out w1 hb1) hl (by omega))
  obtain ⟨q, hq⟩ : ∃ q, fewS s 80 = q := ⟨_, rfl⟩
  rw [hq] at HF
  have HQ := Lib.hid hq
  clear hb1 hq HA
  cases q
  · go_wp2_with fail
    refine HF.out.mono ?_
    rintro e w2 ⟨rfl, hb2⟩
    go_wp2_with fail
    go_ret
    have hb := hop HB1.out hb2
    exact ⟨rfl, HB0.out.trans (hb.mono HB0.out.size)⟩
  have HFL := Lib.hid (few_ln (few_80 HQ.out))
  have HRF := Lib.hid (few_refs (few_80 HQ.out))
  go_wp2_with fail
  refine HF.out.mono ?_
  rintro e w2 ⟨rfl, hb2⟩
  have HB2 := Lib.hid (hop HB1.out hb2)
  have x2 := HX.out w2 HB2.out
  clear hb2 HF x1
  have HLP := Lib.hid (levels2_any s noF A c hl hcap HRF.out w2 (HS.out w2 HB2.out))
  go_wp2_with fail
  refine HLP.out.mono ?_
  rintro e w3 ⟨z, A3, n3, c3, rfl, hb3, hex, hn3, _⟩
  obtain ⟨rfl, hok⟩ := hex.doc
  have HB3 := Lib.hid (hop HB2.out hb3)
  have x3 := HX.out w3 HB3.out
  have HH : Hid ((docC s).2.2 = 0 → (n3 = s.length ∧ IlAt w3 (fun k => k < w2.heap.size) A3 (levS s)) ∧ LvOf s (levS s)) := Lib.hid (fun h => ⟨(hok h).2.1, lvOf_levS (hok h).1 (hok h).2.2⟩)
  have HN3 := Lib.hid hn3
  have HCP : Hid (Calls Try.prog 9 #[.agg #[.slice A s.length c]] w3 fun r w' => r = .returned (faV (docC s)) ∧ Below w3.heap.size w3 w') := Lib.hid ((check_any s noF A c hl hcap HRF.out w3 (HS.out w3 HB3.out)).mono (fun r w' h => by
    obtain ⟨z, rfl, hb, hx⟩ := h
    exact ⟨by rw [hx.doc.1], hb⟩))
  clear hb3 hex hn3 hok HLP x2
  generalize docC s = z at *
  obtain ⟨z1, z2, z3⟩ := z
  by_cases hz : z3 = 0
  · subst hz
    obtain ⟨⟨rfl, hil⟩, hlv⟩ := HH.out rfl
    have HIL3 := Lib.hid hil
    have HLV := Lib.hid hlv
    clear hil hlv HH HN3
    go_wp2_with fail
    refine HCP.out.mono ?_
    rintro e w4 ⟨rfl, hb4⟩
    obtain ⟨U, hU⟩ : ∃ U, U = w4.alloc (.cells #[.int .i64 z1, .int .i64 z2, .int .i64 0] 29) := ⟨_, rfl⟩
    have hbU : Below w4.heap.size w4 U := by rw [hU]; exact (Below.refl _ _).alloc (Nat.le_refl _) _
    have y2 := (Blk.new w4 [.int .i64 z1, .int .i64 z2, .int .i64 0] 29).cell (i := 2) (by simp)
    simp only [List.getElem_cons_succ, List.getElem_cons_zero] at y2
    have HBU := Lib.hid (hop HB3.out (hop hb4 hbU))
    have HILU := Lib.hid ((HIL3.out.below hb4).below hbU)
    have HSU := Lib.hid (HS.out U HBU.out)
    have HXU : Hid (∀ w, Below U.heap.size U w → w.cell? ⟨W.heap.size, 0, none⟩ = some (.slice A s.length c)) := Lib.hid (fun w hw => HX.out w (hop HBU.out hw))
    have HU := Lib.hid hU
    clear hb4 hbU hU x3
    generalize levS s = ls at *
    go_wp2_with fail
    rw [← HU.out]
    clear y2
    go_loopw [8] (fun i wr => ∃ i0 : Nat, i0 ≤ s.length ∧ i = .int .i64 i0 ∧ Hid (Below U.heap.size U wr)) (fun i _ => s.length - (intOf i).toNat)
    case atStart => exact ⟨0, by omega, rfl, Lib.hid (Below.refl _ _)⟩
    case round =>
      obtain ⟨i, hi, rfl, BW⟩ := hrel
      have x0 := HXU.out wr BW.out
      by_cases hil : i < s.length
      · have hil2 : ((i : Int) < (s.length : Int)) := by omega
        have hi2 : i < ls.length := by rw [HLV.out.len]; exact hil
        obtain ⟨b, off, B, d, rfl, ⟨_, hrl⟩, hr, hc⟩ := RowAt.ty HSU.out hil
        obtain ⟨gl, ol, Al, cl, rfl, hz, hrow⟩ := HILU.out.rowB hi2
        have hlr := HLV.out.row i hil hi2
        have HZI : Hid (∀ w, Below U.heap.size U w → w.cell? ⟨gl, ol + i, none⟩ = some (.slice Al s[i].rels.length cl)) := Lib.hid (by rw [← hlr]; exact hz)
        have HRI := Lib.hid hr
        have HCI := Lib.hid hc
        have HROI : Hid (∀ k (hk : k < s[i].rels.length), ∃ hk2 : k < ls[i].length, ∃ b1 off1, Al = some ⟨b1, off1, none⟩ ∧ ∀ w', Below U.heap.size U w' → w'.cell? ⟨b1, off1 + k, none⟩ = some (nv ls[i][k])) := Lib.hid (fun k hk => ⟨by rw [hlr]; exact hk, hrow k (by rw [hlr]; exact hk)⟩)
        have HKI := Lib.hid (fun k hk hk2 => HLV.out.key i hil hi2 k hk hk2)
        generalize s[i].rels = rs at *
        generalize ls[i] = lr at *
        have z0 := HZI.out wr BW.out
        clear hr hc hz hrow hlr
        go_wp2_with fail
        clear x0 z0
        go_loopw [9] (fun v wr => ∃ k0 : Nat, k0 ≤ rs.length ∧ v = .int .i64 k0 ∧ Hid (Below U.heap.size U wr)) (fun v _ => rs.length - (intOf v).toNat)
        case atStart => exact ⟨0, by omega, rfl, BW⟩
        case round =>
          rename World => wk
          clear BW
          obtain ⟨k, hk, rfl, BW⟩ := hrel
          have x0 := HXU.out wk BW.out
          have z0 := HZI.out wk BW.out
          by_cases hkl : k < rs.length
          · have hkl2 : ((k : Int) < (rs.length : Int)) := by omega
            obtain ⟨g, og, B1, c1, k1', p1, p2, E1, m2, c2, rfl, ⟨_, hrf⟩, hrr, _, hcells⟩ := HRI.out.rl hkl
            obtain ⟨hk2, b1, off1, rfl, hlc⟩ := HROI.out k hkl
            have HLC := Lib.hid hlc
            have HCE := Lib.hid (fun w hw => (hcells w hw).2.1)
            have HRR := Lib.hid hrr
            have HKK := Lib.hid (HKI.out k hkl hk2)
            have z1 := (HCI.out wk BW.out).2
            have z2 := HCE.out wk BW.out
            clear hcells hrr hlc
            generalize rs[k].refs = rf at *
            generalize lr[k] = vi at *
            go_wp2_with fail
            clear x0 z0 z1 z2
            go_loopw [11] (fun v wr => ∃ n0 : Nat, n0 ≤ rf.length ∧ v = .int .i64 n0 ∧ Hid (Below U.heap.size U wr)) (fun v _ => rf.length - (intOf v).toNat)
            case atStart => exact ⟨0, by omega, rfl, BW⟩
            case round =>
              rename World => wn
              clear BW
              obtain ⟨n, hn, rfl, BN⟩ := hrel
              by_cases hnl : n < rf.length
              · have hnl2 : ((n : Int) < (rf.length : Int)) := by omega
                obtain ⟨b3, off3, rfl, hc3⟩ := HRR.out.pair hnl
                have HC3 := Lib.hid hc3
                have HKN := Lib.hid (HKK.out rf[n] (List.getElem_mem hnl))
                clear hc3
                generalize rf[n].1 = r1 at *
                generalize rf[n].2 = r2 at *
                have x0 := HXU.out wn BN.out
                go_wp2_with fail
                clear x0
                go_loopw [12] (fun v wr => ∃ t0 : Nat, t0 ≤ s.length ∧ v = .int .i64 t0 ∧ Hid (Below U.heap.size U wr)) (fun v _ => s.length - (intOf v).toNat)
                case atStart => exact ⟨0, by omega, rfl, BN⟩
                case round =>
                  rename World => wt
                  clear BN
                  obtain ⟨t, ht, rfl, BT⟩ := hrel
                  have x0 := HXU.out wt BT.out
                  by_cases htl : t < s.length
                  · have htl2 : ((t : Int) < (s.length : Int)) := by omega
                    have ht2 : t < ls.length := by rw [HLV.out.len]; exact htl
                    obtain ⟨Bt, dt, hrlt, hrt, hct⟩ := RowAt.tyk HSU.out htl
                    obtain ⟨At, ct, hzt, hrowt⟩ := HILU.out.rowk ht2
                    have hlrt := HLV.out.row t htl ht2
                    have HZT : Hid (∀ w, Below U.heap.size U w → w.cell? ⟨gl, ol + t, none⟩ = some (.slice At s[t].rels.length ct)) := Lib.hid (by rw [← hlrt]; exact hzt)
                    have HRT := Lib.hid hrt
                    have HCT := Lib.hid hct
                    have HROT : Hid (∀ m (hm : m < s[t].rels.length), ∃ hm2 : m < ls[t].length, ∃ b1 off1, At = some ⟨b1, off1, none⟩ ∧ ∀ w', Below U.heap.size U w' → w'.cell? ⟨b1, off1 + m, none⟩ = some (nv ls[t][m])) := Lib.hid (fun m hm => ⟨by rw [hlrt]; exact hm, hrowt m (by rw [hlrt]; exact hm)⟩)
                    have HKT := Lib.hid (HKN.out t htl ht2)
                    clear hrt hct hzt hrowt hlrt
                    generalize s[t].rels = rt at *
                    generalize s[t].name = nt at *
                    generalize ls[t] = lt at *
                    go_wp2_with fail
                    clear x0
                    go_loopw [13] (fun v wr => ∃ m0 : Nat, m0 ≤ rt.length ∧ v = .int .i64 m0 ∧ Hid (Below U.heap.size U wr)) (fun v _ => rt.length - (intOf v).toNat)
                    case atStart => exact ⟨0, by omega, rfl, BT⟩
                    case round =>
                      rename World => wm
                      clear BT
                      obtain ⟨m, hm, rfl, B5⟩ := hrel
                      have x0 := HXU.out wm B5.out
                      obtain ⟨n0, n1⟩ := HCT.out wm B5.out
                      by_cases hml : m < rt.length
                      · have hml2 : ((m : Int) < (rt.length : Int)) := by omega
                        obtain ⟨g', og', B1', c1', k1'', p1', p2', E1', m2', c2', rfl, _, _, _, hcells'⟩ := HRT.out.rl hml
                        obtain ⟨hm2, b1', off1', rfl, hlc'⟩ := HROT.out m hml
                        have q0 := (hcells' wm B5.out).1
                        have q1 := hlc' wm B5.out
                        obtain ⟨q2, q3⟩ := HC3.out wm B5.out
                        have q4 := HZT.out wm B5.out
                        have q5 := HZI.out wm B5.out
                        have q6 := HLC.out wm B5.out
                        have HKM := Lib.hid (HKT.out m hml hm2)
                        clear hcells' hlc'
                        generalize rt[m].name = nr at *
                        generalize lt[m] = vt at *
                        by_cases h2 : r2 = []
                        · subst h2
                          go_wp2_with fail
                          go_quiet (fail)
                          go_wp2_with fail
                          go_roundw
                          case rel => exact ⟨m + 1, by omega, by go_num, Lib.hid (below_drewN B5.out _)⟩
                          case measure => simp [intOf]; omega
                        have he2 := nonempty h2
                        by_cases h3 : nt = r1
                        · have hd3 : (nt == r1) = true := beq_iff_eq.2 h3
                          by_cases h4 : nr = r2
                          · have hd4 : (nr == r2) = true := beq_iff_eq.2 h4
                            have hle := HKM.out h2 h3 h4
                            have hle2 : ¬ ((vi : Int) < (vt : Int)) := by omega
                            have hle3 : decide ((vi : Int) < (vt : Int)) = false := decide_eq_false hle2
                            go_wp2_with fail
                            go_quiet (fail)
                            go_wp2_with fail
                            go_roundw
                            case rel => exact ⟨m + 1, by omega, by go_num, Lib.hid (below_drewN B5.out _)⟩
                            case measure => simp [intOf]; omega
                          · have hd4 : (nr == r2) = false := beq_eq_false_iff_ne.2 h4
                            go_wp2_with fail
                            go_quiet (fail)
                            go_wp2_with fail
                            go_roundw
                            case rel => exact ⟨m + 1, by omega, by go_num, Lib.hid (below_drewN B5.out _)⟩
                            case measure => simp [intOf]; omega
                        · have hd3 : (nt == r1) = false := beq_eq_false_iff_ne.2 h3
                          go_wp2_with fail
                          go_quiet (fail)
                          go_wp2_with fail
                          go_roundw
                          case rel => exact ⟨m + 1, by omega, by go_num, Lib.hid (below_drewN B5.out _)⟩
                          case measure => simp [intOf]; omega
                      · have hml2 : ¬ ((m : Int) < (rt.length : Int)) := by omega
                        go_wp2_with fail
                        go_roundw
                        case rel => exact ⟨t + 1, by omega, by go_num, B5⟩
                        case measure => simp [intOf]; omega
                  · have htl2 : ¬ ((t : Int) < (s.length : Int)) := by omega
                    go_wp2_with fail
                    go_roundw
                    case rel => exact ⟨n + 1, by omega, by go_num, BT⟩
                    case measure => simp [intOf]; omega
              · have hnl2 : ¬ ((n : Int) < (rf.length : Int)) := by omega
                have z0 := HZI.out wn BN.out
                have z1 := HLC.out wn BN.out
                go_wp2_with fail
                go_roundw
                case rel => exact ⟨k + 1, by omega, by go_num, BN⟩
                case measure => simp [intOf]; omega
          · have hkl2 : ¬ ((k : Int) < (rs.length : Int)) := by omega
            go_wp2_with fail
            go_roundw
            case rel => exact ⟨i + 1, by omega, by go_num, BW⟩
            case measure => simp [intOf]; omega
      · have hil2 : ¬ ((i : Int) < (s.length : Int)) := by omega
        have hie : i = s.length := by omega
        go_wp2_with fail
        go_ret
        exact ⟨rfl, HB0.out.trans ((hop HBU.out BW.out).mono HB0.out.size)⟩
  · have q1 : ¬ (z3 : Int) = 0 := by omega
    have q2 : ((z3 : Int) == 0) = false := beq_eq_false_iff_ne.2 q1
    have hd : decide (z3 = 0) = false := decide_eq_false hz
    obtain rfl := HN3.out hz
    clear HH HN3 hz
    go_wp2_with fail
    refine HCP.out.mono ?_
    rintro e w4 ⟨rfl, hb4⟩
    have y2 := (Blk.new w4 [.int .i64 z1, .int .i64 z2, .int .i64 (z3 : Int)] 29).cell (i := 2) (by simp)
    simp only [List.getElem_cons_succ, List.getElem_cons_zero] at y2
    have hbU : Below w4.heap.size w4 (w4.alloc (.cells #[.int .i64 z1, .int .i64 z2, .int .i64 (z3 : Int)] 29)) := (Below.refl _ _).alloc (Nat.le_refl _) _
    have HBU := Lib.hid (hop HB3.out (hop hb4 hbU))
    clear hb4 hbU x3
    go_wp2_with fail
    go_ret
    exact ⟨rfl, HB0.out.trans (HBU.out.mono HB0.out.size)⟩
end Go.Proofs.Ytdnhbledndgbcaa
