/-
  What an expression leans on (conciergeref12's leans), walked. Conditions: the schema and the expression are there; nothing is wrong with it.
-/
import Derived.Test.YtdnhbledndgbcaaGreatCRuYl
namespace Go.Proofs.YtdnhbledndgbcaaGreat
open Go.RowKit
set_option maxRecDepth 100000 in
set_option maxHeartbeats 4000000 in
set_option linter.unusedSimpArgs false in
theorem rleans_any (s : Sc) (A : Option Addr) (c : Nat) (hl : s.length ≤ 9223372036854775807) (F : Nat → Prop) {y : Nat} (hy : y < s.length) : ∀ (e : Ex) (out : Bool) (W : World) (F' : Nat → Prop) (cs : List Value), ScAt W F A s → ExAt W F' e cs → chkE s y e = 0 → (leansE s y e out).length ≤ 1000000 →
    Calls Tryz.prog 83 #[.agg #[.slice A s.length c], .int .i64 (y : Int), .agg cs.toArray, .bool out] W (LnRow W (leansE s y e out)) := by
  intro e
  refine Ex.all (P := fun e => ∀ (out : Bool) (W : World) (F' : Nat → Prop) (cs : List Value), ScAt W F A s → ExAt W F' e cs → chkE s y e = 0 → (leansE s y e out).length ≤ 1000000 →
    Calls Tryz.prog 83 #[.agg #[.slice A s.length c], .int .i64 (y : Int), .agg cs.toArray, .bool out] W (LnRow W (leansE s y e out))) (fun k n o ks ih out W F' cs hs hE hchk hnd => ?_) e
  obtain ⟨E, m, rfl, ⟨⟨k1, k2⟩, hn, ho, hkl⟩, hr⟩ := hE.row
  show Calls _ _ #[.agg #[.slice A s.length c], .int .i64 (y : Int), .agg #[.int .i64 k, strV n, strV o, .slice E ks.length m], .bool out] _ _
  obtain ⟨V, hV⟩ : ∃ V, V = leansE s y (.mk k n o ks) out := ⟨_, rfl⟩
  rw [← hV] at hnd ⊢
  unfold leansE at hV
  unfold chkE at hchk
  obtain ⟨W1, hW⟩ : ∃ W1, W1 = (W.alloc (.cells #[.slice A s.length c] 24)).alloc (.cells #[.int .i64 k, strV n, strV o, .slice E ks.length m] 44) := ⟨_, rfl⟩
  have HKA : Hid (Blk W1 W.heap.size [.slice A s.length c] 24) := by rw [hW]; exact Lib.hid ((Blk.new W _ _).alloc _)
  have HKE : Hid (Blk W1 (W.heap.size + 1) [.int .i64 k, strV n, strV o, .slice E ks.length m] 44) := by
    rw [hW]
    have := Blk.new (W.alloc (.cells #[.slice A s.length c] 24)) [.int .i64 k, strV n, strV o, .slice E ks.length m] 44
    rw [World.size_alloc] at this
    exact Lib.hid this
  have HB0 : Hid (Below W.heap.size W W1) := by rw [hW]; exact Lib.hid (((Below.refl _ _).alloc (Nat.le_refl _) _).alloc (by simp) _)
  have HW := Lib.hid hW
  have HR := Lib.hid hr
  have HI := Lib.hid ih
  have HX : Hid (∀ w, Below W1.heap.size W1 w → w.cell? ⟨W.heap.size, 0, none⟩ = some (.slice A s.length c) ∧ w.cell? ⟨W.heap.size + 1, 0, none⟩ = some (.int .i64 k) ∧ w.cell? ⟨W.heap.size + 1, 1, none⟩ = some (strV n) ∧ w.cell? ⟨W.heap.size + 1, 2, none⟩ = some (strV o) ∧ w.cell? ⟨W.heap.size + 1, 3, none⟩ = some (.slice E ks.length m)) := Lib.hid (fun w hw => by
    have h1 := HKA.out.below hw HKA.out.lt
    have h2 := HKE.out.below hw HKE.out.lt
    exact ⟨h1.cell (i := 0) (by simp), h2.cell (i := 0) (by simp), h2.cell (i := 1) (by simp), h2.cell (i := 2) (by simp), h2.cell (i := 3) (by simp)⟩)
  have HS : Hid (∀ w, Below W1.heap.size W1 w → ScAt w F A s) := Lib.hid (fun w hw => hs.below (HB0.out.trans (hw.mono HB0.out.size)))
  obtain ⟨i0, z0, hRW⟩ := rowLn
  have HRW := Lib.hid hRW
  have HSC := Lib.hid hs
  clear hW hs hE hr ih hRW
  by_cases h0 : 0 < ks.length
  · rw [if_pos h0] at hV
    have HV : Hid (V = [] ++ leansL s y k (ks.drop 0) 0 out) := Lib.hid (by rw [hV]; rfl)
    have HCK : Hid (∀ x ∈ ks, chkE s y x = 0) := Lib.hid (by
      have h1 : chkL s y ks = 0 := by
        by_cases h2 : chkL s y ks = 0
        · exact h2
        · rw [if_pos h2] at hchk; exact absurd hchk h2
      clear hV HV hkl HR HI h0 hchk HKE HX HW
      induction ks with
      | nil => intro x hx; cases hx
      | cons z r ihr =>
        unfold chkL at h1
        by_cases h3 : chkE s y z = 0
        · rw [if_neg (fun h => h h3)] at h1
          intro x hx
          rcases List.mem_cons.1 hx with rfl | hx
          · exact h3
          · exact ihr h1 x hx
        · rw [if_pos h3] at h1; exact absurd h1 h3)
    clear hV hchk
    go_enter Tryz.func83, Tryz.ntmps83
    go_wp2_with fail
    rw [← HW.out]
    go_loopw [9, 10] (fun v i wr => ∃ (j : Nat) (acc : List Ln) (A2 : Option Addr) (n2 c2 : Nat), j ≤ ks.length ∧ i = .int .i64 j ∧ v = .slice A2 n2 c2 ∧ n2 = acc.length ∧ Hid (V = acc ++ leansL s y k (ks.drop j) j out) ∧ Hid (wr.ownsRow W1.heap.size 109 3 (.slice A2 n2 c2) n2 (acc.flatMap lnC)) ∧ Hid (Below W1.heap.size W1 wr)) (fun _ i _ => ks.length - (intOf i).toNat)
    case atStart => exact ⟨0, [], none, 0, 0, by omega, rfl, rfl, rfl, HV, Lib.hid (World.ownsRow_nil _ _ _ _), Lib.hid (Below.refl _ _)⟩
    case round =>
      obtain ⟨j, acc, A2, n2, c2, hj, rfl, rfl, hn2, H, HOW, BW⟩ := hrel
      obtain ⟨x0, y0, _, _, y3⟩ := HX.out wr BW.out
      by_cases hlt : j < ks.length
      · have HD := Lib.hid (leansL_drop (s := s) (t := y) (k := k) (out := out) hlt)
        obtain ⟨b, off, k3, n3, o3, A3, m3, c3, rfl, hE3, hc3⟩ := HR.out.kid hlt
        have hbw : Below W.heap.size W wr := HB0.out.trans (BW.out.mono HB0.out.size)
        obtain ⟨BO, hBO⟩ : ∃ BO, (out || (decide (k = 4) && decide (j = 1))) = BO := ⟨_, rfl⟩
        rw [hBO] at HD
        have hle : acc.length + (leansE s y ks[j] BO).length ≤ 1000000 := by
          have h1 := congrArg List.length H.out
          rw [HD.out, List.length_append, List.length_append] at h1
          omega
        have HC := Lib.hid (HI.out ks[j] (List.getElem_mem hlt) BO wr.drew F' _ (HS.out wr.drew BW.out.drew) (ExAt.below hbw.drew hE3) (HCK.out _ (List.getElem_mem hlt)) (by omega))
        have HC : Hid (Calls Tryz.prog 83 #[.agg #[.slice A s.length c], .int .i64 (y : Int), .agg #[.int .i64 k3, strV n3, strV o3, .slice A3 m3 c3], .bool BO] wr.drew (LnRow wr.drew (leansE s y ks[j] BO))) := HC
        have HC3 : Hid (∀ W', Below W.heap.size W W' → W'.cell? ⟨b, off + j * 4, none⟩ = some (.int .i64 k3) ∧ W'.cell? ⟨b, off + j * 4 + 1, none⟩ = some (strV n3) ∧ W'.cell? ⟨b, off + j * 4 + 2, none⟩ = some (strV o3) ∧ W'.cell? ⟨b, off + j * 4 + 3, none⟩ = some (.slice A3 m3 c3)) := Lib.hid (fun W' hW' => by have h := hc3 W' hW'; unfold ExFour at h; exact h)
        have hN : ∀ w, Below W1.heap.size W1 w → (Below W1.heap.size W1 w ∧ w.cell? ⟨W.heap.size, 0, none⟩ = some (.slice A s.length c) ∧ w.cell? ⟨W.heap.size + 1, 0, none⟩ = some (.int .i64 k) ∧ w.cell? ⟨W.heap.size + 1, 3, none⟩ = some (.slice (some ⟨b, off, none⟩) ks.length m) ∧ (w.cell? ⟨b, off + j * 4, none⟩ = some (.int .i64 k3) ∧ w.cell? ⟨b, off + j * 4 + 1, none⟩ = some (strV n3) ∧ w.cell? ⟨b, off + j * 4 + 2, none⟩ = some (strV o3) ∧ w.cell? ⟨b, off + j * 4 + 3, none⟩ = some (.slice A3 m3 c3))) := fun w hw => by
          have h := HX.out w hw
          exact ⟨hw, h.1, h.2.1, h.2.2.2.2, HC3.out w (HB0.out.trans (hw.mono HB0.out.size))⟩
        have hS0 : (Below W1.heap.size W1 wr.drew ∧ wr.drew.cell? ⟨W.heap.size, 0, none⟩ = some (.slice A s.length c) ∧ wr.drew.cell? ⟨W.heap.size + 1, 0, none⟩ = some (.int .i64 k) ∧ wr.drew.cell? ⟨W.heap.size + 1, 3, none⟩ = some (.slice (some ⟨b, off, none⟩) ks.length m) ∧ (wr.drew.cell? ⟨b, off + j * 4, none⟩ = some (.int .i64 k3) ∧ wr.drew.cell? ⟨b, off + j * 4 + 1, none⟩ = some (strV n3) ∧ wr.drew.cell? ⟨b, off + j * 4 + 2, none⟩ = some (strV o3) ∧ wr.drew.cell? ⟨b, off + j * 4 + 3, none⟩ = some (.slice A3 m3 c3))) := hN wr.drew BW.out.drew
        have HN := Lib.hid hN
        have HNE := Lib.hid (leans_ne s y ks[j] BO)
        have H2 : Hid (V = (acc ++ leansE s y ks[j] BO) ++ leansL s y k (ks.drop (j + 1)) (j + 1) out) := Lib.hid (by rw [H.out, HD.out, List.append_assoc])
        generalize leansE s y ks[j] BO = sub at *
        have HLE := Lib.hid hle
        clear hc3 hE3 hN hbw HD H hle
        subst hn2
        obtain ⟨_, s1, s2, s3, s4, s5, s6, s7⟩ := hS0
        cases out
        · by_cases hk4 : k = 4
          · have d0 : (k == 4) = true := by rw [hk4]; rfl
            rw [decide_eq_true hk4] at hBO
            clear hk4
            by_cases hj1 : j = 1
            · have hBO' : BO = true := by rw [← hBO, hj1]; rfl
              subst hBO'
              have d1 : ((j : Int) == 1) = true := by rw [hj1]; rfl
              clear hBO hj1
              go_wp2_with fail
              have hS0 : (Below W1.heap.size W1 wr.drew ∧ wr.drew.cell? ⟨W.heap.size, 0, none⟩ = some (.slice A s.length c) ∧ wr.drew.cell? ⟨W.heap.size + 1, 0, none⟩ = some (.int .i64 k) ∧ wr.drew.cell? ⟨W.heap.size + 1, 3, none⟩ = some (.slice (some ⟨b, off, none⟩) ks.length m) ∧ (wr.drew.cell? ⟨b, off + j * 4, none⟩ = some (.int .i64 k3) ∧ wr.drew.cell? ⟨b, off + j * 4 + 1, none⟩ = some (strV n3) ∧ wr.drew.cell? ⟨b, off + j * 4 + 2, none⟩ = some (strV o3) ∧ wr.drew.cell? ⟨b, off + j * 4 + 3, none⟩ = some (.slice A3 m3 c3))) := HN.out wr.drew BW.out.drew
              first | (go_region_held_law (fun (w : World) => (Below W1.heap.size W1 w ∧ w.cell? ⟨W.heap.size, 0, none⟩ = some (.slice A s.length c) ∧ w.cell? ⟨W.heap.size + 1, 0, none⟩ = some (.int .i64 k) ∧ w.cell? ⟨W.heap.size + 1, 3, none⟩ = some (.slice (some ⟨b, off, none⟩) ks.length m) ∧ (w.cell? ⟨b, off + j * 4, none⟩ = some (.int .i64 k3) ∧ w.cell? ⟨b, off + j * 4 + 1, none⟩ = some (strV n3) ∧ w.cell? ⟨b, off + j * 4 + 2, none⟩ = some (strV o3) ∧ w.cell? ⟨b, off + j * 4 + 3, none⟩ = some (.slice A3 m3 c3)))) (with_reducible assumption) (first
                | (go_at_call 83; (with_reducible refine HC.out.mono ?_); rintro r w5 ⟨A1, c1, rfl, ho1, hb1⟩; obtain ⟨g1, rfl, hcs⟩ := LnRow.cells ho1 HNE.out; have HCS := Lib.hid hcs; have hbd := hop BW.out.drew hb1; have HBD := Lib.hid hbd; have HO5 := Lib.hid (own_spared HOW.out (Spared.of_below (hop (Below.refl wr.heap.size wr).drew hb1) (fun _ => False)) (fun k hk => hk.elim)); have hS5 := HN.out w5 hbd; clear hcs hbd hb1 ho1)
                | (refine step_append_rows w5 rfl (.tmp 23) (.tmp 41) 104 rfl HRW.out (by decide) (by decide) W1.heap.size A2 acc.length c2 (acc.flatMap lnC) ⟨g1, 0, none⟩ sub.length c1 (sub.flatMap lnC) (lnC_len sub) (by first | rfl | (simp [Act.eval]; done)) (by first | rfl | (simp [Act.eval]; done)) HCS.out HBD.out.size HO5.out (lnC_one sub) HLE.out ?_; intro A4 c4 w6 ho6 hb6; have HO6 := Lib.hid ho6; have HB6 := Lib.hid (HBD.out.trans hb6); have hS6 := HN.out w6 HB6.out; clear ho6 hb6))) | fail
              go_wp2_with fail
              go_roundw
              case rel => exact ⟨j + 1, acc ++ sub, A4, acc.length + sub.length, c4, by omega, by go_num, rfl, by rw [List.length_append], H2, Lib.hid (by rw [List.flatMap_append]; exact HO6.out), HB6⟩
              case measure => simp [intOf]; omega
            · have hBO' : BO = false := by rw [← hBO, decide_eq_false hj1]; rfl
              subst hBO'
              have d1 : ((j : Int) == 1) = false := beq_eq_false_iff_ne.2 (by omega)
              clear hBO hj1
              go_wp2_with fail
              have hS0 : (Below W1.heap.size W1 wr.drew ∧ wr.drew.cell? ⟨W.heap.size, 0, none⟩ = some (.slice A s.length c) ∧ wr.drew.cell? ⟨W.heap.size + 1, 0, none⟩ = some (.int .i64 k) ∧ wr.drew.cell? ⟨W.heap.size + 1, 3, none⟩ = some (.slice (some ⟨b, off, none⟩) ks.length m) ∧ (wr.drew.cell? ⟨b, off + j * 4, none⟩ = some (.int .i64 k3) ∧ wr.drew.cell? ⟨b, off + j * 4 + 1, none⟩ = some (strV n3) ∧ wr.drew.cell? ⟨b, off + j * 4 + 2, none⟩ = some (strV o3) ∧ wr.drew.cell? ⟨b, off + j * 4 + 3, none⟩ = some (.slice A3 m3 c3))) := HN.out wr.drew BW.out.drew
              first | (go_region_held_law (fun (w : World) => (Below W1.heap.size W1 w ∧ w.cell? ⟨W.heap.size, 0, none⟩ = some (.slice A s.length c) ∧ w.cell? ⟨W.heap.size + 1, 0, none⟩ = some (.int .i64 k) ∧ w.cell? ⟨W.heap.size + 1, 3, none⟩ = some (.slice (some ⟨b, off, none⟩) ks.length m) ∧ (w.cell? ⟨b, off + j * 4, none⟩ = some (.int .i64 k3) ∧ w.cell? ⟨b, off + j * 4 + 1, none⟩ = some (strV n3) ∧ w.cell? ⟨b, off + j * 4 + 2, none⟩ = some (strV o3) ∧ w.cell? ⟨b, off + j * 4 + 3, none⟩ = some (.slice A3 m3 c3)))) (with_reducible assumption) (first
                | (go_at_call 83; (with_reducible refine HC.out.mono ?_); rintro r w5 ⟨A1, c1, rfl, ho1, hb1⟩; obtain ⟨g1, rfl, hcs⟩ := LnRow.cells ho1 HNE.out; have HCS := Lib.hid hcs; have hbd := hop BW.out.drew hb1; have HBD := Lib.hid hbd; have HO5 := Lib.hid (own_spared HOW.out (Spared.of_below (hop (Below.refl wr.heap.size wr).drew hb1) (fun _ => False)) (fun k hk => hk.elim)); have hS5 := HN.out w5 hbd; clear hcs hbd hb1 ho1)
                | (refine step_append_rows w5 rfl (.tmp 23) (.tmp 41) 104 rfl HRW.out (by decide) (by decide) W1.heap.size A2 acc.length c2 (acc.flatMap lnC) ⟨g1, 0, none⟩ sub.length c1 (sub.flatMap lnC) (lnC_len sub) (by first | rfl | (simp [Act.eval]; done)) (by first | rfl | (simp [Act.eval]; done)) HCS.out HBD.out.size HO5.out (lnC_one sub) HLE.out ?_; intro A4 c4 w6 ho6 hb6; have HO6 := Lib.hid ho6; have HB6 := Lib.hid (HBD.out.trans hb6); have hS6 := HN.out w6 HB6.out; clear ho6 hb6))) | fail
              go_wp2_with fail
              go_roundw
              case rel => exact ⟨j + 1, acc ++ sub, A4, acc.length + sub.length, c4, by omega, by go_num, rfl, by rw [List.length_append], H2, Lib.hid (by rw [List.flatMap_append]; exact HO6.out), HB6⟩
              case measure => simp [intOf]; omega
          · have hBO' : BO = false := by rw [← hBO, decide_eq_false hk4]; rfl
            subst hBO'
            have d1 : (k == 4) = false := beq_eq_false_iff_ne.2 hk4
            clear hBO
            go_wp2_with fail
            have hS0 : (Below W1.heap.size W1 wr.drew ∧ wr.drew.cell? ⟨W.heap.size, 0, none⟩ = some (.slice A s.length c) ∧ wr.drew.cell? ⟨W.heap.size + 1, 0, none⟩ = some (.int .i64 k) ∧ wr.drew.cell? ⟨W.heap.size + 1, 3, none⟩ = some (.slice (some ⟨b, off, none⟩) ks.length m) ∧ (wr.drew.cell? ⟨b, off + j * 4, none⟩ = some (.int .i64 k3) ∧ wr.drew.cell? ⟨b, off + j * 4 + 1, none⟩ = some (strV n3) ∧ wr.drew.cell? ⟨b, off + j * 4 + 2, none⟩ = some (strV o3) ∧ wr.drew.cell? ⟨b, off + j * 4 + 3, none⟩ = some (.slice A3 m3 c3))) := HN.out wr.drew BW.out.drew
            first | (go_region_held_law (fun (w : World) => (Below W1.heap.size W1 w ∧ w.cell? ⟨W.heap.size, 0, none⟩ = some (.slice A s.length c) ∧ w.cell? ⟨W.heap.size + 1, 0, none⟩ = some (.int .i64 k) ∧ w.cell? ⟨W.heap.size + 1, 3, none⟩ = some (.slice (some ⟨b, off, none⟩) ks.length m) ∧ (w.cell? ⟨b, off + j * 4, none⟩ = some (.int .i64 k3) ∧ w.cell? ⟨b, off + j * 4 + 1, none⟩ = some (strV n3) ∧ w.cell? ⟨b, off + j * 4 + 2, none⟩ = some (strV o3) ∧ w.cell? ⟨b, off + j * 4 + 3, none⟩ = some (.slice A3 m3 c3)))) (with_reducible assumption) (first
              | (go_at_call 83; (with_reducible refine HC.out.mono ?_); rintro r w5 ⟨A1, c1, rfl, ho1, hb1⟩; obtain ⟨g1, rfl, hcs⟩ := LnRow.cells ho1 HNE.out; have HCS := Lib.hid hcs; have hbd := hop BW.out.drew hb1; have HBD := Lib.hid hbd; have HO5 := Lib.hid (own_spared HOW.out (Spared.of_below (hop (Below.refl wr.heap.size wr).drew hb1) (fun _ => False)) (fun k hk => hk.elim)); have hS5 := HN.out w5 hbd; clear hcs hbd hb1 ho1)
              | (refine step_append_rows w5 rfl (.tmp 23) (.tmp 41) 104 rfl HRW.out (by decide) (by decide) W1.heap.size A2 acc.length c2 (acc.flatMap lnC) ⟨g1, 0, none⟩ sub.length c1 (sub.flatMap lnC) (lnC_len sub) (by first | rfl | (simp [Act.eval]; done)) (by first | rfl | (simp [Act.eval]; done)) HCS.out HBD.out.size HO5.out (lnC_one sub) HLE.out ?_; intro A4 c4 w6 ho6 hb6; have HO6 := Lib.hid ho6; have HB6 := Lib.hid (HBD.out.trans hb6); have hS6 := HN.out w6 HB6.out; clear ho6 hb6))) | fail
            go_wp2_with fail
            go_roundw
            case rel => exact ⟨j + 1, acc ++ sub, A4, acc.length + sub.length, c4, by omega, by go_num, rfl, by rw [List.length_append], H2, Lib.hid (by rw [List.flatMap_append]; exact HO6.out), HB6⟩
            case measure => simp [intOf]; omega
        · have hBO' : BO = true := by rw [← hBO]; rfl
          subst hBO'
          clear hBO
          go_wp2_with fail
          have hS0 : (Below W1.heap.size W1 wr.drew ∧ wr.drew.cell? ⟨W.heap.size, 0, none⟩ = some (.slice A s.length c) ∧ wr.drew.cell? ⟨W.heap.size + 1, 0, none⟩ = some (.int .i64 k) ∧ wr.drew.cell? ⟨W.heap.size + 1, 3, none⟩ = some (.slice (some ⟨b, off, none⟩) ks.length m) ∧ (wr.drew.cell? ⟨b, off + j * 4, none⟩ = some (.int .i64 k3) ∧ wr.drew.cell? ⟨b, off + j * 4 + 1, none⟩ = some (strV n3) ∧ wr.drew.cell? ⟨b, off + j * 4 + 2, none⟩ = some (strV o3) ∧ wr.drew.cell? ⟨b, off + j * 4 + 3, none⟩ = some (.slice A3 m3 c3))) := HN.out wr.drew BW.out.drew
          refine wp_region_held_drew (S := fun (w : World) => (Below W1.heap.size W1 w ∧ w.cell? ⟨W.heap.size, 0, none⟩ = some (.slice A s.length c) ∧ w.cell? ⟨W.heap.size + 1, 0, none⟩ = some (.int .i64 k) ∧ w.cell? ⟨W.heap.size + 1, 3, none⟩ = some (.slice (some ⟨b, off, none⟩) ks.length m) ∧ (w.cell? ⟨b, off + j * 4, none⟩ = some (.int .i64 k3) ∧ w.cell? ⟨b, off + j * 4 + 1, none⟩ = some (strV n3) ∧ w.cell? ⟨b, off + j * 4 + 2, none⟩ = some (strV o3) ∧ w.cell? ⟨b, off + j * 4 + 3, none⟩ = some (.slice A3 m3 c3)))) (by kernel_rfl) hS0 (fun _ => ?_)
          refine wpAnyH_take (i := 0) (oi := ⟨some 23, _, _, _, _, _⟩) (v := .slice A2 acc.length c2) rfl (by kernel_rfl) (by kernel_rfl) (by kernel_rfl) (fun _ _ _ h => h) (Or.inl ⟨by rfl, fun w hw => by (obtain ⟨q0, q1, q2, q3, q4, q5, q6, q7⟩ := hw; go_simp)⟩) hS0 ?_
          simp only [Act.put, List.setIfInBounds_toArray, List.set_cons_zero, List.set_cons_succ]
          refine wpAnyH_take (i := 1) (oi := ⟨some 24, _, _, _, _, _⟩) (v := .agg #[.slice A s.length c]) rfl (by kernel_rfl) (by kernel_rfl) (by kernel_rfl) (fun _ _ _ h => h) (Or.inl ⟨by rfl, fun w hw => by (obtain ⟨q0, q1, q2, q3, q4, q5, q6, q7⟩ := hw; go_simp)⟩) hS0 ?_
          simp only [Act.put, List.setIfInBounds_toArray, List.set_cons_zero, List.set_cons_succ]
          refine wpAnyH_take (i := 2) (oi := ⟨some 25, _, _, _, _, _⟩) (v := .int .i64 (y : Int)) rfl (by kernel_rfl) (by kernel_rfl) (by kernel_rfl) (fun _ _ _ h => h) (Or.inl ⟨by rfl, fun w hw => by (obtain ⟨q0, q1, q2, q3, q4, q5, q6, q7⟩ := hw; go_simp)⟩) hS0 ?_
          simp only [Act.put, List.setIfInBounds_toArray, List.set_cons_zero, List.set_cons_succ]
          refine wpAnyH_take (i := 3) (oi := ⟨some 26, _, _, _, _, _⟩) (v := .pointer (some ⟨W.heap.size + 1, 3, none⟩)) rfl (by kernel_rfl) (by kernel_rfl) (by kernel_rfl) (fun _ _ _ h => h) (Or.inl ⟨by rfl, fun w hw => by (obtain ⟨q0, q1, q2, q3, q4, q5, q6, q7⟩ := hw; go_simp)⟩) hS0 ?_
          simp only [Act.put, List.setIfInBounds_toArray, List.set_cons_zero, List.set_cons_succ]
          refine wpAnyH_take (i := 4) (oi := ⟨some 27, _, _, _, _, _⟩) (v := .slice (some ⟨b, off, none⟩) ks.length m) rfl (by kernel_rfl) (by kernel_rfl) (by kernel_rfl) (fun _ _ _ h => h) (Or.inl ⟨by rfl, fun w hw => by (obtain ⟨q0, q1, q2, q3, q4, q5, q6, q7⟩ := hw; go_simp)⟩) hS0 ?_
          simp only [Act.put, List.setIfInBounds_toArray, List.set_cons_zero, List.set_cons_succ]
          refine wpAnyH_take (i := 5) (oi := ⟨some 28, _, _, _, _, _⟩) (v := .int .i64 (j : Int)) rfl (by kernel_rfl) (by kernel_rfl) (by kernel_rfl) (fun _ _ _ h => h) (Or.inl ⟨by rfl, fun w hw => by (obtain ⟨q0, q1, q2, q3, q4, q5, q6, q7⟩ := hw; go_simp)⟩) hS0 ?_
          simp only [Act.put, List.setIfInBounds_toArray, List.set_cons_zero, List.set_cons_succ]
          refine wpAnyH_take (i := 6) (oi := ⟨some 29, _, _, _, _, _⟩) (v := .pointer (some ⟨b, off + j * 4, none⟩)) rfl (by kernel_rfl) (by kernel_rfl) (by kernel_rfl) (fun _ _ _ h => h) (Or.inl ⟨by rfl, fun w hw => by (obtain ⟨q0, q1, q2, q3, q4, q5, q6, q7⟩ := hw; go_simp)⟩) hS0 ?_
          simp only [Act.put, List.setIfInBounds_toArray, List.set_cons_zero, List.set_cons_succ]
          refine wpAnyH_take (i := 7) (oi := ⟨some 30, _, _, _, _, _⟩) (v := .agg #[.int .i64 k3, strV n3, strV o3, .slice A3 m3 c3]) rfl (by kernel_rfl) (by kernel_rfl) (by kernel_rfl) (fun _ _ _ h => h) (Or.inl ⟨by rfl, fun w hw => by (obtain ⟨q0, q1, q2, q3, q4, q5, q6, q7⟩ := hw; go_simp)⟩) hS0 ?_
          simp only [Act.put, List.setIfInBounds_toArray, List.set_cons_zero, List.set_cons_succ]
          refine wpAnyH_take (i := 8) (oi := ⟨some 31, _, _, _, _, _⟩) (v := .bool true) rfl (by kernel_rfl) (by kernel_rfl) (by kernel_rfl) (fun _ _ _ h => h) (Or.inl ⟨by rfl, fun w hw => by (obtain ⟨q0, q1, q2, q3, q4, q5, q6, q7⟩ := hw; go_simp)⟩) hS0 ?_
          simp only [Act.put, List.setIfInBounds_toArray, List.set_cons_zero, List.set_cons_succ]
          refine wpAnyH_take (i := 9) (oi := ⟨some 32, _, _, _, _, _⟩) (v := .bool true) rfl (by kernel_rfl) (by kernel_rfl) (by kernel_rfl) (fun _ _ _ h => h) (Or.inl ⟨by rfl, fun w hw => by (obtain ⟨q0, q1, q2, q3, q4, q5, q6, q7⟩ := hw; go_simp)⟩) hS0 ?_
          simp only [Act.put, List.setIfInBounds_toArray, List.set_cons_zero, List.set_cons_succ]
          refine wpAnyH_take (i := 10) (oi := ⟨some 33, _, _, _, _, _⟩) (v := undef) rfl (by kernel_rfl) (by kernel_rfl) (by kernel_rfl) (fun _ _ _ h => h) (Or.inr ⟨by rfl, rfl⟩) hS0 ?_
          simp only [Act.put, List.setIfInBounds_toArray, List.set_cons_zero, List.set_cons_succ]
          refine wpAnyH_take (i := 11) (oi := ⟨some 34, _, _, _, _, _⟩) (v := undef) rfl (by kernel_rfl) (by kernel_rfl) (by kernel_rfl) (fun _ _ _ h => h) (Or.inr ⟨by rfl, rfl⟩) hS0 ?_
          simp only [Act.put, List.setIfInBounds_toArray, List.set_cons_zero, List.set_cons_succ]
          refine wpAnyH_take (i := 12) (oi := ⟨some 35, _, _, _, _, _⟩) (v := undef) rfl (by kernel_rfl) (by kernel_rfl) (by kernel_rfl) (fun _ _ _ h => h) (Or.inr ⟨by rfl, rfl⟩) hS0 ?_
          simp only [Act.put, List.setIfInBounds_toArray, List.set_cons_zero, List.set_cons_succ]
          refine wpAnyH_take (i := 13) (oi := ⟨some 36, _, _, _, _, _⟩) (v := undef) rfl (by kernel_rfl) (by kernel_rfl) (by kernel_rfl) (fun _ _ _ h => h) (Or.inr ⟨by rfl, rfl⟩) hS0 ?_
          simp only [Act.put, List.setIfInBounds_toArray, List.set_cons_zero, List.set_cons_succ]
          refine wpAnyH_take (i := 14) (oi := ⟨some 37, _, _, _, _, _⟩) (v := undef) rfl (by kernel_rfl) (by kernel_rfl) (by kernel_rfl) (fun _ _ _ h => h) (Or.inr ⟨by rfl, rfl⟩) hS0 ?_
          simp only [Act.put, List.setIfInBounds_toArray, List.set_cons_zero, List.set_cons_succ]
          refine wpAnyH_take (i := 15) (oi := ⟨some 38, _, _, _, _, _⟩) (v := undef) rfl (by kernel_rfl) (by kernel_rfl) (by kernel_rfl) (fun _ _ _ h => h) (Or.inr ⟨by rfl, rfl⟩) hS0 ?_
          simp only [Act.put, List.setIfInBounds_toArray, List.set_cons_zero, List.set_cons_succ]
          refine wpAnyH_take (i := 16) (oi := ⟨some 39, _, _, _, _, _⟩) (v := undef) rfl (by kernel_rfl) (by kernel_rfl) (by kernel_rfl) (fun _ _ _ h => h) (Or.inr ⟨by rfl, rfl⟩) hS0 ?_
          simp only [Act.put, List.setIfInBounds_toArray, List.set_cons_zero, List.set_cons_succ]
          refine wpAnyH_take (i := 17) (oi := ⟨some 40, _, _, _, _, _⟩) (v := .bool true) rfl (by kernel_rfl) (by kernel_rfl) (by kernel_rfl) (fun _ _ _ h => h) (Or.inl ⟨by rfl, fun w hw => by go_simp⟩) hS0 ?_
          simp only [Act.put, List.setIfInBounds_toArray, List.set_cons_zero, List.set_cons_succ]
          refine wpAnyH_ready (rs := [18]) (by kernel_rfl) (by simp) (AllReadyH.cons rfl (fun K hK => ?_) AllReadyH.nil)
          go_simp
          go_wp2_with (go_at_call 83; (with_reducible refine HC.out.mono ?_); rintro r w5 ⟨A1, c1, rfl, ho1, hb1⟩; obtain ⟨g1, rfl, hcs⟩ := LnRow.cells ho1 HNE.out; have HCS := Lib.hid hcs; have hbd := hop BW.out.drew hb1; have HBD := Lib.hid hbd; have HO5 := Lib.hid (own_spared HOW.out (Spared.of_below (hop (Below.refl wr.heap.size wr).drew hb1) (fun _ => False)) (fun k hk => hk.elim)); have hS5 := HN.out w5 hbd; clear hcs hbd hb1 ho1)
          refine hK.out _ _ hS5 (fun _ => ?_)
          clear hK K
          refine wpAnyH_ready (rs := [19]) (by kernel_rfl) (by simp) (AllReadyH.cons rfl (fun K hK => ?_) AllReadyH.nil)
          refine step_append_rows w5 rfl (.tmp 23) (.tmp 41) 104 rfl HRW.out (by decide) (by decide) W1.heap.size A2 acc.length c2 (acc.flatMap lnC) ⟨g1, 0, none⟩ sub.length c1 (sub.flatMap lnC) (lnC_len sub) (by first | rfl | (simp [Act.eval]; done)) (by first | rfl | (simp [Act.eval]; done)) HCS.out HBD.out.size HO5.out (lnC_one sub) HLE.out ?_
          intro A4 c4 w6 ho6 hb6
          have HO6 := Lib.hid ho6
          have HB6 := Lib.hid (HBD.out.trans hb6)
          have hS6 := HN.out w6 HB6.out
          clear ho6 hb6
          refine hK.out _ _ hS6 (fun _ => ?_)
          clear hK K
          simp only [Act.put, List.setIfInBounds_toArray, List.set_cons_zero, List.set_cons_succ]
          refine wpAnyH_take (i := 20) (oi := ⟨some 9, _, _, _, _, _⟩) (v := .slice A4 (acc.length + sub.length) c4) rfl (by kernel_rfl) (by kernel_rfl) (by kernel_rfl) (fun _ _ _ h => h) (Or.inl ⟨by rfl, fun w hw => by go_simp⟩) hS6 ?_
          simp only [Act.put, List.setIfInBounds_toArray, List.set_cons_zero, List.set_cons_succ]
          refine wpAnyH_done (by kernel_rfl) ?_ _
          go_wp2_with fail
          go_roundw
          case rel => exact ⟨j + 1, acc ++ sub, A4, acc.length + sub.length, c4, by omega, by go_num, rfl, by rw [List.length_append], H2, Lib.hid (by rw [List.flatMap_append]; exact HO6.out), HB6⟩
          case measure => simp [intOf]; omega
      · have HN : Hid (V = acc) := Lib.hid (by rw [H.out, List.drop_of_length_le (l := ks) (i := j) (by omega)]; unfold leansL; simp)
        have hd : decide (0 < ks.length) = true := decide_eq_true h0
        subst hn2
        go_wp2_with fail
        go_ret
        rw [HN.out]
        exact ⟨A2, c2, rfl, own_mono HOW.out HB0.out.size, HB0.out.trans (BW.out.mono HB0.out.size)⟩
  · obtain rfl : ks = [] := List.length_eq_zero_iff.1 (by omega)
    rw [if_neg h0] at hV
    have hlf : leafN s y k n o = 0 := by
      unfold chkL at hchk
      rw [if_neg (fun h => h rfl), if_neg (by decide)] at hchk
      exact hchk
    subst hV
    exact rleans_leaf s A c hl F hy k n o out W E m HSC.out hlf hnd
end Go.Proofs.YtdnhbledndgbcaaGreat
