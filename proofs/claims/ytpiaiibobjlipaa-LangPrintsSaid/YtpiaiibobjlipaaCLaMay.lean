/-
  Has a schema few parts (conciergelaw11's Few)? Conditions: it is there; the bound is from 0 to 1,000.
  May a relation, may a schema be printed (conciergeref11's mayRel, May)? Condition: it is there.
-/
import Derived.Test.YtpiaiibobjlipaaCLaS
import Derived.Test.YtpiaiibobjlipaaCLaSh
namespace Go.Proofs.Ytpiaiibobjlipaa
open Go.RowKit
theorem RowAt.rl {W : World} {F : Nat → Prop} {A : Option Addr} {ks : List Rl} (h : RowAt 6 RlAt W F A ks) {j : Nat} (hj : j < ks.length) :
    ∃ b off A' c k p q E m' c', A = some ⟨b, off, none⟩ ∧ (small ks[j].name ∧ ks[j].refs.length ≤ 9223372036854775807) ∧ RowAt 2 RfAt W F A' ks[j].refs ∧ ExAt W F ks[j].expr [.int .i64 k, strV p, strV q, .slice E m' c'] ∧
      ∀ W', Below W.heap.size W W' → RlSix W' b (off + j * 6) ks[j].name A' ks[j].refs.length c k p q E m' c' := by
  rcases h with rfl | ⟨b, off, rfl, hb, _, hk⟩
  · simp at hj
  · obtain ⟨cs, h1, h2⟩ := hk j hj
    obtain ⟨A', c, k, n, o, E, m, d, rfl, h3, h4, h5⟩ := h1.six
    refine ⟨b, off, A', c, k, n, o, E, m, d, rfl, h3, h4, h5, fun W' hW => ?_⟩
    have hc : ∀ i, i < 6 → W'.cell? ⟨b, off + j * 6 + i, none⟩ = [strV ks[j].name, .slice A' ks[j].refs.length c, .int .i64 k, strV n, strV o, .slice E m d][i]? := fun i hi => (hW.cell (p := ⟨b, off + j * 6 + i, none⟩) hb).trans (h2 i hi)
    exact ⟨hc 0 (by decide), hc 1 (by decide), hc 2 (by decide), hc 3 (by decide), hc 4 (by decide), hc 5 (by decide)⟩
def fewRs (most : Int) : List Rl → Int → Option Int
  | [], n => some n
  | x :: r, n => if 0 < n then (if most < x.refs.length ∨ 100 < x.name.length then none else fewRs most r (weightE x.expr (n - x.refs.length))) else some n
def fewTs (most : Int) : List Ty → Int → Option Int
  | [], n => some n
  | t :: r, n => if 0 < n then (if 100 < t.name.length then none else (fewRs most t.rels n).bind (fewTs most r)) else some n
def okN : Option Int → Bool
  | none => false
  | some n => decide (0 < n)
def fewS (s : Sc) (most : Int) : Bool := okN (fewTs most s (most - s.length))
set_option maxHeartbeats 2000000 in
theorem few_any (s : Sc) (most : Int) (W : World) (F : Nat → Prop) (A : Option Addr) (c : Nat) (hs : ScAt W F A s) (hl : s.length ≤ 9223372036854775807) (hm : 0 ≤ most ∧ most ≤ 1000) :
    Calls Try.prog 12 #[.agg #[.slice A s.length c], .int .i64 most] W fun r w' => r = .returned (.bool (fewS s most)) ∧ Below W.heap.size W w' := by
  obtain ⟨v, hv⟩ : ∃ v, v = fewS s most := ⟨_, rfl⟩
  rw [← hv]
  unfold fewS at hv
  obtain ⟨m1, m2⟩ := hm
  obtain ⟨W1, hW⟩ : ∃ W1, W1 = W.alloc (.cells #[.slice A s.length c] 25) := ⟨_, rfl⟩
  have HK0 : Hid (Blk W1 W.heap.size [.slice A s.length c] 25) := by rw [hW]; exact Lib.hid (Blk.new W _ _)
  have HB0 : Hid (Below W.heap.size W W1) := by rw [hW]; exact Lib.hid ((Below.refl W.heap.size W).alloc (Nat.le_refl _) _)
  have HS : Hid (RowAt 2 TyAt W F A s) := Lib.hid hs
  have HW := Lib.hid hW
  have HV := Lib.hid hv
  clear hs hW hv
  go_enter Try.func12, Try.ntmps12
  go_wp2_with fail
  rw [← HW.out]
  go_loopw [5, 6] (fun sn i wr => ∃ (j : Nat) (q : Int), j ≤ s.length ∧ i = .int .i64 j ∧ sn = .int .i64 q ∧ (-9223372036854775808 ≤ q ∧ q ≤ 1000) ∧ Hid (okN (fewTs most (s.drop j) q) = v) ∧ Hid (Below W1.heap.size W1 wr)) (fun _ i _ => s.length - (intOf i).toNat)
  case atStart => exact ⟨0, most - s.length, by omega, rfl, rfl, by omega, Lib.hid HV.out.symm, Lib.hid (Below.refl _ _)⟩
  case round =>
    obtain ⟨j, q, hj, rfl, rfl, ⟨q1, q2⟩, HQ, BW⟩ := hrel
    have x1 := (HK0.out.below BW.out HK0.out.lt).cell (i := 0) (by simp)
    simp only [List.getElem_cons_zero] at x1
    by_cases hlt : j < s.length
    · have HD := Lib.hid (List.drop_eq_getElem_cons hlt)
      by_cases hq : 0 < q
      · obtain ⟨b, off, B, d, rfl, ⟨_, hrl⟩, hr, hc⟩ := HS.out.ty hlt
        obtain ⟨z0, z1⟩ := hc wr (HB0.out.trans (BW.out.mono HB0.out.size))
        have HC1 := Lib.hid (fun w' hw => (hc w' hw).2)
        have HRL := Lib.hid hr
        obtain ⟨r, hr1⟩ : ∃ r, fewRs most s[j].rels q = r := ⟨_, rfl⟩
        have HN : Hid (okN (if 100 < s[j].name.length then none else r.bind (fewTs most (s.drop (j + 1)))) = v) := by
          show _ = _
          rw [← HQ.out, HD.out, fewTs, if_pos hq, hr1]
        have HRR := Lib.hid hr1
        clear hc hr hr1
        generalize s[j].name = nx at *
        generalize s[j].rels = rx at *
        by_cases e1 : 100 < nx.length
        · have HQ2 : Hid (v = false) := by show _ = _; rw [← HN.out, if_pos e1]; rfl
          clear HN
          go_wp2_with fail
          go_ret
          exact ⟨by rw [HQ2.out]; rfl, HB0.out.trans (BW.out.mono HB0.out.size)⟩
        · rw [if_neg e1] at HN
          have hd : decide (100 < nx.length) = false := decide_eq_false e1
          go_wp2_with fail
          go_loopw [5, 7] (fun sn i w3 => ∃ (p : Nat) (q : Int), p ≤ rx.length ∧ i = .int .i64 p ∧ sn = .int .i64 q ∧ (-9223372036854775808 ≤ q ∧ q ≤ 1000) ∧ Hid (fewRs most (rx.drop p) q = r) ∧ Hid (Below wr.heap.size wr w3)) (fun _ i _ => rx.length - (intOf i).toNat)
          case atStart => exact ⟨0, q, by omega, rfl, rfl, by omega, Lib.hid HRR.out, Lib.hid (Below.refl _ _)⟩
          case round =>
            rename World => w3
            obtain ⟨p, q', hp, rfl, rfl, ⟨q3, q4⟩, HP, BW2⟩ := hrel
            have hbw := BW.out.trans (BW2.out.mono BW.out.size)
            have HB3 := Lib.hid (HB0.out.trans (hbw.mono HB0.out.size))
            have x2 := (HK0.out.below hbw HK0.out.lt).cell (i := 0) (by simp)
            simp only [List.getElem_cons_zero] at x2
            have z2 := HC1.out w3 HB3.out
            have HBW := Lib.hid hbw
            clear hbw
            by_cases hpl : p < rx.length
            · have HE := Lib.hid (List.drop_eq_getElem_cons hpl)
              by_cases hq' : 0 < q'
              · obtain ⟨g, og, B1, c1, k1, p1, p2, E1, m2', c2, rfl, ⟨_, hrf⟩, _, hE, hcells⟩ := HRL.out.rl hpl
                obtain ⟨a0, a1, a2, a3, a4, a5⟩ := hcells w3 HB3.out
                have HQ5 : Hid ((if most < rx[p].refs.length ∨ 100 < rx[p].name.length then none else fewRs most (rx.drop (p + 1)) (weightE rx[p].expr (q' - rx[p].refs.length))) = r) := by
                  show _ = _
                  rw [← HP.out, HE.out, fewRs, if_pos hq']
                obtain ⟨ex, hex⟩ : ∃ ex, ex = rx[p].expr := ⟨_, rfl⟩
                rw [← hex] at HQ5 hE
                generalize rx[p].refs.length = lr at *
                generalize rx[p].name = nr at *
                clear hcells hex
                have HEX := Lib.hid hE
                clear hE
                by_cases c5 : most < lr ∨ 100 < nr.length
                · have HQ2 : Hid (v = false) := by
                    show _ = _
                    rw [← HN.out, ← HQ5.out, if_pos c5]; rfl
                  have c6 : most < lr ∨ (¬ most < lr ∧ decide (most < (lr : Int)) = false ∧ 100 < nr.length) := by
                    by_cases c7 : most < lr
                    · exact .inl c7
                    · exact .inr ⟨c7, decide_eq_false c7, c5.resolve_left c7⟩
                  clear c5 HQ5 HN
                  rcases c6 with c6 | ⟨c6, c7, c8⟩
                  all_goals go_wp2_with fail
                  all_goals go_ret
                  all_goals exact ⟨by rw [HQ2.out]; rfl, HB3.out.alloc (Nat.le_trans (Nat.le_refl _) HB3.out.size) _⟩
                · rw [if_neg c5] at HQ5
                  have c6 : ¬ most < lr := fun h => c5 (.inl h)
                  have c7 : decide (most < (lr : Int)) = false := decide_eq_false c6
                  have c8 : decide (100 < nr.length) = false := decide_eq_false (fun h => c5 (.inr h))
                  have c9 : ¬ 100 < nr.length := fun h => c5 (.inr h)
                  obtain ⟨W4, hW4⟩ : ∃ W4, W4 = w3.alloc (.cells #[strV nr, .slice B1 lr c1, .int .i64 k1, strV p1, strV p2, .slice E1 m2' c2] 48) := ⟨_, rfl⟩
                  have HB4 : Hid (Below wr.heap.size wr W4) := by rw [hW4]; exact Lib.hid (BW2.out.alloc BW2.out.size _)
                  have HB5 : Hid (Below W.heap.size W W4) := by rw [hW4]; exact Lib.hid (HB3.out.alloc HB3.out.size _)
                  have hwle := weightE_le ex (q' - lr)
                  have hwge := weightE_ge ex (q' - lr)
                  have HCW := Lib.hid (weight_any ex W4 F _ (q' - lr) (HEX.out.below HB5.out) (by omega))
                  obtain ⟨q5, hq5⟩ : ∃ q5, q5 = weightE ex (q' - lr) := ⟨_, rfl⟩
                  rw [← hq5] at HCW HQ5 hwle hwge
                  rw [hW4] at HCW
                  have HW4 := Lib.hid hW4
                  clear hW4 hq5 c5
                  go_wp2_with (go_at_call 13; refine HCW.out.mono ?_; rintro e w5 ⟨rfl, hb5⟩)
                  go_roundw
                  case rel => exact ⟨p + 1, q5, by omega, by go_num, rfl, by omega, HQ5, Lib.hid (by rw [← HW4.out] at hb5; exact HB4.out.trans (hb5.mono HB4.out.size))⟩
                  case measure => simp [intOf]; omega
              · have HQ2 : Hid (r = some q') := by
                  show _ = _
                  rw [← HP.out, HE.out, fewRs, if_neg hq']
                have hdq : decide (0 < q') = false := decide_eq_false hq'
                have HQ3 : Hid (okN (fewTs most (s.drop (j + 1)) q') = v) := by show _ = _; rw [← HN.out, HQ2.out]; rfl
                go_wp2_with fail
                go_roundw
                case rel => exact ⟨j + 1, q', by omega, by go_num, rfl, by omega, HQ3, HBW⟩
                case measure => simp [intOf]; omega
            · have HQ2 : Hid (r = some q') := by
                show _ = _
                rw [← HP.out, List.drop_of_length_le (by omega), fewRs]
              have HQ3 : Hid (okN (fewTs most (s.drop (j + 1)) q') = v) := by show _ = _; rw [← HN.out, HQ2.out]; rfl
              go_wp2_with fail
              go_roundw
              case rel => exact ⟨j + 1, q', by omega, by go_num, rfl, by omega, HQ3, HBW⟩
              case measure => simp [intOf]; omega
      · have HQ2 : Hid (v = false) := by
          show _ = _
          rw [← HQ.out, HD.out, fewTs, if_neg hq, okN, decide_eq_false hq]
        have hdq : decide (0 < q) = false := decide_eq_false hq
        go_wp2_with fail
        go_ret
        exact ⟨by rw [HQ2.out]; rfl, HB0.out.trans (BW.out.mono HB0.out.size)⟩
    · have HQ2 : Hid (v = decide (0 < q)) := by
        show _ = _
        rw [← HQ.out, List.drop_of_length_le (by omega), fewTs, okN]
      go_wp2_with fail
      go_ret
      exact ⟨by rw [HQ2.out]; rfl, HB0.out.trans (BW.out.mono HB0.out.size)⟩
end Go.Proofs.Ytpiaiibobjlipaa
namespace Go.Proofs.Ytpiaiibobjlipaa
open Go.RowKit
def mayRf (r : Rf) : Bool := nameL r.1 && (r.2.isEmpty || nameL r.2)
def mayR (x : Rl) : Bool := nameL x.name && (x.refs.all mayRf && (decide (0 < x.refs.length) || mayE x.expr 12))
def mayT (t : Ty) : Bool := nameL t.name && t.rels.all mayR
def mayS (s : Sc) : Bool := s.all mayT
theorem all_drop {α : Type} {p : α → Bool} {xs : List α} {j : Nat} (h : j < xs.length) : (xs.drop j).all p = (p xs[j] && (xs.drop (j + 1)).all p) := by
  rw [List.drop_eq_getElem_cons h, List.all_cons]
theorem RowAt.pairS {W : World} {F : Nat → Prop} {A : Option Addr} {ks : List Rf} (h : RowAt 2 RfAt W F A ks) {j : Nat} (hj : j < ks.length) : small ks[j].1 ∧ small ks[j].2 := by
  rcases h with rfl | ⟨b, off, rfl, hb, _, hk⟩
  · simp at hj
  · obtain ⟨cs, ⟨rfl, h1, h2⟩, _⟩ := hk j hj
    exact ⟨h1, h2⟩
set_option maxHeartbeats 2000000 in
theorem mayRel_any (x : Rl) (W : World) (F : Nat → Prop) (cs : List Value) (hx : RlAt W F x cs) :
    Calls Try.prog 39 #[.agg cs.toArray] W fun r w' => r = .returned (.bool (mayR x)) ∧ Below W.heap.size W w' := by
  obtain ⟨A, c, k, n, o, E, m, d, rfl, ⟨hn, hl⟩, hr, he⟩ := hx.six
  obtain ⟨v, hv⟩ : ∃ v, v = mayR x := ⟨_, rfl⟩
  rw [← hv]
  unfold mayR at hv
  obtain ⟨a, rs, ex⟩ := x
  dsimp only at *
  show Calls _ _ #[.agg #[strV a, .slice A rs.length c, .int .i64 k, strV n, strV o, .slice E m d]] _ _
  obtain ⟨W1, hW⟩ : ∃ W1, W1 = W.alloc (.cells #[strV a, .slice A rs.length c, .int .i64 k, strV n, strV o, .slice E m d] 48) := ⟨_, rfl⟩
  have HK0 : Hid (Blk W1 W.heap.size [strV a, .slice A rs.length c, .int .i64 k, strV n, strV o, .slice E m d] 48) := by rw [hW]; exact Lib.hid (Blk.new W _ _)
  have HB0 : Hid (Below W.heap.size W W1) := by rw [hW]; exact Lib.hid ((Below.refl W.heap.size W).alloc (Nat.le_refl _) _)
  have HNa := Lib.hid (fun W => refName_txt a W hn)
  have HR := Lib.hid hr
  have HE := Lib.hid he
  have HW := Lib.hid hW
  clear hr he hx hW
  obtain ⟨q, hq⟩ : ∃ q, nameL a = q := ⟨_, rfl⟩
  rw [hq] at HNa hv
  have HV := Lib.hid hv
  clear hq hv
  cases q
  · go_enter Try.func39, Try.ntmps39
    go_wp2_with (go_at_call 38; with_reducible refine (HNa.out _).mono ?_; rintro e w2 ⟨rfl, rfl⟩)
    go_ret
    exact ⟨by rw [HV.out]; rfl, by rw [← HW.out]; exact HB0.out⟩
  · go_enter Try.func39, Try.ntmps39
    go_wp2_with (go_at_call 38; with_reducible refine (HNa.out _).mono ?_; rintro e w2 ⟨rfl, rfl⟩)
    rw [← HW.out]
    go_loopw [4] (fun i wr => ∃ j : Nat, j ≤ rs.length ∧ i = .int .i64 j ∧ Hid (((rs.drop j).all mayRf && (decide (0 < rs.length) || mayE ex 12)) = v) ∧ Hid (Below W1.heap.size W1 wr)) (fun i _ => rs.length - (intOf i).toNat)
    case atStart => exact ⟨0, by omega, rfl, Lib.hid (by rw [HV.out]; simp), Lib.hid (Below.refl _ _)⟩
    case round =>
      obtain ⟨j, hj, rfl, HQ, BW⟩ := hrel
      by_cases hlt : j < rs.length
      · have HD := Lib.hid (all_drop (p := mayRf) hlt)
        have x1 := (HK0.out.below BW.out HK0.out.lt).cell (i := 1) (by simp)
        simp only [List.getElem_cons_succ, List.getElem_cons_zero] at x1
        obtain ⟨b, off, rfl, hc⟩ := HR.out.pair hlt
        obtain ⟨z0, z1⟩ := hc wr (HB0.out.trans (BW.out.mono HB0.out.size))
        obtain ⟨s1, s2⟩ := HR.out.pairS hlt
        have HM : Hid (mayRf rs[j] = (nameL rs[j].1 && (rs[j].2.isEmpty || nameL rs[j].2))) := Lib.hid rfl
        rw [HM.out] at HD
        generalize rs[j].1 = p1 at *
        generalize rs[j].2 = p2 at *
        have HN1 := Lib.hid (fun W => refName_txt p1 W s1)
        have HN2 := Lib.hid (fun W => refName_txt p2 W s2)
        obtain ⟨q1, hq1⟩ : ∃ q, nameL p1 = q := ⟨_, rfl⟩
        obtain ⟨q2, hq2⟩ : ∃ q, nameL p2 = q := ⟨_, rfl⟩
        rw [hq1] at HN1 HD
        rw [hq2] at HN2 HD
        clear hc HM hq1 hq2 s1 s2
        cases q1
        · have HQ2 : Hid (v = false) := by show _ = _; rw [← HQ.out, HD.out]; rfl
          go_wp2_with (first
            | (go_at_call 38; with_reducible refine (HN1.out _).mono ?_; rintro e w2 ⟨rfl, rfl⟩)
            | (go_at_call 38; with_reducible refine (HN2.out _).mono ?_; rintro e w3 ⟨rfl, rfl⟩))
          go_ret
          exact ⟨by rw [HQ2.out]; rfl, HB0.out.trans (BW.out.mono HB0.out.size)⟩
        · by_cases hp : p2 = []
          · subst hp
            have HQ2 : Hid (((rs.drop (j + 1)).all mayRf && (decide (0 < rs.length) || mayE ex 12)) = v) := by show _ = _; rw [← HQ.out, HD.out]; rfl
            go_wp2_with (first
              | (go_at_call 38; with_reducible refine (HN1.out _).mono ?_; rintro e w2 ⟨rfl, rfl⟩)
              | (go_at_call 38; with_reducible refine (HN2.out _).mono ?_; rintro e w3 ⟨rfl, rfl⟩))
            go_roundw
            case rel => exact ⟨j + 1, by omega, by go_num, HQ2, BW⟩
            case measure => simp [intOf]; omega
          · have he := nonempty hp
            cases q2
            · have HQ2 : Hid (v = false) := by show _ = _; rw [← HQ.out, HD.out, he]; rfl
              go_wp2_with (first
                | (go_at_call 38; with_reducible refine (HN1.out _).mono ?_; rintro e w2 ⟨rfl, rfl⟩)
                | (go_at_call 38; with_reducible refine (HN2.out _).mono ?_; rintro e w3 ⟨rfl, rfl⟩))
              go_ret
              exact ⟨by rw [HQ2.out]; rfl, HB0.out.trans (BW.out.mono HB0.out.size)⟩
            · have HQ2 : Hid (((rs.drop (j + 1)).all mayRf && (decide (0 < rs.length) || mayE ex 12)) = v) := by show _ = _; rw [← HQ.out, HD.out, he]; rfl
              go_wp2_with (first
                | (go_at_call 38; with_reducible refine (HN1.out _).mono ?_; rintro e w2 ⟨rfl, rfl⟩)
                | (go_at_call 38; with_reducible refine (HN2.out _).mono ?_; rintro e w3 ⟨rfl, rfl⟩))
              go_roundw
              case rel => exact ⟨j + 1, by omega, by go_num, HQ2, BW⟩
              case measure => simp [intOf]; omega
      · have HQ2 : Hid ((decide (0 < rs.length) || mayE ex 12) = v) := by
          show _ = _
          rw [← HQ.out, List.drop_of_length_le (by omega)]; rfl
        have x1 := (HK0.out.below BW.out HK0.out.lt).cell (i := 1) (by simp); have x2 := (HK0.out.below BW.out HK0.out.lt).cell (i := 2) (by simp); have x3 := (HK0.out.below BW.out HK0.out.lt).cell (i := 3) (by simp); have x4 := (HK0.out.below BW.out HK0.out.lt).cell (i := 4) (by simp); have x5 := (HK0.out.below BW.out HK0.out.lt).cell (i := 5) (by simp)
        simp only [List.getElem_cons_succ, List.getElem_cons_zero] at x1 x2 x3 x4 x5
        by_cases h0 : 0 < rs.length
        · have HQ3 : Hid (v = true) := by
            show _ = _
            rw [← HQ2.out, decide_eq_true h0]; rfl
          have hd : decide (0 < rs.length) = true := decide_eq_true h0
          go_wp2_with fail
          go_ret
          exact ⟨by rw [HQ3.out]; rfl, HB0.out.trans (BW.out.mono HB0.out.size)⟩
        · have HQ3 : Hid (v = mayE ex 12) := by
            show _ = _
            rw [← HQ2.out, decide_eq_false h0]; rfl
          have hd : decide (0 < rs.length) = false := decide_eq_false h0
          have hb := HB0.out.trans (BW.out.mono HB0.out.size)
          have HC := Lib.hid (mayExpr_any ex wr F _ 12 (HE.out.below hb) (by omega))
          clear hb
          go_wp2_with (go_at_call 42; refine HC.out.mono ?_; rintro e w2 ⟨rfl, hb2⟩)
          go_ret
          exact ⟨by rw [HQ3.out]; rfl, (HB0.out.trans (BW.out.mono HB0.out.size)).trans (hb2.mono (HB0.out.trans (BW.out.mono HB0.out.size)).size)⟩
set_option maxHeartbeats 2000000 in
theorem may_any (s : Sc) (W : World) (F : Nat → Prop) (A : Option Addr) (c : Nat) (hs : ScAt W F A s) (hl : s.length ≤ 9223372036854775807) :
    Calls Try.prog 17 #[.agg #[.slice A s.length c]] W fun r w' => r = .returned (.bool (mayS s)) ∧ Below W.heap.size W w' := by
  obtain ⟨v, hv⟩ : ∃ v, v = mayS s := ⟨_, rfl⟩
  rw [← hv]
  unfold mayS at hv
  obtain ⟨W1, hW⟩ : ∃ W1, W1 = W.alloc (.cells #[.slice A s.length c] 25) := ⟨_, rfl⟩
  have HK0 : Hid (Blk W1 W.heap.size [.slice A s.length c] 25) := by rw [hW]; exact Lib.hid (Blk.new W _ _)
  have HB0 : Hid (Below W.heap.size W W1) := by rw [hW]; exact Lib.hid ((Below.refl W.heap.size W).alloc (Nat.le_refl _) _)
  have HS : Hid (RowAt 2 TyAt W F A s) := Lib.hid hs
  have HW := Lib.hid hW
  have HV := Lib.hid hv
  clear hs hW hv
  go_enter Try.func17, Try.ntmps17
  go_wp2_with fail
  rw [← HW.out]
  go_loopw [3] (fun i wr => ∃ j : Nat, j ≤ s.length ∧ i = .int .i64 j ∧ Hid ((s.drop j).all mayT = v) ∧ Hid (Below W1.heap.size W1 wr)) (fun i _ => s.length - (intOf i).toNat)
  case atStart => exact ⟨0, by omega, rfl, Lib.hid HV.out.symm, Lib.hid (Below.refl _ _)⟩
  case round =>
    obtain ⟨j, hj, rfl, HQ, BW⟩ := hrel
    have x1 := (HK0.out.below BW.out HK0.out.lt).cell (i := 0) (by simp)
    simp only [List.getElem_cons_zero] at x1
    by_cases hlt : j < s.length
    · have HD := Lib.hid (all_drop (p := mayT) hlt)
      obtain ⟨b, off, B, d, rfl, ⟨hsn, hrl⟩, hr, hc⟩ := HS.out.ty hlt
      obtain ⟨z0, z1⟩ := hc wr (HB0.out.trans (BW.out.mono HB0.out.size))
      have HC1 := Lib.hid (fun w' hw => (hc w' hw).2)
      have HRL := Lib.hid hr
      have HM : Hid (mayT s[j] = (nameL s[j].name && s[j].rels.all mayR)) := Lib.hid rfl
      rw [HM.out] at HD
      generalize s[j].name = nx at *
      generalize s[j].rels = rx at *
      have HN := Lib.hid (fun W => refName_txt nx W hsn)
      obtain ⟨q, hq⟩ : ∃ q, nameL nx = q := ⟨_, rfl⟩
      rw [hq] at HN HD
      clear hc hr HM hq
      cases q
      · have HQ2 : Hid (v = false) := by show _ = _; rw [← HQ.out, HD.out]; rfl
        go_wp2_with (go_at_call 38; with_reducible refine (HN.out _).mono ?_; rintro e w2 ⟨rfl, rfl⟩)
        go_ret
        exact ⟨by rw [HQ2.out]; rfl, HB0.out.trans (BW.out.mono HB0.out.size)⟩
      · have HD2 : Hid ((rx.all mayR && (s.drop (j + 1)).all mayT) = v) := by show _ = _; rw [← HQ.out, HD.out]; rfl
        go_wp2_with (go_at_call 38; with_reducible refine (HN.out _).mono ?_; rintro e w2 ⟨rfl, rfl⟩)
        go_loopw [5] (fun i w3 => ∃ p : Nat, p ≤ rx.length ∧ i = .int .i64 p ∧ Hid (((rx.drop p).all mayR && (s.drop (j + 1)).all mayT) = v) ∧ Hid (Below wr.heap.size wr w3)) (fun i _ => rx.length - (intOf i).toNat)
        case atStart => exact ⟨0, by omega, rfl, Lib.hid HD2.out, Lib.hid (Below.refl _ _)⟩
        case round =>
          rename World => w3
          obtain ⟨p, hp, rfl, HP, BW2⟩ := hrel
          have hbw := BW.out.trans (BW2.out.mono BW.out.size)
          have HB3 := Lib.hid (HB0.out.trans (hbw.mono HB0.out.size))
          have x2 := (HK0.out.below hbw HK0.out.lt).cell (i := 0) (by simp)
          simp only [List.getElem_cons_zero] at x2
          have z2 := HC1.out w3 HB3.out
          have HBW := Lib.hid hbw
          clear hbw
          by_cases hpl : p < rx.length
          · have HE := Lib.hid (all_drop (p := mayR) hpl)
            obtain ⟨g, og, n1, B1, m1, c1, k1, p1, q1, E1, m2, c2, rfl, hE, hcells⟩ := HRL.out.rel hpl
            obtain ⟨a0, a1, a2, a3, a4, a5⟩ := hcells w3 HB3.out
            have HC := Lib.hid (mayRel_any rx[p] w3 F _ (hE.below HB3.out))
            obtain ⟨q, hq⟩ : ∃ q, mayR rx[p] = q := ⟨_, rfl⟩
            rw [hq] at HC HE
            clear hcells hE hq
            cases q
            · have HQ2 : Hid (v = false) := by show _ = _; rw [← HP.out, HE.out]; rfl
              go_wp2_with (go_at_call 39; refine HC.out.mono ?_; rintro e w4 ⟨rfl, hb4⟩)
              go_ret
              exact ⟨by rw [HQ2.out]; rfl, HB3.out.trans (hb4.mono HB3.out.size)⟩
            · have HQ2 : Hid (((rx.drop (p + 1)).all mayR && (s.drop (j + 1)).all mayT) = v) := by show _ = _; rw [← HP.out, HE.out]; rfl
              go_wp2_with (go_at_call 39; refine HC.out.mono ?_; rintro e w4 ⟨rfl, hb4⟩)
              go_roundw
              case rel => exact ⟨p + 1, by omega, by go_num, HQ2, Lib.hid (hop BW2.out hb4)⟩
              case measure => simp [intOf]; omega
          · have HQ2 : Hid ((s.drop (j + 1)).all mayT = v) := by
              show _ = _
              rw [← HP.out, List.drop_of_length_le (l := rx) (i := p) (by omega)]; rfl
            go_wp2_with fail
            go_roundw
            case rel => exact ⟨j + 1, by omega, by go_num, HQ2, HBW⟩
            case measure => simp [intOf]; omega
    · have HQ2 : Hid (v = true) := by
        show _ = _
        rw [← HQ.out, List.drop_of_length_le (by omega)]; rfl
      go_wp2_with fail
      go_ret
      exact ⟨by rw [HQ2.out]; rfl, HB0.out.trans (BW.out.mono HB0.out.size)⟩
end Go.Proofs.Ytpiaiibobjlipaa
