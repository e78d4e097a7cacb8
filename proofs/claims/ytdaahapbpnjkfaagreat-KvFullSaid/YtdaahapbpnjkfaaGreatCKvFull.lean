/-
  The statement KvFull: a batch that does not fit changes nothing, here and on the disk, and the store goes on. Condition: the row's own.
-/
import Derived.Test.YtdaahapbpnjkfaaGreatCKvAgain
namespace Go.Proofs.YtdaahapbpnjkfaaGreat
open Go.RowKit
def rowV (r : PRow) : Value := .slice r.1 r.2.1.length r.2.2
theorem rows_shown {w0 w : World} {f : TypeId} {l : List PRow} {v : Value} (h : w.ownsRow w0.heap.size f 1 v l.length (l.map rowV)) (hl : ∀ r ∈ l, PutsSeen w r.1 r.2.1 ∧ r.2.1.length ≤ r.2.2 ∧ r.2.1.length ≤ 9223372036854775807) : ∃ A c, v = .slice A l.length c ∧ RowsSeen w A l := by
  rcases h.2 with ⟨rfl, h0⟩ | ⟨g, cap, cur, rfl, hb, hg, hnc, _⟩
  · exact ⟨none, 0, by rw [h0], .inl (List.eq_nil_of_length_eq_zero h0)⟩
  · refine ⟨_, _, rfl, .inr ⟨g, 0, rfl, (h.lt g rfl).2, fun j hj => ?_⟩⟩
    have hcell := h.cells (g := g) rfl j (rowV l[j]) (by rw [List.getElem?_map, List.getElem?_eq_getElem hj]; rfl)
    rw [add_plain] at hcell
    exact ⟨hcell, hl _ (List.getElem_mem hj)⟩
theorem rowR : ∃ i z, RowTy Tryz.prog 53 38 1 24 i z := by
  have hf : (Tryz.prog.info? 38).map (fun i => (i.zero, i.size, i.bytes)) = some (some (.slice none 0 0), 1, 24) := by kernel_rfl
  obtain ⟨i, hi, hz, hs, hb⟩ := info_parts hf
  exact ⟨i, _, Tryz.underlying53, by kernel_rfl, hi, hz, hs, hb, rfl, by decide⟩
theorem wpList_append_rows {P : Program} (w : World) {ops : Array Oper} {rest : List Oper} {o : Oper} {ac : Act} {Q : Exit → Act → World → Prop} (hgd : o.guard = none) (s x : Operand) (t : TypeId)
    (ho : o.op = .call { callee := .builtin .append, args := #[s, x], argTypes := #[t, t] })
    {f : TypeId} {i : TypeInfo} {z : Value} (R : RowTy P t f 1 24 i z) (r : PRow) (B : Option Addr) (n1 c1 : Nat) (hr : rowV r = .slice B n1 c1) (A : Option Addr) (l : List PRow) (n c : Nat) (hs : ac.eval s = .slice (some ⟨w.heap.size, 0, none⟩) 1 1) (hx : ac.eval x = .slice A n c) (hn : l.length = n)
    (hl : RowsSeen w A l) (h1 : PutsSeen w r.1 r.2.1 ∧ r.2.1.length ≤ r.2.2 ∧ r.2.1.length ≤ 9223372036854775807) (hb : n ≤ 5864062014634)
    (K : ∀ A' c' w', RowsSeen w' A' (r :: l) → Below w.heap.size w w' → wpList P ops Q rest (ac.put o.dst (.slice A' (n + 1) c')) w') :
    wpList P ops Q (o :: rest) ac (w.alloc (.cells #[.slice B n1 c1] f)) := by
  subst hn
  have hal : Below w.heap.size w (w.alloc (.cells #[.slice B n1 c1] f)) := (Below.refl _ _).alloc (Nat.le_refl _) _
  have hown : (w.alloc (.cells #[.slice B n1 c1] f)).ownsRow w.heap.size f 1 (.slice (some ⟨w.heap.size, 0, none⟩) 1 1) 1 [rowV r] := by
    rw [hr]
    exact ⟨rfl, .inr ⟨w.heap.size, 1, #[.slice B n1 c1], rfl, Nat.le_refl _, Blk.new w [.slice B n1 c1] f, Nat.le_refl _, by decide, rfl, rfl⟩⟩
  have hB : w.heap.size ≤ (w.alloc (.cells #[.slice B n1 c1] f)).heap.size := by simp
  have hend : ∀ (v' : Value) (w' : World), w'.ownsRow w.heap.size f 1 v' ((r :: l).length) ((r :: l).map rowV) → Below w.heap.size w w' → ∃ A' c', v' = .slice A' (l.length + 1) c' ∧ RowsSeen w' A' (r :: l) := fun v' w' ho hbl => by
    obtain ⟨A', c', hv, hsn⟩ := rows_shown ho (fun q hq => by
      rcases List.mem_cons.1 hq with rfl | hq
      · exact ⟨h1.1.below hbl, h1.2⟩
      · obtain ⟨j, hj, rfl⟩ := List.getElem_of_mem hq
        obtain ⟨_, _, _, k1, k2, k3, _⟩ := hl.at_ j hj
        exact ⟨k1.below hbl, k2, k3⟩)
    exact ⟨A', c', hv, hsn⟩
  rcases A with _ | ad
  · obtain rfl : l = [] := by
      rcases hl with h0 | ⟨_, _, h0, _⟩
      · exact h0
      · cases h0
    refine wpList_plain hgd fun K' hK' => ?_
    have hrun := run_append_nought (P := P) (w.alloc (.cells #[.slice B n1 c1] f)) w.heap.size t o.type f i 1 R.ht R.hi (.slice (some ⟨w.heap.size, 0, none⟩) 1 1) 1 [rowV r] hown c
    unfold Oper.wp execOp
    simp only [ho, resolve, invoke, builtin, Sem.run_bind, Sem.run_pure, Result.andThen_ok, List.map_toArray, List.map_cons, List.map_nil, hs, hx, List.length_nil, hrun]
    obtain ⟨A', c', hv, hsn⟩ := hend _ _ hown hal
    injection hv with e1 e2 e3
    subst e1
    exact hK' _ _ (K _ 1 _ hsn hal)
  · refine wpList_append_own_at (w.alloc (.cells #[.slice B n1 c1] f)) hgd s x t ho w.heap.size f i z 1 24 R.ht R.hi R.hz R.hs R.hb R.zs (by decide) _ 1 [rowV r] hs hown ad l.length c (l.map rowV) hx (by simp) ?_ ?_ (by unfold maxLen; omega) (by omega) hB ?_
    · intro j u hu
      obtain ⟨hj, hju⟩ := List.getElem?_eq_some_iff.1 hu
      rw [List.length_map] at hj
      obtain ⟨b, off, ha, _, _, _, hc⟩ := hl.at_ j hj
      injection ha with ha
      subst ha
      rw [add_plain, hc _ hal, ← hju, List.getElem_map]
      rfl
    · intro u hu
      obtain ⟨q, _, rfl⟩ := List.mem_map.1 hu
      rfl
    · intro v' w' ho' hg _ _
      have hbl : Below w.heap.size w w' := below_grown hal hB hown hg
      obtain ⟨A', c', rfl, hsn⟩ := hend v' w' (by
        rw [List.length_cons, Nat.add_comm, List.map_cons]
        exact ho') hbl
      exact K A' c' w' hsn hbl
theorem KLive.commit_none {w0 w : World} {g q h : Nat} {s : Dsk} {a : Nat} {gen : Int} {ds : List (List UInt8)} {L : List Kv} {m : Nat} (k : KLive w0 w g q h s a gen ds L m) (hK : s.K.length ≤ 400) (hm : m ≤ 690000) :
    Calls Tryz.prog 15 #[.pointer (some ⟨q, 0, none⟩), .slice none 0 0] w fun e w' => e = .returned (.int .i64 0) ∧ Below w0.heap.size w0 w' := by
  refine (k.commit_new (Below.refl _ _) hK hm (A := none) (ps := []) (n := 0) (c := 0) (fun _ _ _ _ => .inl rfl) rfl ⟨by simp [valsOf], fun p hp => by cases hp⟩).mono ?_
  rintro e w' ⟨E, s', a', gen', ds', L', rfl, h2, _, _, h5, _⟩
  have h6 := Go.Proofs.YtdaahapbpnjkfaaGreat.commit_none (h := h) (s := s) (k := kvAt h a gen ds L) rfl
  rw [show valsOf [] = [] from rfl, h6] at h5
  injection h5 with h5
  exact ⟨by rw [← h5], h2.below⟩
set_option maxRecDepth 100000 in
set_option maxHeartbeats 4000000 in
theorem kvFull_walk (y : Int) (A : Option Addr) (l : List PRow) (c : Nat) (B : Option Addr) (qs : List PPut) (cb : Nat) (w : World) (y0 : -9223372036854775808 ≤ y) (y1 : y ≤ 9223372036854775807) (_hl : l.length ≤ 9223372036854775807) (hs : RowsSeen w A l) (_hc : l.length ≤ c) (hmx : l.length ≤ 5864062014634) (hq9 : qs.length ≤ 9223372036854775807) (hq : PutsSeen w B qs) (hqc : qs.length ≤ cb) :
    Calls Tryz.prog 6 #[.int .i64 y, .slice A l.length c, .slice B qs.length cb] w fun e w' => e = .returned (.bool true) ∧ Below w.heap.size w w' := by
  have HS := Lib.hid hs
  have HQ := Lib.hid hq
  obtain ⟨n, hn⟩ : ∃ n, n = l.length := ⟨_, rfl⟩
  have HN : Hid (l.length = n) := hn.symm
  obtain ⟨nq, hnq⟩ : ∃ nq, nq = qs.length := ⟨_, rfl⟩
  have HNQ : Hid (qs.length = nq) := hnq.symm
  rw [← hn, ← hnq]
  have hrow : rowV (B, qs, cb) = .slice B nq cb := by rw [hnq]; rfl
  have HROW := Lib.hid hrow
  have HQ3 : Hid (qs.length ≤ cb ∧ qs.length ≤ 9223372036854775807) := ⟨hqc, hq9⟩
  obtain ⟨ok, hok⟩ : ∃ ok, ok = batchesB ((B, qs, cb) :: l) := ⟨_, rfl⟩
  have HOK := Lib.hid hok
  have HBA : Hid (∀ W A', RowsSeen W A' ((B, qs, cb) :: l) → ∀ c', Calls Tryz.prog 25 #[.slice A' (n + 1) c'] W fun e w' => e = .returned (.bool ok) ∧ W = w') := fun W A' hR c' => by
    rw [hok]
    exact batches_any A' _ (n + 1) c' W (by rw [List.length_cons, hn]) hR
  obtain ⟨iR, zR, R⟩ := rowR
  have HR := Lib.hid R
  have HMX : Hid (n ≤ 5864062014634) := by show _ ≤ _; rw [hn]; exact hmx
  clear hs hq hn hnq hrow hmx hqc hq9 hok R
  go_enter Tryz.func6, Tryz.ntmps6
  go_wp2_with fail
  with_reducible refine (awake_any _).mono ?_
  rintro e w1 ⟨rfl, hb1⟩
  have B1 := Lib.hid hb1
  clear hb1
  go_wp2_with (at_builtin; refine wpList_append_rows w1 rfl (.tmp 21) (.tmp 22) 53 rfl HR.out (B, qs, cb) B nq cb HROW.out A l n c rfl rfl HN.out (HS.out.below B1.out) ⟨HQ.out.below B1.out, HQ3.out.1, HQ3.out.2⟩ HMX.out ?_)
  intro A2 c2 w2 hr2 hb2
  have B2 : Hid (Below w.heap.size w w2) := hop B1.out hb2
  have HB2A := Lib.hid (HBA.out w2 A2 hr2 c2)
  clear hr2 hb2 HBA
  go_wp2_with fail
  with_reducible refine HB2A.out.mono ?_
  rintro e w3 ⟨rfl, hw3⟩
  obtain rfl := hw3
  by_cases hbad : ok = false ∨ y < 2 ∨ 200 < y
  · have hdone : ok = false ∨ (ok = true ∧ y < 2) ∨ (ok = true ∧ ¬ y < 2 ∧ 200 < y) := by
      rcases Bool.eq_false_or_eq_true ok with h | h
      · right
        rcases hbad with h0 | hbad
        · rw [h] at h0; cases h0
        · by_cases h2 : y < 2
          · exact .inl ⟨h, h2⟩
          · exact .inr ⟨h, h2, by omega⟩
      · exact .inl h
    clear hbad
    rcases hdone with rfl | ⟨rfl, g1⟩ | ⟨rfl, g1, g2⟩
    · go_wp2_with fail
      go_ret
      exact ⟨rfl, B2.out⟩
    · have d1 : decide (y < 2) = true := decide_eq_true g1
      go_wp2_with fail
      go_ret
      exact ⟨rfl, B2.out⟩
    · have d1 : decide (y < 2) = false := decide_eq_false g1
      have d2 : decide (200 < y) = true := decide_eq_true g2
      go_wp2_with fail
      go_ret
      exact ⟨rfl, B2.out⟩
  obtain rfl : ok = true := by cases ok <;> simp_all
  obtain ⟨nb, rfl⟩ : ∃ nb : Nat, y = (nb : Int) := ⟨y.toNat, by omega⟩
  have hb2 : 2 ≤ nb ∧ nb ≤ 200 := by omega
  have g1 : ¬ (nb : Int) < 2 := by omega
  have g2 : ¬ (200 : Int) < (nb : Int) := by omega
  have d1 : decide ((nb : Int) < 2) = false := decide_eq_false g1
  have d2 : decide ((200 : Int) < (nb : Int)) = false := decide_eq_false g2
  have hbt := batchesB_true HOK.out.symm
  have HALL : Hid (∀ (k : Nat) (hk : k < l.length), l[k].2.1.length ≤ 60 ∧ ∀ q ∈ l[k].2.1, q.1.2.1.length ≤ 500 ∧ q.2.1.2.1.length ≤ 500) := fun k hk => hbt.2 (k + 1) (by rw [List.length_cons]; omega)
  have HFQ : Hid (FewV (valsOf qs)) := by
    have h5 := hbt.2 0 (by rw [List.length_cons]; omega)
    exact ⟨by rw [valsOf_length]; exact h5.1, fun p hp => by
      obtain ⟨x, hx, rfl⟩ := List.mem_map.1 hp
      exact h5.2 x hx⟩
  have hn40 : n ≤ 40 := by have h5 := hbt.1; rw [List.length_cons] at h5; have := HN.out; omega
  have HB2 := Lib.hid hb2
  have HNEW := Lib.hid (new_any w2 nb (by omega) (by omega))
  clear hbad y0 y1 hb2 hbt HOK
  go_wp2_with fail
  with_reducible refine HNEW.out.mono ?_
  rintro e w3 ⟨g, F, rfl, hd, hF, hb⟩
  have HOP := Lib.hid (kopen_new (w0 := w) hd HB2.out.1 (by have := HB2.out.2; omega) (hop B2.out hb) (fun k hk => Nat.le_trans B2.out.size (hF k hk)))
  clear hd hF hb HNEW
  go_wp2_with fail
  with_reducible refine HOP.out.mono ?_
  rintro e w4 ⟨q, s, rfl, hsK, hk⟩
  have K4 := Lib.hid hk
  have HSK := Lib.hid hsK
  clear hk hsK HOP g1 g2 d1 d2
  go_wp2_with fail
  go_loopw [13] (fun v wr => ∃ (k : Nat) (s : Dsk) (a : Nat) (gen : Int) (ds : List (List UInt8)) (L : List Kv), k ≤ n ∧ v = .int .i64 (k : Int) ∧ s.K.length = nb ∧ KLive w wr g q (nb / 2) s a gen ds L (1100 * k + 1100)) (fun v _ => n - (intOf v).toNat)
  case atStart => exact ⟨0, s, 0, 1, _, [], by omega, rfl, HSK.out, K4.out⟩
  case round =>
    obtain ⟨k, s, a, gen, ds, L, hk, rfl, hsK, hkd⟩ := hrel
    have KK := Lib.hid hkd
    have HSK2 := Lib.hid hsK
    have HK4 : Hid (s.K.length ≤ 400) := by have := HB2.out.2; show _ ≤ _; omega
    clear hkd hsK K4 HSK
    by_cases hlt : k < n
    · have hkl : (k : Int) < (n : Int) := by omega
      have hkn : k < l.length := by have := HN.out; omega
      obtain ⟨bl, off, rfl, hps, hcp1, hcp2, hcell⟩ := HS.out.at_ k hkn
      have hfew := HALL.out k hkn
      obtain ⟨⟨A1, ps, c1⟩, hq⟩ : ∃ q, q = l[k] := ⟨_, rfl⟩
      rw [← hq] at hps hcell hfew
      obtain ⟨n1, hn1⟩ : ∃ n1, ps.length = n1 := ⟨_, rfl⟩
      have hps' : PutsSeen w A1 ps := hps
      have HCL : Hid (∀ W, Below w.heap.size w W → W.cell? ⟨bl, off + k, none⟩ = some (.slice A1 n1 c1)) := fun W hW => by rw [← hn1]; exact hcell W hW
      have hfv : FewV (valsOf ps) := ⟨by rw [valsOf_length]; exact hfew.1, fun p hp => by
        obtain ⟨x, hx, rfl⟩ := List.mem_map.1 hp
        exact hfew.2 x hx⟩
      have HCM := Lib.hid (KK.out.commit (c := c1) HK4.out (by omega) hps' hn1 hfv)
      have o0 := HCL.out wr KK.out.below
      have hwi : IntKind.i64.wrap ((k : Int) + 1) = ((k + 1 : Nat) : Int) := by rw [IntKind.wrap_i64]; omega
      have HKK : Hid (1100 * k + 1100 + 1100 = 1100 * (k + 1) + 1100) := by show _ = _; omega
      clear hps hcell hfew hq hps' hfv hn1 hcp1 hcp2 hkn
      go_wp2_with fail
      with_reducible refine HCM.out.mono ?_
      rintro e w5 ⟨E, s5, a5, gen5, ds5, L5, rfl, hk5, hs5, hcq⟩
      have K5 := Lib.hid hk5
      have HS5 : Hid (s5.K.length = nb) := by show _ = _; rw [hs5]; exact HSK2.out
      clear hk5 hs5 HCM hcq
      go_wp2_with fail
      go_roundw
      case rel => exact ⟨k + 1, s5, a5, gen5, ds5, L5, by omega, by go_num, HS5.out, by have h9 := K5.out; rw [HKK.out] at h9; exact h9⟩
      case measure => simp [intOf]; omega
    · obtain rfl : k = n := by omega
      have hkl : ¬ (k : Int) < (k : Int) := by omega
      have HL9 : Hid (L.length ≤ 99999) := by have := (KK.out.small HK4.out).1; show _ ≤ _; omega
      have HSC := Lib.hid (KK.out.all HL9.out)
      go_wp2_with fail
      with_reducible refine HSC.out.mono ?_
      rintro e w5 ⟨hb5, X5, n5, c5, rfl, hx5, hl5⟩
      have K5 := Lib.hid (KK.out.still hb5)
      have HX5 := Lib.hid hx5
      have HL5 := Lib.hid hl5
      have HCM := Lib.hid (KK.out.commit_new (c := cb) hb5 HK4.out (by omega) (fun T hT W hW => HQ.out.below (hW.below (hop KK.out.below hb5) (fun x hx => (hT x hx).1))) HNQ.out HFQ.out)
      clear hb5 hx5 hl5 HSC
      go_wp2_with fail
      with_reducible refine HCM.out.mono ?_
      rintro e w6 ⟨E, s6, a6, gen6, ds6, L6, rfl, hk6, hs6, hcq, _, hsp6⟩
      have K6 := Lib.hid hk6
      have S6 := Lib.hid hsp6
      clear hk6 hs6 hsp6 HCM
      rcases hcq with ⟨rfl, _⟩ | ⟨rfl, hs, ha, hg, hd, hL⟩
      · go_wp2_with fail
        go_ret
        exact ⟨rfl, K6.out.below⟩
      · subst hs ha hg hd hL
        have HSC := Lib.hid (K6.out.all HL9.out)
        go_wp2_with fail
        with_reducible refine HSC.out.mono ?_
        rintro e w7 ⟨hb7, X7, n7, c7, rfl, hx7, hl7⟩
        have K7 := Lib.hid (K6.out.still hb7)
        have S7 : Hid (Spared w5 w7 (fun x => x < wr.heap.size)) := S6.out.trans (.of_below hb7 _) (fun _ h => .inl h)
        have HPA := Lib.hid (pairs_kv (c := c7) (d := c5) hl7 HL5.out (by have := HL9.out; omega) (hx7 w7 (.refl _ _)) (HX5.out w7 S7.out))
        clear hb7 hx7 hl7 HSC
        go_wp2_with fail
        with_reducible refine HPA.out.mono ?_
        rintro e w8 ⟨rfl, hb8⟩
        have K8 := Lib.hid (K7.out.still hb8)
        have S8 : Hid (Spared w5 w8 (fun x => x < wr.heap.size)) := S7.out.trans (.of_below hb8 _) (fun _ h => .inl h)
        have HOJ := Lib.hid (K8.out.open_ HK4.out (by omega))
        clear hb8 HPA
        go_wp2_with fail
        with_reducible refine HOJ.out.mono ?_
        rintro e w9 ⟨q9, rfl, hk9, hb9⟩
        have K9 := Lib.hid hk9
        have KS9 := Lib.hid (K8.out.still hb9)
        have S9 : Hid (Spared w5 w9 (fun x => x < wr.heap.size)) := S8.out.trans (.of_below hb9 _) (fun _ h => .inl h)
        have HUP := Lib.hid KS9.out.up
        have HSC := Lib.hid (K9.out.all HL9.out)
        clear hk9 hb9 HOJ
        go_wp2_with fail
        with_reducible refine HUP.out.mono ?_
        rintro e w10 ⟨rfl, hw10⟩
        obtain rfl := hw10.symm
        go_wp2_with fail
        with_reducible refine HSC.out.mono ?_
        rintro e w10 ⟨hb10, X10, n10, c10, rfl, hx10, hl10⟩
        have KS10 := Lib.hid (KS9.out.still hb10)
        have S10 : Hid (Spared w5 w10 (fun x => x < wr.heap.size)) := S9.out.trans (.of_below hb10 _) (fun _ h => .inl h)
        have HPA := Lib.hid (pairs_kv (c := c10) (d := c5) hl10 HL5.out (by have := HL9.out; omega) (hx10 w10 (.refl _ _)) (HX5.out w10 S10.out))
        clear hb10 hx10 hl10 HSC
        go_wp2_with fail
        with_reducible refine HPA.out.mono ?_
        rintro e w11 ⟨rfl, hb11⟩
        have KS11 := Lib.hid (KS10.out.still hb11)
        have HCN := Lib.hid (KS11.out.commit_none HK4.out (by omega))
        clear hb11 HPA
        go_wp2_with fail
        with_reducible refine HCN.out.mono ?_
        rintro e w12 ⟨rfl, hb12⟩
        have BE := Lib.hid hb12
        clear hb12
        go_wp2_with fail
        go_ret
        exact ⟨rfl, BE.out⟩
end Go.Proofs.YtdaahapbpnjkfaaGreat
