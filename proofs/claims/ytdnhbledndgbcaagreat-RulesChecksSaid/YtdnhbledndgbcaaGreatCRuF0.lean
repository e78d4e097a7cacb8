/-
  May an expression be, by the program? Conditions: it is there; what it may have is from 0 to 1,000.
  May a ref, a relation, a type, a schema be, by the program? Conditions: they are there.
  The program's sizes: what is wrong with how much there is of a schema. Condition: the schema is there.
  A relation without anything, as it lies. No program is named.
-/
import Derived.Test.YtdnhbledndgbcaaGreatCLaF
import Derived.Test.YtdnhbledndgbcaaGreatCNmName
import Derived.Test.YtdnhbledndgbcaaGreatCRowT
import Derived.Test.YtdnhbledndgbcaaGreatCRuT
namespace Go.Proofs.YtdnhbledndgbcaaGreat
open Go.RowKit
theorem mayE_zero (k : Int) (n o : Txt) (ks : List Ex) : mayE (.mk k n o ks) 0 = false := by rw [mayE, if_pos (.inl rfl)]
theorem mayE_none {k : Int} (n o : Txt) (ks : List Ex) (m : Int) (h : k < 0 ∨ 4 < k) : mayE (.mk k n o ks) m = false := by rw [mayE, if_pos (.inr h)]
theorem mayE_rel (n o : Txt) (ks : List Ex) {m : Int} (h : m ≠ 0) : mayE (.mk 0 n o ks) m = ((ks.length == 0) && nameL n) := by
  rw [mayE, if_neg (by omega), if_pos (by decide)]
  cases nameL n <;> cases (ks.length == 0) <;> simp
theorem mayE_arrow (n o : Txt) (ks : List Ex) {m : Int} (h : m ≠ 0) : mayE (.mk 1 n o ks) m = ((ks.length == 0) && (nameL n && nameL o)) := by
  rw [mayE, if_neg (by omega), if_pos (by decide)]
  cases nameL n <;> cases (ks.length == 0) <;> simp
theorem mayE_two {k : Int} (n o : Txt) (ks : List Ex) {m : Int} (h : m ≠ 0) (hk : k = 2 ∨ k = 3 ∨ k = 4) : mayE (.mk k n o ks) m = (decide (ks.length = 2) && mayL ks (m - 1)) := by
  rw [mayE, if_neg (by omega), if_neg (by omega)]
set_option maxHeartbeats 1000000 in
theorem pmayExpr_any : ∀ (e : Ex) (W : World) (F : Nat → Prop) (cs : List Value) (m : Int), ExAt W F e cs → 0 ≤ m ∧ m ≤ 1000 →
    Calls Tryz.prog 102 #[.agg cs.toArray, .int .i64 m] W fun e' w' => e' = .returned (.bool (mayE e m)) ∧ Below W.heap.size W w' := by
  intro e
  refine Ex.all (P := fun e => ∀ (W : World) (F : Nat → Prop) (cs : List Value) (m : Int), ExAt W F e cs → 0 ≤ m ∧ m ≤ 1000 →
    Calls Tryz.prog 102 #[.agg cs.toArray, .int .i64 m] W fun e' w' => e' = .returned (.bool (mayE e m)) ∧ Below W.heap.size W w') (fun k n o ks ih W F cs m hE hm => ?_) e
  obtain ⟨A, c, rfl, ⟨⟨k1, k2⟩, hn, ho, hl⟩, hr⟩ := hE.row
  show Calls _ _ #[.agg #[.int .i64 k, strV n, strV o, .slice A ks.length c], .int .i64 m] _ _
  obtain ⟨m1, m2⟩ := hm
  obtain ⟨W1, hW⟩ : ∃ W1, W1 = W.alloc (.cells #[.int .i64 k, strV n, strV o, .slice A ks.length c] 44) := ⟨_, rfl⟩
  have HK0 : Hid (Blk W1 W.heap.size [.int .i64 k, strV n, strV o, .slice A ks.length c] 44) := by rw [hW]; exact Lib.hid (Blk.new W _ _)
  have HB0 : Hid (Below W.heap.size W W1) := by rw [hW]; exact Lib.hid ((Below.refl W.heap.size W).alloc (Nat.le_refl _) _)
  have HR := Lib.hid hr
  have HI := Lib.hid ih
  have HW := Lib.hid hW
  have HNn := Lib.hid (fun W => name_any n W hn)
  have HNo := Lib.hid (fun W => name_any o W ho)
  clear ih hr hE hW
  by_cases h0 : m = 0
  · subst h0
    rw [mayE_zero]
    go_enter Tryz.func102, Tryz.ntmps102
    go_wp2_with fail
    go_ret
    exact ⟨rfl, by rw [← HW.out]; exact HB0.out⟩
  have b0 : ((m : Int) == 0) = false := beq_eq_false_iff_ne.2 h0
  by_cases hbad : k < 0 ∨ 4 < k
  · rw [mayE_none n o ks m hbad]
    have b1 : ¬ k = 0 := by omega
    have b2 : ¬ k = 1 := by omega
    have b3 : ¬ k = 2 := by omega
    have b4 : ¬ k = 3 := by omega
    have b5 : ¬ k = 4 := by omega
    have d1 : (k == 0) = false := beq_eq_false_iff_ne.2 b1
    have d2 : (k == 1) = false := beq_eq_false_iff_ne.2 b2
    have d3 : (k == 2) = false := beq_eq_false_iff_ne.2 b3
    have d4 : (k == 3) = false := beq_eq_false_iff_ne.2 b4
    have d5 : (k == 4) = false := beq_eq_false_iff_ne.2 b5
    clear hbad
    go_enter Tryz.func102, Tryz.ntmps102
    go_wp2_with fail
    go_ret
    exact ⟨rfl, by rw [← HW.out]; exact HB0.out⟩
  have hc : k = 0 ∨ k = 1 ∨ (k = 2 ∨ k = 3 ∨ k = 4) := by omega
  clear hbad
  obtain ⟨z, hz⟩ : ∃ z, (ks.length == 0) = z := ⟨_, rfl⟩
  have hz2 : (((ks.length : Nat) : Int) == 0) = z := by
    rw [← hz, Bool.eq_iff_iff]; simp only [beq_iff_eq]; omega
  obtain ⟨x, hx⟩ : ∃ x, nameL n = x := ⟨_, rfl⟩
  obtain ⟨y, hy⟩ : ∃ y, nameL o = y := ⟨_, rfl⟩
  rw [hx] at HNn
  rw [hy] at HNo
  rcases hc with rfl | rfl | hk
  · have HV : Hid (mayE (.mk 0 n o ks) m = (z && x)) := Lib.hid (by rw [mayE_rel n o ks h0, hz, hx])
    rw [HV.out]
    clear HV hz hx hy
    cases z
    · go_enter Tryz.func102, Tryz.ntmps102
      go_wp2_with fail
      go_ret
      exact ⟨rfl, by rw [← HW.out]; exact HB0.out⟩
    · go_enter Tryz.func102, Tryz.ntmps102
      go_wp2_with fail
      rw [← HW.out]
      refine (HNn.out _).mono ?_
      rintro e w2 ⟨rfl, hb2⟩
      go_wp2_with fail
      go_ret
      exact ⟨rfl, HB0.out.trans (hb2.mono HB0.out.size)⟩
  · have HV : Hid (mayE (.mk 1 n o ks) m = (z && (x && y))) := Lib.hid (by rw [mayE_arrow n o ks h0, hz, hx, hy])
    rw [HV.out]
    clear HV hz hx hy
    cases z
    · go_enter Tryz.func102, Tryz.ntmps102
      go_wp2_with fail
      go_ret
      exact ⟨rfl, by rw [← HW.out]; exact HB0.out⟩
    · cases x
      · go_enter Tryz.func102, Tryz.ntmps102
        go_wp2_with fail
        rw [← HW.out]
        refine (HNn.out _).mono ?_
        rintro e w2 ⟨rfl, hb2⟩
        go_wp2_with fail
        go_ret
        exact ⟨rfl, HB0.out.trans (hb2.mono HB0.out.size)⟩
      · go_enter Tryz.func102, Tryz.ntmps102
        go_wp2_with fail
        rw [← HW.out]
        refine (HNn.out _).mono ?_
        rintro e w2 ⟨rfl, hb2⟩
        have x2 := (HK0.out.below hb2 HK0.out.lt).cell (i := 2) (by simp)
        simp only [List.getElem_cons_succ, List.getElem_cons_zero] at x2
        have HB2 := Lib.hid (HB0.out.trans (hb2.mono HB0.out.size))
        clear hb2
        go_wp2_with fail
        refine (HNo.out _).mono ?_
        rintro e w3 ⟨rfl, hb3⟩
        go_wp2_with fail
        go_ret
        exact ⟨rfl, HB2.out.trans (hb3.mono HB2.out.size)⟩
  · have HV : Hid (mayE (.mk k n o ks) m = (decide (ks.length = 2) && mayL ks (m - 1))) := Lib.hid (mayE_two n o ks h0 hk)
    rw [HV.out]
    clear HV hz hx hy hz2 HNn HNo
    have hk0 : ¬ k = 0 := by omega
    have hk1 : ¬ k = 1 := by omega
    have hd0 : (k == 0) = false := beq_eq_false_iff_ne.2 hk0
    have hd1 : (k == 1) = false := beq_eq_false_iff_ne.2 hk1
    by_cases h3 : ks.length = 2
    · rw [decide_eq_true h3, Bool.true_and]
      obtain ⟨a, d, rfl⟩ : ∃ a d, ks = [a, d] := by
        match ks, h3 with
        | [a, b], _ => exact ⟨a, b, rfl⟩
      rw [mayL, mayL, mayL, Bool.and_true]
      obtain ⟨b, off, k3, n3, o3, A3, m3, c3, rfl, hE3, hc3⟩ := HR.out.kid (j := 0) (by simp)
      obtain ⟨b', off', k4, n4, o4, A4, m4, c4, hbb, hE4, hc4⟩ := HR.out.kid (j := 1) (by simp)
      injection hbb with hbb
      injection hbb with hb1 hb2 _
      subst hb1 hb2
      have HC3 : Hid (∀ W', Below W.heap.size W W' → W'.cell? ⟨b, off, none⟩ = some (.int .i64 k3) ∧ W'.cell? ⟨b, off + 1, none⟩ = some (strV n3) ∧ W'.cell? ⟨b, off + 2, none⟩ = some (strV o3) ∧ W'.cell? ⟨b, off + 3, none⟩ = some (.slice A3 m3 c3)) := Lib.hid (fun W' hW' => by have h := hc3 W' hW'; unfold ExFour at h; simpa using h)
      have HC4 : Hid (∀ W', Below W.heap.size W W' → W'.cell? ⟨b, off + 4, none⟩ = some (.int .i64 k4) ∧ W'.cell? ⟨b, off + 4 + 1, none⟩ = some (strV n4) ∧ W'.cell? ⟨b, off + 4 + 2, none⟩ = some (strV o4) ∧ W'.cell? ⟨b, off + 4 + 3, none⟩ = some (.slice A4 m4 c4)) := Lib.hid (fun W' hW' => by have h := hc4 W' hW'; unfold ExFour at h; simpa using h)
      have HX := Lib.hid (HI.out a (by simp) W1 F _ (m - 1) (ExAt.below HB0.out hE3) (by omega))
      have HIY := Lib.hid (fun W' (hW' : Below W.heap.size W W') => HI.out d (by simp) W' F _ (m - 1) (ExAt.below hW' hE4) (by omega))
      obtain ⟨q1, hq1⟩ : ∃ q, mayE a (m - 1) = q := ⟨_, rfl⟩
      obtain ⟨q2, hq2⟩ : ∃ q, mayE d (m - 1) = q := ⟨_, rfl⟩
      rw [hq1] at HX ⊢
      rw [hq2] at HIY ⊢
      have HK : Hid (Blk W1 W.heap.size [.int .i64 k, strV n, strV o, .slice (some ⟨b, off, none⟩) 2 c] 44) := HK0
      have HW2 : Hid (W1 = W.alloc (.cells #[.int .i64 k, strV n, strV o, .slice (some ⟨b, off, none⟩) 2 c] 44)) := HW
      clear hc3 hc4 hE3 hE4 hq1 hq2 HI HR HK0 HW h3 hl
      show Calls _ _ #[.agg #[.int .i64 k, strV n, strV o, .slice (some ⟨b, off, none⟩) 2 c], .int .i64 m] _ _
      have z0 : ∀ o, (W.alloc o).cell? ⟨b, off, none⟩ = some (.int .i64 k3) := fun o => (HC3.out _ ((Below.refl _ _).alloc (Nat.le_refl _) o)).1
      have z1 : ∀ o, (W.alloc o).cell? ⟨b, off + 1, none⟩ = some (strV n3) := fun o => (HC3.out _ ((Below.refl _ _).alloc (Nat.le_refl _) o)).2.1
      have z2 : ∀ o, (W.alloc o).cell? ⟨b, off + 2, none⟩ = some (strV o3) := fun o => (HC3.out _ ((Below.refl _ _).alloc (Nat.le_refl _) o)).2.2.1
      have z3 : ∀ o, (W.alloc o).cell? ⟨b, off + 3, none⟩ = some (.slice A3 m3 c3) := fun o => (HC3.out _ ((Below.refl _ _).alloc (Nat.le_refl _) o)).2.2.2
      rcases hk with rfl | rfl | rfl
      all_goals
        cases q1
        · go_enter Tryz.func102, Tryz.ntmps102
          go_wp2_with (go_at_call 102; rw [← HW2.out]; refine HX.out.mono ?_; rintro e w2 ⟨rfl, hb2⟩)
          go_ret
          exact ⟨rfl, HB0.out.trans (hb2.mono HB0.out.size)⟩
        · go_enter Tryz.func102, Tryz.ntmps102
          go_wp2_with (first
            | (go_at_call 102; rw [← HW2.out]; refine HX.out.mono ?_; rintro e w2 ⟨rfl, hb2⟩; have HB2 := Lib.hid (HB0.out.trans (hb2.mono HB0.out.size)); have HY := Lib.hid (HIY.out w2 HB2.out); have x3 := (HK.out.below hb2 HK.out.lt).cell (i := 3) (by simp); simp only [List.getElem_cons_succ, List.getElem_cons_zero] at x3; obtain ⟨u0, u1, u2, u3⟩ := HC4.out w2 HB2.out; clear hb2)
            | (go_at_call 102; refine HY.out.mono ?_; rintro e w3 ⟨rfl, hb3⟩))
          go_ret
          exact ⟨rfl, HB2.out.trans (hb3.mono HB2.out.size)⟩
    · have hd : ((ks.length : Int) == 2) = false := beq_eq_false_iff_ne.2 (by omega)
      have hdi : ¬ (ks.length : Int) = 2 := by omega
      rw [decide_eq_false h3, Bool.false_and]
      clear h3
      rcases hk with rfl | rfl | rfl
      all_goals
        go_enter Tryz.func102, Tryz.ntmps102
        go_wp2_with fail
        go_ret
        exact ⟨rfl, by rw [← HW.out]; exact HB0.out⟩
end Go.Proofs.YtdnhbledndgbcaaGreat
namespace Go.Proofs.YtdnhbledndgbcaaGreat
open Go.RowKit
set_option maxRecDepth 100000 in
set_option maxHeartbeats 1000000 in
theorem pmayRef_any (x : Rf) (W : World) (F : Nat → Prop) (cs : List Value) (h : RfAt W F x cs) :
    Calls Tryz.prog 104 #[.agg cs.toArray] W fun e w' => e = .returned (.bool (mayRf x)) ∧ Below W.heap.size W w' := by
  obtain ⟨rfl, s1, s2⟩ := h
  obtain ⟨p1, p2⟩ := x
  dsimp only at *
  show Calls _ _ #[.agg #[strV p1, strV p2]] _ _
  obtain ⟨W1, hW⟩ : ∃ W1, W1 = W.alloc (.cells #[strV p1, strV p2] 40) := ⟨_, rfl⟩
  have HK0 : Hid (Blk W1 W.heap.size [strV p1, strV p2] 40) := by rw [hW]; exact Lib.hid (Blk.new W _ _)
  have HB0 : Hid (Below W.heap.size W W1) := by rw [hW]; exact Lib.hid ((Below.refl W.heap.size W).alloc (Nat.le_refl _) _)
  have HW := Lib.hid hW
  have HN1 := Lib.hid (fun W => name_any p1 W s1)
  have HN2 := Lib.hid (fun W => name_any p2 W s2)
  have hm : mayRf (p1, p2) = (nameL p1 && (p2.isEmpty || nameL p2)) := rfl
  rw [hm]
  obtain ⟨q1, hq1⟩ : ∃ q, nameL p1 = q := ⟨_, rfl⟩
  obtain ⟨q2, hq2⟩ : ∃ q, nameL p2 = q := ⟨_, rfl⟩
  rw [hq1] at HN1
  rw [hq2] at HN2
  rw [hq1, hq2]
  clear hq1 hq2 hm hW
  cases q1
  · go_enter Tryz.func104, Tryz.ntmps104
    go_wp2_with (go_at_call 88; rw [← HW.out]; refine (HN1.out _).mono ?_; rintro e w2 ⟨rfl, hb2⟩)
    go_ret
    exact ⟨rfl, HB0.out.trans (hb2.mono HB0.out.size)⟩
  · by_cases hp : p2 = []
    · subst hp
      go_enter Tryz.func104, Tryz.ntmps104
      go_wp2_with (go_at_call 88; rw [← HW.out]; refine (HN1.out _).mono ?_; rintro e w2 ⟨rfl, hb2⟩; have x2 := (HK0.out.below hb2 HK0.out.lt).cell (i := 1) (by simp); simp only [List.getElem_cons_succ, List.getElem_cons_zero] at x2)
      go_ret
      exact ⟨rfl, HB0.out.trans (hb2.mono HB0.out.size)⟩
    · have he := nonempty hp
      have hie : p2.isEmpty = false := by cases p2; exact absurd rfl hp; rfl
      rw [hie]
      go_enter Tryz.func104, Tryz.ntmps104
      go_wp2_with (first
        | (go_at_call 88; rw [← HW.out]; refine (HN1.out _).mono ?_; rintro e w2 ⟨rfl, hb2⟩; have x2 := (HK0.out.below hb2 HK0.out.lt).cell (i := 1) (by simp); simp only [List.getElem_cons_succ, List.getElem_cons_zero] at x2)
        | (go_at_call 88; refine (HN2.out _).mono ?_; rintro e w3 ⟨rfl, hb3⟩))
      go_ret
      have hb := HB0.out.trans (hb2.mono HB0.out.size)
      exact ⟨rfl, hb.trans (hb3.mono hb.size)⟩
theorem RfAt.sh {W : World} {F : Nat → Prop} (x : Rf) (cs : List Value) (h : RfAt W F x cs) : ShRef cs := ⟨_, _, h.1⟩
theorem RlAt.sh {W : World} {F : Nat → Prop} (x : Rl) (cs : List Value) (h : RlAt W F x cs) : ShRel cs := by
  obtain ⟨A, c, k, n, o, E, m, d, rfl, _⟩ := h.six
  exact ⟨_, _, _, _, _, _, _, _, _, _, rfl⟩
theorem TyAt.sh {W : World} {F : Nat → Prop} (x : Ty) (cs : List Value) (h : TyAt W F x cs) : ShType cs := by
  obtain ⟨A, c, rfl, _⟩ := h
  exact ⟨_, _, _, _, rfl⟩
set_option maxRecDepth 100000 in
set_option maxHeartbeats 1000000 in
theorem pmayRel_any (x : Rl) (W : World) (F : Nat → Prop) (cs : List Value) (hx : RlAt W F x cs) :
    Calls Tryz.prog 90 #[.agg cs.toArray] W fun r w' => r = .returned (.bool (mayR x)) ∧ Below W.heap.size W w' := by
  obtain ⟨A, c, k, n, o, E, m, d, rfl, ⟨hn, hl⟩, hr, he⟩ := hx.six
  have hef : ∀ args w, (callFunc 104 args).run Tryz.prog w = .ok (.enter 104 args) w := fun _ _ => rfl
  obtain ⟨a, rs, ex⟩ := x
  dsimp only at *
  show Calls _ _ #[.agg #[strV a, .slice A rs.length c, .int .i64 k, strV n, strV o, .slice E m d]] _ _
  obtain ⟨W1, hW⟩ : ∃ W1, W1 = W.alloc (.cells #[strV a, .slice A rs.length c, .int .i64 k, strV n, strV o, .slice E m d] 46) := ⟨_, rfl⟩
  have HK0 : Hid (Blk W1 W.heap.size [strV a, .slice A rs.length c, .int .i64 k, strV n, strV o, .slice E m d] 46) := by rw [hW]; exact Lib.hid (Blk.new W _ _)
  have HB0 : Hid (Below W.heap.size W W1) := by rw [hW]; exact Lib.hid ((Below.refl W.heap.size W).alloc (Nat.le_refl _) _)
  have HNa := Lib.hid (fun W => name_any a W hn)
  have hea : EAsk 2 104 ShRef mayRf W A rs := RowAt.asks hr RfAt.sh (fun x _ cs hcs W' _ => pmayRef_any x W' F cs hcs)
  have HR := Lib.hid (fun W' (hW' : Below W.heap.size W W') => each_Ref hef c (hea.mono hW') hl)
  have HE := Lib.hid (fun W' (hW' : Below W.heap.size W W') => pmayExpr_any ex W' F _ 12 (he.below hW') (by omega))
  have HW := Lib.hid hW
  have hm : mayR ⟨a, rs, ex⟩ = (nameL a && (rs.all mayRf && (decide (0 < rs.length) || mayE ex 12))) := rfl
  rw [hm]
  obtain ⟨q, hq⟩ : ∃ q, nameL a = q := ⟨_, rfl⟩
  rw [hq] at HNa
  rw [hq]
  clear hr he hx hW hea hm hq
  by_cases h0 : rs.length = 0
  · have hd : ((rs.length : Int) == 0) = true := beq_iff_eq.2 (by omega)
    have h1 : decide (0 < rs.length) = false := decide_eq_false (by omega)
    have h2 : rs = [] := List.length_eq_zero_iff.1 h0
    have HV : Hid ((nameL a && (rs.all mayRf && (decide (0 < rs.length) || mayE ex 12))) = (nameL a && mayE ex 12)) := by
      rw [h1, h2]; exact Lib.hid rfl
    have hv : (q && (rs.all mayRf && (decide (0 < rs.length) || mayE ex 12))) = (q && mayE ex 12) := by rw [h1, h2]; rfl
    rw [hv]
    clear hv h1 h2 HV h0
    generalize mayE ex 12 = z at *
    cases q
    · go_enter Tryz.func90, Tryz.ntmps90
      go_wp2_with (go_at_call 88; rw [← HW.out]; refine (HNa.out _).mono ?_; rintro e w2 ⟨rfl, hb2⟩)
      go_ret
      exact ⟨rfl, HB0.out.trans (hb2.mono HB0.out.size)⟩
    · go_enter Tryz.func90, Tryz.ntmps90
      go_wp2_with (first
        | (go_at_call 88; rw [← HW.out]; refine (HNa.out _).mono ?_; rintro e w2 ⟨rfl, hb2⟩; have x2 := (HK0.out.below hb2 HK0.out.lt).cell (i := 2) (by simp); have x3 := (HK0.out.below hb2 HK0.out.lt).cell (i := 3) (by simp); have x4 := (HK0.out.below hb2 HK0.out.lt).cell (i := 4) (by simp); have x5 := (HK0.out.below hb2 HK0.out.lt).cell (i := 5) (by simp); simp only [List.getElem_cons_succ, List.getElem_cons_zero] at x2 x3 x4 x5; have HB2 := Lib.hid (HB0.out.trans (hb2.mono HB0.out.size)); have HE2 := Lib.hid (HE.out _ HB2.out); clear hb2)
        | (go_at_call 102; refine HE2.out.mono ?_; rintro e w3 ⟨rfl, hb3⟩))
      go_ret
      exact ⟨rfl, HB2.out.trans (hb3.mono HB2.out.size)⟩
  · have hd : ((rs.length : Int) == 0) = false := beq_eq_false_iff_ne.2 (by omega)
    have h1 : decide (0 < rs.length) = true := decide_eq_true (by omega)
    have hv : (q && (rs.all mayRf && (decide (0 < rs.length) || mayE ex 12))) = (q && rs.all mayRf) := by rw [h1]; simp
    rw [hv]
    clear hv h1
    generalize rs.all mayRf = z at *
    cases q
    · go_enter Tryz.func90, Tryz.ntmps90
      go_wp2_with (go_at_call 88; rw [← HW.out]; refine (HNa.out _).mono ?_; rintro e w2 ⟨rfl, hb2⟩)
      go_ret
      exact ⟨rfl, HB0.out.trans (hb2.mono HB0.out.size)⟩
    · go_enter Tryz.func90, Tryz.ntmps90
      go_wp2_with (first
        | (go_at_call 88; rw [← HW.out]; refine (HNa.out _).mono ?_; rintro e w2 ⟨rfl, hb2⟩; have x1 := (HK0.out.below hb2 HK0.out.lt).cell (i := 1) (by simp); simp only [List.getElem_cons_succ, List.getElem_cons_zero] at x1; have HB2 := Lib.hid (HB0.out.trans (hb2.mono HB0.out.size)); have HR2 := Lib.hid (HR.out _ HB2.out); clear hb2)
        | (go_at_call 103; refine HR2.out.mono ?_; rintro e w3 ⟨rfl, hb3⟩))
      go_ret
      exact ⟨rfl, HB2.out.trans (hb3.mono HB2.out.size)⟩
set_option maxRecDepth 100000 in
set_option maxHeartbeats 1000000 in
theorem pmayType_any (x : Ty) (W : World) (F : Nat → Prop) (cs : List Value) (hx : TyAt W F x cs) :
    Calls Tryz.prog 73 #[.agg cs.toArray] W fun r w' => r = .returned (.bool (mayT x)) ∧ Below W.heap.size W w' := by
  obtain ⟨A, c, rfl, ⟨⟨hn, _⟩, hl⟩, hr⟩ := hx
  have hef : ∀ args w, (callFunc 90 args).run Tryz.prog w = .ok (.enter 90 args) w := fun _ _ => rfl
  obtain ⟨a, rs⟩ := x
  dsimp only at *
  show Calls _ _ #[.agg #[strV a, .slice A rs.length c]] _ _
  obtain ⟨W1, hW⟩ : ∃ W1, W1 = W.alloc (.cells #[strV a, .slice A rs.length c] 38) := ⟨_, rfl⟩
  have HK0 : Hid (Blk W1 W.heap.size [strV a, .slice A rs.length c] 38) := by rw [hW]; exact Lib.hid (Blk.new W _ _)
  have HB0 : Hid (Below W.heap.size W W1) := by rw [hW]; exact Lib.hid ((Below.refl W.heap.size W).alloc (Nat.le_refl _) _)
  have HNa := Lib.hid (fun W => name_any a W hn)
  have hea : EAsk 6 90 ShRel mayR W A rs := RowAt.asks hr RlAt.sh (fun x _ cs hcs W' hW' => pmayRel_any x W' F cs (hcs.below hW'))
  have HR := Lib.hid (fun W' (hW' : Below W.heap.size W W') => each_Rel hef c (hea.mono hW') hl)
  have HW := Lib.hid hW
  have hm : mayT ⟨a, rs⟩ = (nameL a && rs.all mayR) := rfl
  rw [hm]
  obtain ⟨q, hq⟩ : ∃ q, nameL a = q := ⟨_, rfl⟩
  rw [hq] at HNa
  rw [hq]
  clear hr hW hea hm hq
  generalize rs.all mayR = z at *
  cases q
  · go_enter Tryz.func73, Tryz.ntmps73
    go_wp2_with (go_at_call 88; rw [← HW.out]; refine (HNa.out _).mono ?_; rintro e w2 ⟨rfl, hb2⟩)
    go_ret
    exact ⟨rfl, HB0.out.trans (hb2.mono HB0.out.size)⟩
  · go_enter Tryz.func73, Tryz.ntmps73
    go_wp2_with (first
      | (go_at_call 88; rw [← HW.out]; refine (HNa.out _).mono ?_; rintro e w2 ⟨rfl, hb2⟩; have x1 := (HK0.out.below hb2 HK0.out.lt).cell (i := 1) (by simp); simp only [List.getElem_cons_succ, List.getElem_cons_zero] at x1; have HB2 := Lib.hid (HB0.out.trans (hb2.mono HB0.out.size)); have HR2 := Lib.hid (HR.out _ HB2.out); clear hb2)
      | (go_at_call 89; refine HR2.out.mono ?_; rintro e w3 ⟨rfl, hb3⟩))
    go_ret
    exact ⟨rfl, HB2.out.trans (hb3.mono HB2.out.size)⟩
set_option maxRecDepth 100000 in
set_option maxHeartbeats 1000000 in
theorem pmay_any (s : Sc) (W : World) (F : Nat → Prop) (A : Option Addr) (c : Nat) (hs : ScAt W F A s) (hl : s.length ≤ 9223372036854775807) :
    Calls Tryz.prog 49 #[.agg #[.slice A s.length c]] W fun r w' => r = .returned (.bool (mayS s)) ∧ Below W.heap.size W w' := by
  have hef : ∀ args w, (callFunc 73 args).run Tryz.prog w = .ok (.enter 73 args) w := fun _ _ => rfl
  obtain ⟨W1, hW⟩ : ∃ W1, W1 = W.alloc (.cells #[.slice A s.length c] 24) := ⟨_, rfl⟩
  have HB0 : Hid (Below W.heap.size W W1) := by rw [hW]; exact Lib.hid ((Below.refl W.heap.size W).alloc (Nat.le_refl _) _)
  have hr : RowAt 2 TyAt W F A s := hs
  have hea : EAsk 2 73 ShType mayT W A s := RowAt.asks hr TyAt.sh (fun x _ cs hcs W' hW' => pmayType_any x W' F cs (hcs.below hW'))
  have HR := Lib.hid (each_Type hef c (hea.mono HB0.out) hl)
  have HW := Lib.hid hW
  have hm : mayS s = s.all mayT := rfl
  rw [hm]
  clear hr hs hW hea hm
  generalize s.all mayT = z at *
  go_enter Tryz.func49, Tryz.ntmps49
  go_wp2_with (go_at_call 72; rw [← HW.out]; refine HR.out.mono ?_; rintro e w3 ⟨rfl, hb3⟩)
  go_ret
  exact ⟨rfl, HB0.out.trans (hb3.mono HB0.out.size)⟩
end Go.Proofs.YtdnhbledndgbcaaGreat
namespace Go.Proofs.YtdnhbledndgbcaaGreat
open Go.RowKit
def bigT (s : Sc) (i : Nat) : Nat := if 16 < (ofT s (i : Int)).length then 2 else 0
def sizesN (s : Sc) : Fa := if s.length = 0 ∨ mayS s = false then (0, -1, 1) else if 16 < s.length then (0, -1, 2) else ftN (bigT s) s 0
set_option maxHeartbeats 1000000 in
theorem sizesC_any (s : Sc) (F : Nat → Prop) (A : Option Addr) (c : Nat) (W : World) {b : Nat} (hb : W.cell? ⟨b, 0, none⟩ = some (.slice A s.length c)) (hs : ScAt W F A s) {i : Nat} (hi : i < s.length) :
    Calls Tryz.prog 51 #[.int .i64 (i : Int), .pointer (some ⟨b, 0, none⟩)] W fun r w' => r = .returned (.int .i64 (bigT s i : Int)) ∧ Below W.heap.size W w' := by
  obtain ⟨v, hv⟩ : ∃ v, v = bigT s i := ⟨_, rfl⟩
  rw [← hv]
  unfold bigT at hv
  rw [ofT_at hi] at hv
  obtain ⟨g, off, B, d, rfl, ⟨_, hrl⟩, _, hc⟩ := RowAt.ty hs hi
  obtain ⟨z0, z1⟩ := hc W (Below.refl _ _)
  have HV := Lib.hid hv
  clear hc hv hs
  generalize s[i].rels = rs at *
  by_cases h : 16 < rs.length
  · have HV2 : Hid (v = 2) := Lib.hid (by rw [HV.out, if_pos h])
    have HC : Hid (∀ w, Calls Tryz.prog 33 #[.bool true, .int .i64 2] w fun r w' => r = .returned (.int .i64 2) ∧ Below w.heap.size w w') := Lib.hid (fun w => when_any true 2 w)
    have q1 : decide (16 < rs.length) = true := decide_eq_true h
    have q2 : (16 : Int) < (rs.length : Int) := by omega
    clear h
    go_enter Tryz.func51, Tryz.ntmps51
    go_wp2_with (go_at_call 33; refine (HC.out _).mono ?_; rintro r w2 ⟨rfl, hb2⟩)
    go_ret
    exact ⟨by rw [HV2.out]; rfl, hb2⟩
  · have HV2 : Hid (v = 0) := Lib.hid (by rw [HV.out, if_neg h])
    have HC : Hid (∀ w, Calls Tryz.prog 33 #[.bool false, .int .i64 2] w fun r w' => r = .returned (.int .i64 0) ∧ Below w.heap.size w w') := Lib.hid (fun w => when_any false 2 w)
    have q1 : decide (16 < rs.length) = false := decide_eq_false h
    have q2 : (rs.length : Int) ≤ 16 := by omega
    have q3 : decide ((16 : Int) < (rs.length : Int)) = false := decide_eq_false (by omega)
    clear h
    go_enter Tryz.func51, Tryz.ntmps51
    go_wp2_with (go_at_call 33; refine (HC.out _).mono ?_; rintro r w2 ⟨rfl, hb2⟩)
    go_ret
    exact ⟨by rw [HV2.out]; rfl, hb2⟩
set_option maxRecDepth 100000 in
theorem enter_sizesC (args : Array Value) (w : World) : (callFunc 51 args).run Tryz.prog w = .ok (.enter 51 args) w := rfl
set_option maxRecDepth 100000 in
set_option maxHeartbeats 2000000 in
theorem sizes_any (s : Sc) (F : Nat → Prop) (A : Option Addr) (c : Nat) (hl : s.length ≤ 9223372036854775807) (W : World) (hs : ScAt W F A s) :
    Calls Tryz.prog 25 #[.agg #[.slice A s.length c]] W fun r w' => r = .returned (faV (sizesN s)) ∧ Below W.heap.size W w' := by
  have hmf : ∀ (fn : Fn) (first cap : Array Value) (w : World), (Instr.makeFunc fn first cap).run Tryz.prog w = .ok (.func fn first cap) w := fun _ _ _ _ => rfl
  obtain ⟨v, hv⟩ : ∃ v, v = sizesN s := ⟨_, rfl⟩
  rw [← hv]
  unfold sizesN at hv
  obtain ⟨W1, hW⟩ : ∃ W1, W1 = (W.alloc (.cells #[.slice A s.length c] 24)).alloc (.cells #[.int .i64 0, .int .i64 0, .int .i64 0] 33) := ⟨_, rfl⟩
  have HKA : Hid (Blk W1 W.heap.size [.slice A s.length c] 24) := by rw [hW]; exact Lib.hid ((Blk.new W _ _).alloc _)
  have HKE : Hid (Blk W1 (W.heap.size + 1) [.int .i64 0, .int .i64 0, .int .i64 0] 33) := by
    rw [hW]
    have := Blk.new (W.alloc (.cells #[.slice A s.length c] 24)) [.int .i64 0, .int .i64 0, .int .i64 0] 33
    rw [World.size_alloc] at this
    exact Lib.hid this
  have HB0 : Hid (Below W.heap.size W W1) := by rw [hW]; exact Lib.hid (((Below.refl _ _).alloc (Nat.le_refl _) _).alloc (by simp) _)
  have HW := Lib.hid hW
  have HX : Hid (∀ w, Below W1.heap.size W1 w → w.cell? ⟨W.heap.size, 0, none⟩ = some (.slice A s.length c) ∧ w.cell? ⟨W.heap.size + 1, 0, none⟩ = some (.int .i64 0) ∧ w.cell? ⟨W.heap.size + 1, 1, none⟩ = some (.int .i64 0) ∧ w.cell? ⟨W.heap.size + 1, 2, none⟩ = some (.int .i64 0) ∧ w.frozen? ⟨W.heap.size + 1, 0, none⟩ = false ∧ w.frozen? ⟨W.heap.size + 1, 1, none⟩ = false ∧ w.frozen? ⟨W.heap.size + 1, 2, none⟩ = false) := Lib.hid (fun w hw => by
    have h1 := HKA.out.below hw HKA.out.lt
    have h2 := HKE.out.below hw HKE.out.lt
    exact ⟨h1.cell (i := 0) (by simp), h2.cell (i := 0) (by simp), h2.cell (i := 1) (by simp), h2.cell (i := 2) (by simp), h2.free 0, h2.free 1, h2.free 2⟩)
  have HF : Hid (∀ w, Below W1.heap.size W1 w → Below W.heap.size W w) := Lib.hid (fun w hw => HB0.out.trans (hw.mono HB0.out.size))
  have HS : Hid (∀ w, Below W1.heap.size W1 w → ScAt w F A s) := Lib.hid (fun w hw => hs.below (HF.out w hw))
  have HV := Lib.hid hv
  clear hW hs hv
  by_cases h0 : s.length = 0
  · have HV2 : Hid (v = (0, -1, 1)) := Lib.hid (by rw [HV.out, if_pos (.inl h0)])
    have hd : ((s.length : Int) == 0) = true := beq_iff_eq.2 (by omega)
    clear h0
    go_enter Tryz.func25, Tryz.ntmps25
    go_wp2_with fail
    refine bodyPost_ret (v := .agg #[.int .i64 (0), .int .i64 (-1), .int .i64 (1)]) (by simp [results, Tryz.results25, go_sem]) rfl ?_
    exact ⟨by rw [HV2.out] <;> rfl, ((Below.refl _ _).alloc (Nat.le_refl _) _).alloc (by simp) _⟩
  have hd0 : ((s.length : Int) == 0) = false := beq_eq_false_iff_ne.2 (by omega)
  have HM := Lib.hid (pmay_any s W1 F A c (HS.out W1 (Below.refl _ _)) hl)
  obtain ⟨q, hq⟩ : ∃ q, mayS s = q := ⟨_, rfl⟩
  rw [hq] at HM HV
  clear hq
  cases q
  · have HV2 : Hid (v = (0, -1, 1)) := Lib.hid (by rw [HV.out, if_pos (.inr rfl)])
    clear h0
    go_enter Tryz.func25, Tryz.ntmps25
    go_wp2_with (go_at_call 49; rw [← HW.out]; refine HM.out.mono ?_; rintro r w5 ⟨rfl, hb5⟩; have HB5 := Lib.hid hb5; obtain ⟨x0, v0, v1, v2, f0, f1, f2⟩ := HX.out w5 hb5; clear hb5)
    refine bodyPost_ret (v := .agg #[.int .i64 (0), .int .i64 (-1), .int .i64 (1)]) (by simp [results, Tryz.results25, go_sem, v0, v1, v2]) rfl ?_
    exact ⟨by rw [HV2.out] <;> rfl, (((HF.out w5 HB5.out).setCell (p := ⟨W.heap.size + 1, 0, none⟩) (Nat.le_succ _) _).setCell (p := ⟨W.heap.size + 1, 1, none⟩) (Nat.le_succ _) _).setCell (p := ⟨W.heap.size + 1, 2, none⟩) (Nat.le_succ _) _⟩
  have HV : Hid (v = if 16 < s.length then (0, -1, 2) else ftN (bigT s) s 0) := Lib.hid (by rw [HV.out, if_neg (fun h => h.elim h0 (fun h => nomatch h))])
  by_cases h16 : 16 < s.length
  · have HV2 : Hid (v = (0, -1, 2)) := Lib.hid (by rw [HV.out, if_pos h16])
    have hd : decide (16 < s.length) = true := decide_eq_true h16
    have hd1 : (16 : Int) < (s.length : Int) := by omega
    clear h0 h16
    go_enter Tryz.func25, Tryz.ntmps25
    go_wp2_with (go_at_call 49; rw [← HW.out]; refine HM.out.mono ?_; rintro r w5 ⟨rfl, hb5⟩; have HB5 := Lib.hid hb5; obtain ⟨x0, v0, v1, v2, f0, f1, f2⟩ := HX.out w5 hb5; clear hb5)
    refine bodyPost_ret (v := .agg #[.int .i64 (0), .int .i64 (-1), .int .i64 (2)]) (by simp [results, Tryz.results25, go_sem, v0, v1, v2]) rfl ?_
    exact ⟨by rw [HV2.out] <;> rfl, (((HF.out w5 HB5.out).setCell (p := ⟨W.heap.size + 1, 0, none⟩) (Nat.le_succ _) _).setCell (p := ⟨W.heap.size + 1, 1, none⟩) (Nat.le_succ _) _).setCell (p := ⟨W.heap.size + 1, 2, none⟩) (Nat.le_succ _) _⟩
  have HV2 : Hid (v = ftN (bigT s) s 0) := Lib.hid (by rw [HV.out, if_neg h16])
  have hd : decide (16 < s.length) = false := decide_eq_false h16
  have hd1 : (s.length : Int) ≤ 16 := by omega
  have HFT : Hid (∀ w, Below W1.heap.size W1 w → Calls Tryz.prog 50 #[.agg #[.slice A s.length c], .func (.func 51) #[] #[.pointer (some ⟨W.heap.size, 0, none⟩)]] w fun r w' => r = .returned (faV (ftN (bigT s) s 0)) ∧ Below w.heap.size w w') := Lib.hid (fun w hw =>
    firstType1_any s A c hl w enter_sizesC (bigT s) (fun w' hw' i hi => sizesC_any s F A c w' (HX.out w' (hop hw hw')).1 (HS.out w' (hop hw hw')) hi))
  generalize ftN (bigT s) s 0 = z at *
  obtain ⟨z1, z2, z3⟩ := z
  clear h0 h16 HV
  go_enter Tryz.func25, Tryz.ntmps25
  go_wp2_with (first
    | (go_at_call 49; rw [← HW.out]; refine HM.out.mono ?_; rintro r w5 ⟨rfl, hb5⟩; have HB5 := Lib.hid hb5; have HT5 := Lib.hid (HFT.out w5 hb5); obtain ⟨x0, _⟩ := HX.out w5 hb5; clear hb5)
    | (go_at_call 50; refine HT5.out.mono ?_; rintro r w6 ⟨rfl, hb6⟩; have HB6 := Lib.hid (hop HB5.out hb6); obtain ⟨_, v0, v1, v2, f0, f1, f2⟩ := HX.out w6 HB6.out; clear hb6))
  refine bodyPost_ret (v := .agg #[.int .i64 z1, .int .i64 z2, .int .i64 (z3 : Int)]) (by simp [results, Tryz.results25, go_sem, v0, v1, v2]) rfl ?_
  exact ⟨by rw [HV2.out] <;> rfl, (((HF.out w6 HB6.out).setCell (p := ⟨W.heap.size + 1, 0, none⟩) (Nat.le_succ _) _).setCell (p := ⟨W.heap.size + 1, 1, none⟩) (Nat.le_succ _) _).setCell (p := ⟨W.heap.size + 1, 2, none⟩) (Nat.le_succ _) _⟩
end Go.Proofs.YtdnhbledndgbcaaGreat
namespace Go.Proofs.YtdnhbledndgbcaaGreat
open Go.RowKit
theorem noRel_at (W : World) (F : Nat → Prop) : RlAt W F noRel [.string ⟨#[]⟩, .slice none 0 0, .int .i64 0, .string ⟨#[]⟩, .string ⟨#[]⟩, .slice none 0 0] :=
  ⟨none, 0, _, rfl, ⟨Nat.zero_le _, Nat.zero_le _⟩, .inl rfl, ExAt.of_row (k := 0) (n := []) (o := []) (ks := []) (A := none) (c := 0) ⟨⟨by decide, by decide⟩, Nat.zero_le _, Nat.zero_le _, Nat.zero_le _⟩ (.inl rfl)⟩
end Go.Proofs.YtdnhbledndgbcaaGreat
