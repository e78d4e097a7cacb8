/-
  What the document's Name comes to. Condition: a string's length fits an int.
  How high an expression is, and may it be (conciergeref11's Height, MayExpr)? Conditions: it is there; it is at most 1,000,000 high; what it may have is from 0 to 1,000.
  The text of an expression that may be (conciergeref11's show). Conditions: it is there; it is at most 12 high.
-/
import Derived.Test.YtpiaiibobjlipaaCLaW
import Derived.Deep.RegionHeldLaw
namespace Go.Proofs.Ytpiaiibobjlipaa
open Go.RowKit
set_option maxHeartbeats 400000 in
theorem refName_bad (s : ByteArray) (w : World) (hm : s.size ≤ 9223372036854775807) (hb : nameBad s.data.toList) :
    Calls Try.prog 38 #[.string s] w fun e w' => e = .returned (.bool false) ∧ w = w' := by
  have hp := name_parts s hb
  clear hb
  rcases hp with rfl | ⟨h0, h1⟩ | ⟨h0, h1, h2⟩ | ⟨h0, h1, h2, h3⟩ | ⟨h0, h1, h2, h3, h4⟩
  all_goals go_enter Try.func38, Try.ntmps38
  all_goals go_wp2_with fail
  all_goals go_ret
  all_goals exact ⟨rfl, rfl⟩
set_option maxHeartbeats 400000 in
theorem refName_any (s : ByteArray) (w : World) (hm : s.size ≤ 9223372036854775807) :
    Calls Try.prog 38 #[.string s] w fun e w' => e = .returned (.bool (nameL s.data.toList)) ∧ w = w' := by
  by_cases hb : nameBad s.data.toList
  · rw [name_bad hb]; exact refName_bad s w hm hb
  obtain ⟨h0, h1, h2, h3, h4, h5⟩ := name_fine s hb
  have HB := Lib.hid hb
  clear hb
  go_enter Try.func38, Try.ntmps38
  go_wp2_with fail
  go_loop [3] (fun i => ∃ k : Nat, k ≤ s.size ∧ i = .int .i64 k ∧ Hid (NmTo s k)) (fun i => s.size - (intOf i).toNat)
  case atStart => exact ⟨0, by omega, rfl, Lib.hid (NmTo.zero s)⟩
  case round =>
    obtain ⟨k, hk, rfl, H⟩ := hrel
    by_cases hlt : k < s.size
    · have hx := s[k].toNat_lt
      by_cases hlow : 97 ≤ s[k].toNat ∧ s[k].toNat ≤ 122
      · obtain ⟨d1, d2⟩ := hlow
        have HG := Lib.hid (H.out.low hlt d1 d2)
        go_wp2_with fail
        go_round
        case rel => exact ⟨k + 1, by omega, by go_num, HG⟩
        case measure => simp [intOf]; omega
      · by_cases h0 : 0 < k
        · have k0 : ((k : Int) == 0) = false := beq_eq_false_iff_ne.2 (by omega)
          by_cases h95 : s[k].toNat = 95
          · have HG := Lib.hid (H.out.more hlt h0 (.inl h95))
            have e95 : (s[k].toNat : Int) = 95 := by omega
            clear h95 hlow
            go_wp2_with fail
            go_round
            case rel => exact ⟨k + 1, by omega, by go_num, HG⟩
            case measure => simp [intOf]; omega
          · have e95 : ¬ (s[k].toNat : Int) = 95 := by omega
            have n95 : ((s[k].toNat : Int) != 95) = true := bne_iff_ne.2 (by omega)
            by_cases hdig : 48 ≤ s[k].toNat ∧ s[k].toNat ≤ 57
            · have HG := Lib.hid (H.out.more hlt h0 (.inr hdig))
              obtain ⟨b1, b2⟩ := hdig
              have a1 : ¬ 97 ≤ s[k].toNat := by omega
              clear h95 hlow
              go_wp2_with fail
              go_round
              case rel => exact ⟨k + 1, by omega, by go_num, HG⟩
              case measure => simp [intOf]; omega
            · have HG : Hid (nameL s.data.toList = false) := Lib.hid (H.out.other hlt hlow h95 hdig)
              have hc : s[k].toNat < 48 ∨ (48 ≤ s[k].toNat ∧ 57 < s[k].toNat ∧ s[k].toNat < 97) ∨ (48 ≤ s[k].toNat ∧ 57 < s[k].toNat ∧ 97 ≤ s[k].toNat ∧ 122 < s[k].toNat ∧ decide ((s[k].toNat : Int) ≤ 122) = false) := by simp only [decide_eq_false_iff_not]; omega
              clear h95 hlow hdig
              rcases hc with c1 | ⟨c1, c2, c3⟩ | ⟨c1, c2, c3, c4, c5⟩
              all_goals go_wp2_with fail
              all_goals go_ret
              all_goals exact ⟨by rw [HG.out]; rfl, rfl⟩
        · obtain rfl : k = 0 := by omega
          have HG : Hid (nameL s.data.toList = false) := Lib.hid (NmTo.first h1 hlow)
          have hc : s[0].toNat < 97 ∨ (97 ≤ s[0].toNat ∧ 122 < s[0].toNat ∧ decide ((s[0].toNat : Int) ≤ 122) = false) := by simp only [decide_eq_false_iff_not]; omega
          clear hlow
          rcases hc with c1 | ⟨c1, c2, c3⟩
          all_goals go_wp2_with fail
          all_goals go_ret
          all_goals exact ⟨by rw [HG.out]; rfl, rfl⟩
    · have HG : Hid (nameL s.data.toList = true) := Lib.hid (H.out.done hlt (by omega) HB.out)
      go_wp2_with fail
      all_goals go_ret
      all_goals exact ⟨by rw [HG.out]; rfl, rfl⟩
theorem refName_txt (l : Txt) (w : World) (hm : l.length ≤ 9223372036854775807) :
    Calls Try.prog 38 #[strV l] w fun e w' => e = .returned (.bool (nameL l)) ∧ w = w' := by
  have h := refName_any ⟨l.toArray⟩ w (by simpa [ByteArray.size] using hm)
  simpa using h
end Go.Proofs.Ytpiaiibobjlipaa
namespace Go.Proofs.Ytpiaiibobjlipaa
open Go.RowKit

mutual
def heightE : Ex → Nat
  | .mk _ _ _ ks => heightL ks + 1
def heightL : List Ex → Nat
  | [] => 0
  | k :: r => max (heightE k) (heightL r)
end
theorem heightL_mem {x : Ex} : ∀ {ks : List Ex}, x ∈ ks → heightE x ≤ heightL ks
  | [], h => by cases h
  | k :: r, h => by
    unfold heightL
    rcases List.mem_cons.1 h with rfl | h
    · exact Nat.le_max_left _ _
    · exact Nat.le_trans (heightL_mem h) (Nat.le_max_right _ _)
set_option maxHeartbeats 1000000 in
theorem height_any : ∀ (e : Ex) (W : World) (F : Nat → Prop) (cs : List Value), ExAt W F e cs → heightE e ≤ 1000000 →
    Calls Try.prog 21 #[.agg cs.toArray] W fun e' w' => e' = .returned (.int .i64 (heightE e)) ∧ Below W.heap.size W w' := by
  intro e
  refine Ex.all (P := fun e => ∀ (W : World) (F : Nat → Prop) (cs : List Value), ExAt W F e cs → heightE e ≤ 1000000 →
    Calls Try.prog 21 #[.agg cs.toArray] W fun e' w' => e' = .returned (.int .i64 (heightE e)) ∧ Below W.heap.size W w') (fun k n o ks ih W F cs hE hm => ?_) e
  obtain ⟨A, c, rfl, ⟨_, _, _, hl⟩, hr⟩ := hE.row
  show Calls _ _ #[.agg #[.int .i64 k, strV n, strV o, .slice A ks.length c]] _ _
  obtain ⟨W1, hW⟩ : ∃ W1, W1 = W.alloc (.cells #[.int .i64 k, strV n, strV o, .slice A ks.length c] 35) := ⟨_, rfl⟩
  have HK0 : Hid (Blk W1 W.heap.size [.int .i64 k, strV n, strV o, .slice A ks.length c] 35) := by rw [hW]; exact Lib.hid (Blk.new W _ _)
  have HB0 : Hid (Below W.heap.size W W1) := by rw [hW]; exact Lib.hid ((Below.refl W.heap.size W).alloc (Nat.le_refl _) _)
  unfold heightE at hm ⊢
  obtain ⟨v, hv⟩ : ∃ v, v = heightL ks := ⟨_, rfl⟩
  have HMem := Lib.hid (fun x (hx : x ∈ ks) => Nat.le_trans (heightL_mem hx) (Nat.le_of_succ_le hm))
  rw [← hv] at hm ⊢
  have HR := Lib.hid hr
  have HI := Lib.hid ih
  have HW := Lib.hid hW
  have HV := Lib.hid hv
  clear ih hr hE hW hv
  go_enter Try.func21, Try.ntmps21
  go_wp2_with fail
  rw [← HW.out]
  go_loopw [3, 4] (fun sn i wr => ∃ (j q : Nat), j ≤ ks.length ∧ i = .int .i64 j ∧ sn = .int .i64 q ∧ q ≤ 1000000 ∧ Hid (max q (heightL (ks.drop j)) = v) ∧ Hid (Below W1.heap.size W1 wr)) (fun _ i _ => ks.length - (intOf i).toNat)
  case atStart => exact ⟨0, 0, by omega, rfl, rfl, by omega, Lib.hid (by rw [Nat.zero_max]; exact HV.out.symm), Lib.hid (Below.refl _ _)⟩
  case round =>
    obtain ⟨j, q, hj, rfl, rfl, hq, HQ, BW⟩ := hrel
    have x3 := (HK0.out.below BW.out HK0.out.lt).cell (i := 3) (by simp)
    simp only [List.getElem_cons_succ, List.getElem_cons_zero] at x3
    by_cases hlt : j < ks.length
    · have HD := Lib.hid (List.drop_eq_getElem_cons hlt)
      obtain ⟨b, off, k', n', o', A', m', c', rfl, hE', hcells⟩ := HR.out.kid hlt
      obtain ⟨z0, z1, z2, z3⟩ := hcells wr (HB0.out.trans (BW.out.mono HB0.out.size))
      have hx := HMem.out ks[j] (List.getElem_mem hlt)
      have HC := Lib.hid (HI.out ks[j] (List.getElem_mem hlt) wr F _ (hE'.below (HB0.out.trans (BW.out.mono HB0.out.size))) hx)
      obtain ⟨h, hh⟩ : ∃ h, h = heightE ks[j] := ⟨_, rfl⟩
      rw [← hh] at HC hx
      have HN : Hid (max q (max h (heightL (ks.drop (j + 1)))) = v) := by
        show _ = _
        rw [← HQ.out, HD.out, heightL, hh]
      clear hE' hcells hh
      by_cases hqh : q < h
      · have HN2 : Hid (max h (heightL (ks.drop (j + 1))) = v) := by
          show _ = _
          rw [← HN.out]; omega
        go_wp2_with (go_at_call 21; refine HC.out.mono ?_; rintro e w2 ⟨rfl, hb2⟩)
        go_roundw
        case rel => exact ⟨j + 1, h, by omega, by go_num, rfl, by omega, HN2, Lib.hid (hop BW.out hb2)⟩
        case measure => simp [intOf]; omega
      · have HN2 : Hid (max q (heightL (ks.drop (j + 1))) = v) := by
          show _ = _
          rw [← HN.out]; omega
        have hd : decide (q < h) = false := decide_eq_false hqh
        go_wp2_with (go_at_call 21; refine HC.out.mono ?_; rintro e w2 ⟨rfl, hb2⟩)
        go_roundw
        case rel => exact ⟨j + 1, q, by omega, by go_num, rfl, by omega, HN2, Lib.hid (hop BW.out hb2)⟩
        case measure => simp [intOf]; omega
    · have HQ2 : Hid (q = v) := by
        show _ = _
        rw [← HQ.out, List.drop_of_length_le (by omega), heightL]; omega
      go_wp2_with fail
      go_ret
      exact ⟨by rw [← HQ2.out]; simp, HB0.out.trans (BW.out.mono HB0.out.size)⟩
mutual
def mayE : Ex → Int → Bool
  | .mk k n o ks, m => if m = 0 ∨ k < 0 ∨ 4 < k then false else if k ≤ 1 then nameL n && (ks.length == 0 && (k == 0 || nameL o)) else decide (ks.length = 2) && mayL ks (m - 1)
def mayL : List Ex → Int → Bool
  | [], _ => true
  | x :: r, m => mayE x m && mayL r m
end
set_option maxHeartbeats 1000000 in
theorem mayExpr_any : ∀ (e : Ex) (W : World) (F : Nat → Prop) (cs : List Value) (m : Int), ExAt W F e cs → 0 ≤ m ∧ m ≤ 1000 →
    Calls Try.prog 42 #[.agg cs.toArray, .int .i64 m] W fun e' w' => e' = .returned (.bool (mayE e m)) ∧ Below W.heap.size W w' := by
  intro e
  refine Ex.all (P := fun e => ∀ (W : World) (F : Nat → Prop) (cs : List Value) (m : Int), ExAt W F e cs → 0 ≤ m ∧ m ≤ 1000 →
    Calls Try.prog 42 #[.agg cs.toArray, .int .i64 m] W fun e' w' => e' = .returned (.bool (mayE e m)) ∧ Below W.heap.size W w') (fun k n o ks ih W F cs m hE hm => ?_) e
  obtain ⟨A, c, rfl, ⟨⟨k1, k2⟩, hn, ho, hl⟩, hr⟩ := hE.row
  show Calls _ _ #[.agg #[.int .i64 k, strV n, strV o, .slice A ks.length c], .int .i64 m] _ _
  obtain ⟨m1, m2⟩ := hm
  obtain ⟨W1, hW⟩ : ∃ W1, W1 = W.alloc (.cells #[.int .i64 k, strV n, strV o, .slice A ks.length c] 35) := ⟨_, rfl⟩
  have HK0 : Hid (Blk W1 W.heap.size [.int .i64 k, strV n, strV o, .slice A ks.length c] 35) := by rw [hW]; exact Lib.hid (Blk.new W _ _)
  have HB0 : Hid (Below W.heap.size W W1) := by rw [hW]; exact Lib.hid ((Below.refl W.heap.size W).alloc (Nat.le_refl _) _)
  obtain ⟨v, hv⟩ : ∃ v, v = mayE (.mk k n o ks) m := ⟨_, rfl⟩
  rw [← hv]
  have HR := Lib.hid hr
  have HI := Lib.hid ih
  have HW := Lib.hid hW
  have HNn := Lib.hid (fun W => refName_txt n W hn)
  have HNo := Lib.hid (fun W => refName_txt o W ho)
  clear ih hr hE hW
  by_cases hbad : m = 0 ∨ k < 0 ∨ 4 < k
  · rw [mayE, if_pos hbad] at hv
    subst hv
    have hc : m = 0 ∨ (((m : Int) == 0) = false ∧ k < 0) ∨ (((m : Int) == 0) = false ∧ decide (k < 0) = false ∧ 4 < k) := by
      by_cases h0 : m = 0
      · exact .inl h0
      · by_cases h1 : k < 0
        · exact .inr (.inl ⟨beq_eq_false_iff_ne.2 h0, h1⟩)
        · exact .inr (.inr ⟨beq_eq_false_iff_ne.2 h0, decide_eq_false h1, (hbad.resolve_left h0).resolve_left h1⟩)
    clear hbad
    rcases hc with rfl | ⟨h0, h1⟩ | ⟨h0, h1, h2⟩
    all_goals go_enter Try.func42, Try.ntmps42
    all_goals go_wp2_with fail
    all_goals go_ret
    all_goals exact ⟨rfl, by rw [← HW.out]; exact HB0.out⟩
  have h0 : ¬ m = 0 := fun h => hbad (.inl h)
  have h1 : ¬ k < 0 := fun h => hbad (.inr (.inl h))
  have h2 : ¬ 4 < k := fun h => hbad (.inr (.inr h))
  have b0 : ((m : Int) == 0) = false := beq_eq_false_iff_ne.2 h0
  have b1 : decide (k < 0) = false := decide_eq_false h1
  have b2 : decide (4 < k) = false := decide_eq_false h2
  by_cases hk : k ≤ 1
  · rw [mayE, if_neg hbad, if_pos hk] at hv
    clear hbad
    have HV := Lib.hid hv
    clear hv
    obtain ⟨x, hx⟩ : ∃ x, nameL n = x := ⟨_, rfl⟩
    obtain ⟨y, hy⟩ : ∃ y, nameL o = y := ⟨_, rfl⟩
    obtain ⟨z, hz⟩ : ∃ z, (ks.length == 0) = z := ⟨_, rfl⟩
    obtain ⟨u, hu⟩ : ∃ u, (k == 0) = u := ⟨_, rfl⟩
    have hz2 : (((ks.length : Nat) : Int) == 0) = z := by
      rw [← hz, Bool.eq_iff_iff]; simp only [beq_iff_eq]; omega
    rw [hx] at HNn HV
    rw [hy] at HNo HV
    rw [hz, hu] at HV
    clear hx hy hz
    cases x
    · go_enter Try.func42, Try.ntmps42
      go_wp2_with (first
        | (go_at_call 38; with_reducible refine (HNn.out _).mono ?_; rintro e w2 ⟨rfl, rfl⟩)
        | (go_at_call 38; with_reducible refine (HNo.out _).mono ?_; rintro e w3 ⟨rfl, rfl⟩))
      go_ret
      exact ⟨by rw [HV.out]; rfl, by rw [← HW.out]; exact HB0.out⟩
    · cases z
      · go_enter Try.func42, Try.ntmps42
        go_wp2_with (first
          | (go_at_call 38; with_reducible refine (HNn.out _).mono ?_; rintro e w2 ⟨rfl, rfl⟩)
          | (go_at_call 38; with_reducible refine (HNo.out _).mono ?_; rintro e w3 ⟨rfl, rfl⟩))
        go_ret
        exact ⟨by rw [HV.out]; rfl, by rw [← HW.out]; exact HB0.out⟩
      · cases u
        · go_enter Try.func42, Try.ntmps42
          go_wp2_with (first
            | (go_at_call 38; with_reducible refine (HNn.out _).mono ?_; rintro e w2 ⟨rfl, rfl⟩)
            | (go_at_call 38; with_reducible refine (HNo.out _).mono ?_; rintro e w3 ⟨rfl, rfl⟩))
          go_ret
          exact ⟨by rw [HV.out]; rfl, by rw [← HW.out]; exact HB0.out⟩
        · go_enter Try.func42, Try.ntmps42
          go_wp2_with (first
            | (go_at_call 38; with_reducible refine (HNn.out _).mono ?_; rintro e w2 ⟨rfl, rfl⟩)
            | (go_at_call 38; with_reducible refine (HNo.out _).mono ?_; rintro e w3 ⟨rfl, rfl⟩))
          go_ret
          exact ⟨by rw [HV.out]; rfl, by rw [← HW.out]; exact HB0.out⟩
  rw [mayE, if_neg hbad, if_neg hk] at hv
  clear hbad
  by_cases h3 : ks.length = 2
  · rw [decide_eq_true h3, Bool.true_and] at hv
    obtain ⟨x, y, rfl⟩ : ∃ x y, ks = [x, y] := by
      match ks, h3 with
      | [a, b], _ => exact ⟨a, b, rfl⟩
    rw [mayL, mayL, mayL, Bool.and_true] at hv
    have hdk : decide (k ≤ 1) = false := decide_eq_false hk
    obtain ⟨b, off, k3, n3, o3, A3, m3, c3, rfl, hE3, hc3⟩ := HR.out.kid (j := 0) (by simp)
    obtain ⟨b', off', k4, n4, o4, A4, m4, c4, hbb, hE4, hc4⟩ := HR.out.kid (j := 1) (by simp)
    injection hbb with hbb
    injection hbb with hb1 hb2 _
    subst hb1 hb2
    have HC3 : Hid (∀ W', Below W.heap.size W W' → W'.cell? ⟨b, off, none⟩ = some (.int .i64 k3) ∧ W'.cell? ⟨b, off + 1, none⟩ = some (strV n3) ∧ W'.cell? ⟨b, off + 2, none⟩ = some (strV o3) ∧ W'.cell? ⟨b, off + 3, none⟩ = some (.slice A3 m3 c3)) := Lib.hid (fun W' hW' => by have h := hc3 W' hW'; unfold ExFour at h; simpa using h)
    have HC4 : Hid (∀ W', Below W.heap.size W W' → W'.cell? ⟨b, off + 4, none⟩ = some (.int .i64 k4) ∧ W'.cell? ⟨b, off + 4 + 1, none⟩ = some (strV n4) ∧ W'.cell? ⟨b, off + 4 + 2, none⟩ = some (strV o4) ∧ W'.cell? ⟨b, off + 4 + 3, none⟩ = some (.slice A4 m4 c4)) := Lib.hid (fun W' hW' => by have h := hc4 W' hW'; unfold ExFour at h; simpa using h)
    have HX := Lib.hid (HI.out x (by simp) W1 F _ (m - 1) (ExAt.below HB0.out hE3) (by omega))
    have HIY := Lib.hid (fun W' (hW' : Below W.heap.size W W') => HI.out y (by simp) W' F _ (m - 1) (ExAt.below hW' hE4) (by omega))
    obtain ⟨q1, hq1⟩ : ∃ q, mayE x (m - 1) = q := ⟨_, rfl⟩
    obtain ⟨q2, hq2⟩ : ∃ q, mayE y (m - 1) = q := ⟨_, rfl⟩
    rw [hq1] at HX hv
    rw [hq2] at HIY hv
    have HV := Lib.hid hv
    have HK : Hid (Blk W1 W.heap.size [.int .i64 k, strV n, strV o, .slice (some ⟨b, off, none⟩) 2 c] 35) := HK0
    have HW2 : Hid (W1 = W.alloc (.cells #[.int .i64 k, strV n, strV o, .slice (some ⟨b, off, none⟩) 2 c] 35)) := HW
    clear hv hc3 hc4 hE3 hE4 hq1 hq2 HI HR HK0 HW h3 hl
    show Calls _ _ #[.agg #[.int .i64 k, strV n, strV o, .slice (some ⟨b, off, none⟩) 2 c], .int .i64 m] _ _
    have z0 : ∀ o, (W.alloc o).cell? ⟨b, off, none⟩ = some (.int .i64 k3) := fun o => (HC3.out _ ((Below.refl _ _).alloc (Nat.le_refl _) o)).1
    have z1 : ∀ o, (W.alloc o).cell? ⟨b, off + 1, none⟩ = some (strV n3) := fun o => (HC3.out _ ((Below.refl _ _).alloc (Nat.le_refl _) o)).2.1
    have z2 : ∀ o, (W.alloc o).cell? ⟨b, off + 2, none⟩ = some (strV o3) := fun o => (HC3.out _ ((Below.refl _ _).alloc (Nat.le_refl _) o)).2.2.1
    have z3 : ∀ o, (W.alloc o).cell? ⟨b, off + 3, none⟩ = some (.slice A3 m3 c3) := fun o => (HC3.out _ ((Below.refl _ _).alloc (Nat.le_refl _) o)).2.2.2
    cases q1
    · go_enter Try.func42, Try.ntmps42
      go_wp2_with (go_at_call 42; rw [← HW2.out]; refine HX.out.mono ?_; rintro e w2 ⟨rfl, hb2⟩)
      go_ret
      exact ⟨by rw [HV.out]; rfl, HB0.out.trans (hb2.mono HB0.out.size)⟩
    · go_enter Try.func42, Try.ntmps42
      go_wp2_with (first
        | (go_at_call 42; rw [← HW2.out]; refine HX.out.mono ?_; rintro e w2 ⟨rfl, hb2⟩; have HB2 := Lib.hid (HB0.out.trans (hb2.mono HB0.out.size)); have HY := Lib.hid (HIY.out w2 HB2.out); have x3 := (HK.out.below hb2 HK.out.lt).cell (i := 3) (by simp); simp only [List.getElem_cons_succ, List.getElem_cons_zero] at x3; obtain ⟨u0, u1, u2, u3⟩ := HC4.out w2 HB2.out; clear hb2)
        | (go_at_call 42; refine HY.out.mono ?_; rintro e w3 ⟨rfl, hb3⟩))
      go_ret
      exact ⟨by rw [HV.out]; rfl, HB2.out.trans (hb3.mono HB2.out.size)⟩
  · have hd : ((ks.length : Int) != 2) = true := bne_iff_ne.2 (by omega)
    rw [decide_eq_false h3, Bool.false_and] at hv
    have hdk : decide (k ≤ 1) = false := decide_eq_false hk
    subst hv
    clear h3
    go_enter Try.func42, Try.ntmps42
    go_wp2_with fail
    go_ret
    exact ⟨rfl, by rw [← HW.out]; exact HB0.out⟩
end Go.Proofs.Ytpiaiibobjlipaa
namespace Go.Proofs.Ytpiaiibobjlipaa
open Go.RowKit
def opT (k : Int) : Txt := if k = 2 then [32, 43, 32] else if k = 3 then [32, 38, 32] else [32, 45, 32]
mutual
def showE : Ex → Txt
  | .mk k n o ks => if k = 0 then n else if k = 1 then n ++ [46] ++ o else [40] ++ (showAll ks).getD 0 [] ++ opT k ++ (showAll ks).getD 1 [] ++ [41]
def showAll : List Ex → List Txt
  | [] => []
  | x :: r => showE x :: showAll r
end
theorem opT_len (k : Int) : (opT k).length = 3 := by unfold opT; split <;> (try split) <;> rfl
theorem showE_len : ∀ (e : Ex) (m : Int), 0 ≤ m → mayE e m = true → (showE e).length + 10 ≤ 64 * 2 ^ m.toNat := by
  intro e
  refine Ex.all (P := fun e => ∀ m : Int, 0 ≤ m → mayE e m = true → (showE e).length + 10 ≤ 64 * 2 ^ m.toNat) (fun k n o ks ih m hm h => ?_) e
  unfold mayE at h
  by_cases hb : m = 0 ∨ k < 0 ∨ 4 < k
  · rw [if_pos hb] at h; cases h
  rw [if_neg hb] at h
  have hp : 1 ≤ 2 ^ m.toNat := Nat.one_le_two_pow
  unfold showE
  by_cases hk : k ≤ 1
  · rw [if_pos hk] at h
    simp only [Bool.and_eq_true, Bool.or_eq_true] at h
    obtain ⟨h1, _, h3⟩ := h
    have l1 := (nameL_len h1).2
    by_cases h0 : k = 0
    · rw [if_pos h0]; omega
    · rw [if_neg h0, if_pos (by omega)]
      have h4 : nameL o = true := h3.resolve_left (by simpa using h0)
      have l2 := (nameL_len h4).2
      simp; omega
  · rw [if_neg hk] at h
    rw [if_neg (by omega), if_neg (by omega)]
    simp only [Bool.and_eq_true, decide_eq_true_eq] at h
    obtain ⟨h1, h2⟩ := h
    obtain ⟨x, y, rfl⟩ : ∃ x y, ks = [x, y] := by
      match ks, h1 with
      | [a, b], _ => exact ⟨a, b, rfl⟩
    simp only [mayL, Bool.and_true, Bool.and_eq_true] at h2
    have e1 := ih x (by simp) (m - 1) (by omega) h2.1
    have e2 := ih y (by simp) (m - 1) (by omega) h2.2
    have ht : m.toNat = (m - 1).toNat + 1 := by omega
    rw [ht, Nat.pow_succ]
    simp only [showAll, List.getD_cons_zero, List.getD_cons_succ, List.length_append, List.length_cons, List.length_nil, opT_len]
    omega
set_option maxHeartbeats 2000000 in
theorem show_any : ∀ (e : Ex) (W : World) (F : Nat → Prop) (cs : List Value) (m : Int), ExAt W F e cs → mayE e m = true → 0 ≤ m ∧ m ≤ 12 →
    Calls Try.prog 35 #[.agg cs.toArray] W fun e' w' => e' = .returned (strV (showE e)) ∧ Below W.heap.size W w' := by
  intro e
  refine Ex.all (P := fun e => ∀ (W : World) (F : Nat → Prop) (cs : List Value) (m : Int), ExAt W F e cs → mayE e m = true → 0 ≤ m ∧ m ≤ 12 →
    Calls Try.prog 35 #[.agg cs.toArray] W fun e' w' => e' = .returned (strV (showE e)) ∧ Below W.heap.size W w') (fun k n o ks ih W F cs m hE hmay hm => ?_) e
  have hlen : ∀ x ∈ ks, ∀ j : Int, 0 ≤ j → j ≤ 12 → mayE x j = true → (showE x).length ≤ 262144 := fun x _ j h0 h1 hx => by
    have h2 := showE_len x j h0 hx
    have h3 : 2 ^ j.toNat ≤ 2 ^ 12 := Nat.pow_le_pow_right (by omega) (by omega)
    have h4 : (2 : Nat) ^ 12 = 4096 := by decide
    omega
  obtain ⟨A, c, rfl, ⟨⟨k1, k2⟩, hn, ho, hl⟩, hr⟩ := hE.row
  show Calls _ _ #[.agg #[.int .i64 k, strV n, strV o, .slice A ks.length c]] _ _
  obtain ⟨m1, m2⟩ := hm
  obtain ⟨v, hv⟩ : ∃ v, v = showE (.mk k n o ks) := ⟨_, rfl⟩
  rw [← hv]
  unfold showE at hv
  unfold mayE at hmay
  by_cases hb : m = 0 ∨ k < 0 ∨ 4 < k
  · rw [if_pos hb] at hmay; cases hmay
  rw [if_neg hb] at hmay
  obtain ⟨W1, hW⟩ : ∃ W1, W1 = W.alloc (.cells #[.int .i64 k, strV n, strV o, .slice A ks.length c] 35) := ⟨_, rfl⟩
  have HK0 : Hid (Blk W1 W.heap.size [.int .i64 k, strV n, strV o, .slice A ks.length c] 35) := by rw [hW]; exact Lib.hid (Blk.new W _ _)
  have HB0 : Hid (Below W.heap.size W W1) := by rw [hW]; exact Lib.hid ((Below.refl W.heap.size W).alloc (Nat.le_refl _) _)
  have HR := Lib.hid hr
  have HI := Lib.hid ih
  have HW := Lib.hid hW
  clear ih hr hE hW
  by_cases hk : k ≤ 1
  · rw [if_pos hk] at hmay
    simp only [Bool.and_eq_true, Bool.or_eq_true] at hmay
    obtain ⟨h1, _, h3⟩ := hmay
    have l1 := (nameL_len h1).2
    by_cases h0 : k = 0
    · rw [if_pos h0] at hv
      subst h0 hv
      clear hb hk h1 h3 l1 hlen
      go_enter Try.func35, Try.ntmps35
      go_wp2_with fail
      go_ret
      exact ⟨rfl, by rw [← HW.out]; exact HB0.out⟩
    · obtain rfl : k = 1 := by omega
      have h4 : nameL o = true := h3.resolve_left (by simp)
      have l2 := (nameL_len h4).2
      rw [if_neg (by decide), if_pos rfl] at hv
      obtain ⟨T1, hT1⟩ : ∃ T1, T1 = n ++ [46] := ⟨_, rfl⟩
      rw [← hT1] at hv
      have J1 : ∀ W, (Op.stringOp .add ⟨n.toArray⟩ ⟨#[46]⟩).run Try.prog W = .ok (strV T1) W := fun W => by rw [hT1]; exact plus n [46] (by omega) (by simp) W
      have J2 : ∀ W, (Op.stringOp .add ⟨T1.toArray⟩ ⟨o.toArray⟩).run Try.prog W = .ok (strV v) W := fun W => by rw [hv]; exact plus T1 o (by rw [hT1]; simp; omega) (by omega) W
      clear hb hk h1 h3 h4 l1 l2 hlen h0 hT1 hv
      go_enter Try.func35, Try.ntmps35
      go_wp2_with fail
      go_ret
      exact ⟨rfl, by rw [← HW.out]; exact HB0.out⟩
  · rw [if_neg hk] at hmay
    rw [if_neg (by omega), if_neg (by omega)] at hv
    simp only [Bool.and_eq_true, decide_eq_true_eq] at hmay
    obtain ⟨h1, h2⟩ := hmay
    obtain ⟨x, y, rfl⟩ : ∃ x y, ks = [x, y] := by
      match ks, h1 with
      | [a, b], _ => exact ⟨a, b, rfl⟩
    simp only [mayL, Bool.and_true, Bool.and_eq_true] at h2
    have l1 := hlen x (by simp) (m - 1) (by omega) (by omega) h2.1
    have l2 := hlen y (by simp) (m - 1) (by omega) (by omega) h2.2
    obtain ⟨b, off, k3, n3, o3, A3, m3, c3, rfl, hE3, hc3⟩ := HR.out.kid (j := 0) (by simp)
    obtain ⟨b', off', k4, n4, o4, A4, m4, c4, hbb, hE4, hc4⟩ := HR.out.kid (j := 1) (by simp)
    injection hbb with hbb
    injection hbb with hb1 hb2 _
    subst hb1 hb2
    have HX := Lib.hid (HI.out x (by simp) W1.drew F _ (m - 1) (ExAt.below HB0.out.drew hE3) h2.1 (by omega))
    have HIY := Lib.hid (fun W' (hW' : Below W.heap.size W W') => HI.out y (by simp) W' F _ (m - 1) (ExAt.below hW' hE4) h2.2 (by omega))
    have HK : Hid (Blk W1 W.heap.size [.int .i64 k, strV n, strV o, .slice (some ⟨b, off, none⟩) 2 c] 35) := HK0
    have HW2 : Hid (W1 = W.alloc (.cells #[.int .i64 k, strV n, strV o, .slice (some ⟨b, off, none⟩) 2 c] 35)) := HW
    obtain ⟨sx, hsx⟩ : ∃ sx, showE x = sx := ⟨_, rfl⟩
    obtain ⟨sy, hsy⟩ : ∃ sy, showE y = sy := ⟨_, rfl⟩
    simp only [showAll, List.getD_cons_zero, List.getD_cons_succ, hsx, hsy] at hv
    rw [hsx] at HX l1
    rw [hsy] at HIY l2
    have HX : Hid (Calls Try.prog 35 #[.agg #[.int .i64 k3, strV n3, strV o3, .slice A3 m3 c3]] W1.drew fun e' w' => e' = .returned (strV sx) ∧ Below W1.drew.heap.size W1.drew w') := HX
    have HIY : Hid (∀ W', Below W.heap.size W W' → Calls Try.prog 35 #[.agg #[.int .i64 k4, strV n4, strV o4, .slice A4 m4 c4]] W' fun e' w' => e' = .returned (strV sy) ∧ Below W'.heap.size W' w') := HIY
    have hS3 : ∀ W', Below W.heap.size W W' → (W'.cell? ⟨b, off, none⟩ = some (.int .i64 k3) ∧ W'.cell? ⟨b, off + 1, none⟩ = some (strV n3) ∧ W'.cell? ⟨b, off + 2, none⟩ = some (strV o3) ∧ W'.cell? ⟨b, off + 3, none⟩ = some (.slice A3 m3 c3)) ∧ (W'.cell? ⟨b, off + 4, none⟩ = some (.int .i64 k4) ∧ W'.cell? ⟨b, off + 4 + 1, none⟩ = some (strV n4) ∧ W'.cell? ⟨b, off + 4 + 2, none⟩ = some (strV o4) ∧ W'.cell? ⟨b, off + 4 + 3, none⟩ = some (.slice A4 m4 c4)) := fun W' hW' => by
      have h3 := hc3 W' hW'
      have h4 := hc4 W' hW'
      unfold ExFour at h3 h4
      exact ⟨by simpa using h3, by simpa using h4⟩
    have hS : ∀ W', Below W1.heap.size W1 W' → W'.cell? ⟨W.heap.size, 3, none⟩ = some (.slice (some ⟨b, off, none⟩) 2 c) ∧ (W'.cell? ⟨b, off, none⟩ = some (.int .i64 k3) ∧ W'.cell? ⟨b, off + 1, none⟩ = some (strV n3) ∧ W'.cell? ⟨b, off + 2, none⟩ = some (strV o3) ∧ W'.cell? ⟨b, off + 3, none⟩ = some (.slice A3 m3 c3)) ∧ (W'.cell? ⟨b, off + 4, none⟩ = some (.int .i64 k4) ∧ W'.cell? ⟨b, off + 4 + 1, none⟩ = some (strV n4) ∧ W'.cell? ⟨b, off + 4 + 2, none⟩ = some (strV o4) ∧ W'.cell? ⟨b, off + 4 + 3, none⟩ = some (.slice A4 m4 c4)) := fun W' hW' => by
      have hb := HB0.out.trans (hW'.mono HB0.out.size)
      exact ⟨(HK.out.below hW' HK.out.lt).cell (i := 3) (by simp), hS3 W' hb⟩
    have HS := Lib.hid hS
    have hS0 := hS _ (Below.refl W1.heap.size W1).drew
    obtain ⟨T1, hT1⟩ : ∃ T1, T1 = [40] ++ sx := ⟨_, rfl⟩
    rw [← hT1] at hv
    clear hS hS3 hc3 hc4 hE3 hE4 hsx hsy HI HR HK0 HW hl h1 h2 hlen
    show Calls _ _ #[.agg #[.int .i64 k, strV n, strV o, .slice (some ⟨b, off, none⟩) 2 c]] _ _
    have hk3 : k = 2 ∨ k = 3 ∨ k = 4 := by omega
    clear hb hk
    rcases hk3 with rfl | rfl | rfl
    · skip
      rw [show opT 2 = [32, 43, 32] from rfl] at hv
      obtain ⟨T2, hT2⟩ : ∃ T2, T2 = T1 ++ [32, 43, 32] := ⟨_, rfl⟩
      obtain ⟨T3, hT3⟩ : ∃ T3, T3 = T2 ++ sy := ⟨_, rfl⟩
      rw [← hT2, ← hT3] at hv
      have J1 : ∀ W, (Op.stringOp .add ⟨#[40]⟩ ⟨sx.toArray⟩).run Try.prog W = .ok (strV T1) W := fun W => by rw [hT1]; exact plus [40] sx (by simp) (by omega) W
      have J2 : ∀ W, (Op.stringOp .add ⟨T1.toArray⟩ ⟨#[32, 43, 32]⟩).run Try.prog W = .ok (strV T2) W := fun W => by rw [hT2]; exact plus T1 [32, 43, 32] (by rw [hT1]; simp; omega) (by simp) W
      have J3 : ∀ W, (Op.stringOp .add ⟨T2.toArray⟩ ⟨sy.toArray⟩).run Try.prog W = .ok (strV T3) W := fun W => by rw [hT3]; exact plus T2 sy (by rw [hT2, hT1]; simp; omega) (by omega) W
      have J4 : ∀ W, (Op.stringOp .add ⟨T3.toArray⟩ ⟨#[41]⟩).run Try.prog W = .ok (strV v) W := fun W => by rw [hv]; exact plus T3 [41] (by rw [hT3, hT2, hT1]; simp; omega) (by simp) W
      clear hT1 hT2 hT3 hv l1 l2
      go_enter Try.func35, Try.ntmps35
      go_wp2_with fail
      rw [← HW2.out]
      go_region_held_law (fun w' => w'.cell? ⟨W.heap.size, 3, none⟩ = some (.slice (some ⟨b, off, none⟩) 2 c) ∧ (w'.cell? ⟨b, off, none⟩ = some (.int .i64 k3) ∧ w'.cell? ⟨b, off + 1, none⟩ = some (strV n3) ∧ w'.cell? ⟨b, off + 2, none⟩ = some (strV o3) ∧ w'.cell? ⟨b, off + 3, none⟩ = some (.slice A3 m3 c3)) ∧ (w'.cell? ⟨b, off + 4, none⟩ = some (.int .i64 k4) ∧ w'.cell? ⟨b, off + 4 + 1, none⟩ = some (strV n4) ∧ w'.cell? ⟨b, off + 4 + 2, none⟩ = some (strV o4) ∧ w'.cell? ⟨b, off + 4 + 3, none⟩ = some (.slice A4 m4 c4)))
        (with_reducible assumption)
        (first
          | (go_at_call 35; with_reducible refine HX.out.mono ?_; rintro e w2 ⟨rfl, hb2⟩; have HBW2 := Lib.hid ((Below.refl W1.heap.size W1).drew.trans (hb2.mono (Below.refl W1.heap.size W1).drew.size)); have HB2 := Lib.hid (HB0.out.trans (HBW2.out.mono HB0.out.size)); have hS2 := HS.out _ HBW2.out; have HY := Lib.hid (HIY.out w2 HB2.out); clear hb2)
          | (go_at_call 35; with_reducible refine HY.out.mono ?_; rintro e w3 ⟨rfl, hb3⟩; have hS3 := HS.out _ (HBW2.out.trans (hb3.mono HBW2.out.size))))
      go_wp2_with fail
      go_ret
      exact ⟨rfl, HB2.out.trans (hb3.mono HB2.out.size)⟩
    · skip
      rw [show opT 3 = [32, 38, 32] from rfl] at hv
      obtain ⟨T2, hT2⟩ : ∃ T2, T2 = T1 ++ [32, 38, 32] := ⟨_, rfl⟩
      obtain ⟨T3, hT3⟩ : ∃ T3, T3 = T2 ++ sy := ⟨_, rfl⟩
      rw [← hT2, ← hT3] at hv
      have J1 : ∀ W, (Op.stringOp .add ⟨#[40]⟩ ⟨sx.toArray⟩).run Try.prog W = .ok (strV T1) W := fun W => by rw [hT1]; exact plus [40] sx (by simp) (by omega) W
      have J2 : ∀ W, (Op.stringOp .add ⟨T1.toArray⟩ ⟨#[32, 38, 32]⟩).run Try.prog W = .ok (strV T2) W := fun W => by rw [hT2]; exact plus T1 [32, 38, 32] (by rw [hT1]; simp; omega) (by simp) W
      have J3 : ∀ W, (Op.stringOp .add ⟨T2.toArray⟩ ⟨sy.toArray⟩).run Try.prog W = .ok (strV T3) W := fun W => by rw [hT3]; exact plus T2 sy (by rw [hT2, hT1]; simp; omega) (by omega) W
      have J4 : ∀ W, (Op.stringOp .add ⟨T3.toArray⟩ ⟨#[41]⟩).run Try.prog W = .ok (strV v) W := fun W => by rw [hv]; exact plus T3 [41] (by rw [hT3, hT2, hT1]; simp; omega) (by simp) W
      clear hT1 hT2 hT3 hv l1 l2
      go_enter Try.func35, Try.ntmps35
      go_wp2_with fail
      rw [← HW2.out]
      go_region_held_law (fun w' => w'.cell? ⟨W.heap.size, 3, none⟩ = some (.slice (some ⟨b, off, none⟩) 2 c) ∧ (w'.cell? ⟨b, off, none⟩ = some (.int .i64 k3) ∧ w'.cell? ⟨b, off + 1, none⟩ = some (strV n3) ∧ w'.cell? ⟨b, off + 2, none⟩ = some (strV o3) ∧ w'.cell? ⟨b, off + 3, none⟩ = some (.slice A3 m3 c3)) ∧ (w'.cell? ⟨b, off + 4, none⟩ = some (.int .i64 k4) ∧ w'.cell? ⟨b, off + 4 + 1, none⟩ = some (strV n4) ∧ w'.cell? ⟨b, off + 4 + 2, none⟩ = some (strV o4) ∧ w'.cell? ⟨b, off + 4 + 3, none⟩ = some (.slice A4 m4 c4)))
        (with_reducible assumption)
        (first
          | (go_at_call 35; with_reducible refine HX.out.mono ?_; rintro e w2 ⟨rfl, hb2⟩; have HBW2 := Lib.hid ((Below.refl W1.heap.size W1).drew.trans (hb2.mono (Below.refl W1.heap.size W1).drew.size)); have HB2 := Lib.hid (HB0.out.trans (HBW2.out.mono HB0.out.size)); have hS2 := HS.out _ HBW2.out; have HY := Lib.hid (HIY.out w2 HB2.out); clear hb2)
          | (go_at_call 35; with_reducible refine HY.out.mono ?_; rintro e w3 ⟨rfl, hb3⟩; have hS3 := HS.out _ (HBW2.out.trans (hb3.mono HBW2.out.size))))
      go_wp2_with fail
      go_ret
      exact ⟨rfl, HB2.out.trans (hb3.mono HB2.out.size)⟩
    · skip
      rw [show opT 4 = [32, 45, 32] from rfl] at hv
      obtain ⟨T2, hT2⟩ : ∃ T2, T2 = T1 ++ [32, 45, 32] := ⟨_, rfl⟩
      obtain ⟨T3, hT3⟩ : ∃ T3, T3 = T2 ++ sy := ⟨_, rfl⟩
      rw [← hT2, ← hT3] at hv
      have J1 : ∀ W, (Op.stringOp .add ⟨#[40]⟩ ⟨sx.toArray⟩).run Try.prog W = .ok (strV T1) W := fun W => by rw [hT1]; exact plus [40] sx (by simp) (by omega) W
      have J2 : ∀ W, (Op.stringOp .add ⟨T1.toArray⟩ ⟨#[32, 45, 32]⟩).run Try.prog W = .ok (strV T2) W := fun W => by rw [hT2]; exact plus T1 [32, 45, 32] (by rw [hT1]; simp; omega) (by simp) W
      have J3 : ∀ W, (Op.stringOp .add ⟨T2.toArray⟩ ⟨sy.toArray⟩).run Try.prog W = .ok (strV T3) W := fun W => by rw [hT3]; exact plus T2 sy (by rw [hT2, hT1]; simp; omega) (by omega) W
      have J4 : ∀ W, (Op.stringOp .add ⟨T3.toArray⟩ ⟨#[41]⟩).run Try.prog W = .ok (strV v) W := fun W => by rw [hv]; exact plus T3 [41] (by rw [hT3, hT2, hT1]; simp; omega) (by simp) W
      clear hT1 hT2 hT3 hv l1 l2
      go_enter Try.func35, Try.ntmps35
      go_wp2_with fail
      rw [← HW2.out]
      go_region_held_law (fun w' => w'.cell? ⟨W.heap.size, 3, none⟩ = some (.slice (some ⟨b, off, none⟩) 2 c) ∧ (w'.cell? ⟨b, off, none⟩ = some (.int .i64 k3) ∧ w'.cell? ⟨b, off + 1, none⟩ = some (strV n3) ∧ w'.cell? ⟨b, off + 2, none⟩ = some (strV o3) ∧ w'.cell? ⟨b, off + 3, none⟩ = some (.slice A3 m3 c3)) ∧ (w'.cell? ⟨b, off + 4, none⟩ = some (.int .i64 k4) ∧ w'.cell? ⟨b, off + 4 + 1, none⟩ = some (strV n4) ∧ w'.cell? ⟨b, off + 4 + 2, none⟩ = some (strV o4) ∧ w'.cell? ⟨b, off + 4 + 3, none⟩ = some (.slice A4 m4 c4)))
        (with_reducible assumption)
        (first
          | (go_at_call 35; with_reducible refine HX.out.mono ?_; rintro e w2 ⟨rfl, hb2⟩; have HBW2 := Lib.hid ((Below.refl W1.heap.size W1).drew.trans (hb2.mono (Below.refl W1.heap.size W1).drew.size)); have HB2 := Lib.hid (HB0.out.trans (HBW2.out.mono HB0.out.size)); have hS2 := HS.out _ HBW2.out; have HY := Lib.hid (HIY.out w2 HB2.out); clear hb2)
          | (go_at_call 35; with_reducible refine HY.out.mono ?_; rintro e w3 ⟨rfl, hb3⟩; have hS3 := HS.out _ (HBW2.out.trans (hb3.mono HBW2.out.size))))
      go_wp2_with fail
      go_ret
      exact ⟨rfl, HB2.out.trans (hb3.mono HB2.out.size)⟩
end Go.Proofs.Ytpiaiibobjlipaa
