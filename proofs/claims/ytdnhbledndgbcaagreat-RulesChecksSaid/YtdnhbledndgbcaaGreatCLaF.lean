/-
  How high an expression is, and may it be (conciergeref11's Height, MayExpr)? Conditions: it is there; it is at most 1,000,000 high; what it may have is from 0 to 1,000.
  The grammar as Lean functions over tokens: tokens of a text; atoms, terms, expressions, refs, relations, types; the first fault. No program is named.
  The tokens of a text, by fuel: for texts written out. No program is named.
  Are two expressions the same, as lists. No program is named.
  Rows of refs, of relations, of types, cell by cell; are two relations, two schemas the same, as lists. No program is named.
  Has a schema few parts (conciergelaw11's Few)? Conditions: it is there; the bound is from 0 to 1,000.
-/
import Derived.Test.YtdnhbledndgbcaaGreatCNmRefN
import Derived.Deep.RegionHeldLaw
namespace Go.Proofs.YtdnhbledndgbcaaGreat
open Go.RowKit

mutual
def heightE : Ex → Nat
  | .mk _ _ _ ks => heightL ks + 1
def heightL : List Ex → Nat
  | [] => 0
  | k :: r => max (heightE k) (heightL r)
end
theorem heightL_mem {x : Ex} : ∀ {ks : List Ex}, x ∈ ks → heightE x ≤ heightL ks
  | [], h => by cases h
  | k :: r, h => by
    unfold heightL
    rcases List.mem_cons.1 h with rfl | h
    · exact Nat.le_max_left _ _
    · exact Nat.le_trans (heightL_mem h) (Nat.le_max_right _ _)
set_option maxHeartbeats 1000000 in
theorem height_any : ∀ (e : Ex) (W : World) (F : Nat → Prop) (cs : List Value), ExAt W F e cs → heightE e ≤ 1000000 →
    Calls Tryz.prog 95 #[.agg cs.toArray] W fun e' w' => e' = .returned (.int .i64 (heightE e)) ∧ Below W.heap.size W w' := by
  intro e
  refine Ex.all (P := fun e => ∀ (W : World) (F : Nat → Prop) (cs : List Value), ExAt W F e cs → heightE e ≤ 1000000 →
    Calls Tryz.prog 95 #[.agg cs.toArray] W fun e' w' => e' = .returned (.int .i64 (heightE e)) ∧ Below W.heap.size W w') (fun k n o ks ih W F cs hE hm => ?_) e
  obtain ⟨A, c, rfl, ⟨_, _, _, hl⟩, hr⟩ := hE.row
  show Calls _ _ #[.agg #[.int .i64 k, strV n, strV o, .slice A ks.length c]] _ _
  obtain ⟨W1, hW⟩ : ∃ W1, W1 = W.alloc (.cells #[.int .i64 k, strV n, strV o, .slice A ks.length c] 44) := ⟨_, rfl⟩
  have HK0 : Hid (Blk W1 W.heap.size [.int .i64 k, strV n, strV o, .slice A ks.length c] 44) := by rw [hW]; exact Lib.hid (Blk.new W _ _)
  have HB0 : Hid (Below W.heap.size W W1) := by rw [hW]; exact Lib.hid ((Below.refl W.heap.size W).alloc (Nat.le_refl _) _)
  unfold heightE at hm ⊢
  obtain ⟨v, hv⟩ : ∃ v, v = heightL ks := ⟨_, rfl⟩
  have HMem := Lib.hid (fun x (hx : x ∈ ks) => Nat.le_trans (heightL_mem hx) (Nat.le_of_succ_le hm))
  rw [← hv] at hm ⊢
  have HR := Lib.hid hr
  have HI := Lib.hid ih
  have HW := Lib.hid hW
  have HV := Lib.hid hv
  clear ih hr hE hW hv
  go_enter Tryz.func95, Tryz.ntmps95
  go_wp2_with fail
  rw [← HW.out]
  go_loopw [3, 4] (fun sn i wr => ∃ (j q : Nat), j ≤ ks.length ∧ i = .int .i64 j ∧ sn = .int .i64 q ∧ q ≤ 1000000 ∧ Hid (max q (heightL (ks.drop j)) = v) ∧ Hid (Below W1.heap.size W1 wr)) (fun _ i _ => ks.length - (intOf i).toNat)
  case atStart => exact ⟨0, 0, by omega, rfl, rfl, by omega, Lib.hid (by rw [Nat.zero_max]; exact HV.out.symm), Lib.hid (Below.refl _ _)⟩
  case round =>
    obtain ⟨j, q, hj, rfl, rfl, hq, HQ, BW⟩ := hrel
    have x3 := (HK0.out.below BW.out HK0.out.lt).cell (i := 3) (by simp)
    simp only [List.getElem_cons_succ, List.getElem_cons_zero] at x3
    by_cases hlt : j < ks.length
    · have HD := Lib.hid (List.drop_eq_getElem_cons hlt)
      obtain ⟨b, off, k', n', o', A', m', c', rfl, hE', hcells⟩ := HR.out.kid hlt
      obtain ⟨z0, z1, z2, z3⟩ := hcells wr (HB0.out.trans (BW.out.mono HB0.out.size))
      have hx := HMem.out ks[j] (List.getElem_mem hlt)
      have HC := Lib.hid (HI.out ks[j] (List.getElem_mem hlt) wr F _ (hE'.below (HB0.out.trans (BW.out.mono HB0.out.size))) hx)
      obtain ⟨h, hh⟩ : ∃ h, h = heightE ks[j] := ⟨_, rfl⟩
      rw [← hh] at HC hx
      have HN : Hid (max q (max h (heightL (ks.drop (j + 1)))) = v) := by
        show _ = _
        rw [← HQ.out, HD.out, heightL, hh]
      clear hE' hcells hh
      by_cases hqh : q < h
      · have HN2 : Hid (max h (heightL (ks.drop (j + 1))) = v) := by
          show _ = _
          rw [← HN.out]; omega
        go_wp2_with (go_at_call 95; refine HC.out.mono ?_; rintro e w2 ⟨rfl, hb2⟩)
        go_roundw
        case rel => exact ⟨j + 1, h, by omega, by go_num, rfl, by omega, HN2, Lib.hid (hop BW.out hb2)⟩
        case measure => simp [intOf]; omega
      · have HN2 : Hid (max q (heightL (ks.drop (j + 1))) = v) := by
          show _ = _
          rw [← HN.out]; omega
        have hd : decide (q < h) = false := decide_eq_false hqh
        go_wp2_with (go_at_call 95; refine HC.out.mono ?_; rintro e w2 ⟨rfl, hb2⟩)
        go_roundw
        case rel => exact ⟨j + 1, q, by omega, by go_num, rfl, by omega, HN2, Lib.hid (hop BW.out hb2)⟩
        case measure => simp [intOf]; omega
    · have HQ2 : Hid (q = v) := by
        show _ = _
        rw [← HQ.out, List.drop_of_length_le (by omega), heightL]; omega
      go_wp2_with fail
      go_ret
      exact ⟨by rw [← HQ2.out]; simp, HB0.out.trans (BW.out.mono HB0.out.size)⟩
mutual
def mayE : Ex → Int → Bool
  | .mk k n o ks, m => if m = 0 ∨ k < 0 ∨ 4 < k then false else if k ≤ 1 then nameL n && (ks.length == 0 && (k == 0 || nameL o)) else decide (ks.length = 2) && mayL ks (m - 1)
def mayL : List Ex → Int → Bool
  | [], _ => true
  | x :: r, m => mayE x m && mayL r m
end
set_option maxHeartbeats 1000000 in
theorem mayExpr_any : ∀ (e : Ex) (W : World) (F : Nat → Prop) (cs : List Value) (m : Int), ExAt W F e cs → 0 ≤ m ∧ m ≤ 1000 →
    Calls Tryz.prog 84 #[.agg cs.toArray, .int .i64 m] W fun e' w' => e' = .returned (.bool (mayE e m)) ∧ Below W.heap.size W w' := by
  intro e
  refine Ex.all (P := fun e => ∀ (W : World) (F : Nat → Prop) (cs : List Value) (m : Int), ExAt W F e cs → 0 ≤ m ∧ m ≤ 1000 →
    Calls Tryz.prog 84 #[.agg cs.toArray, .int .i64 m] W fun e' w' => e' = .returned (.bool (mayE e m)) ∧ Below W.heap.size W w') (fun k n o ks ih W F cs m hE hm => ?_) e
  obtain ⟨A, c, rfl, ⟨⟨k1, k2⟩, hn, ho, hl⟩, hr⟩ := hE.row
  show Calls _ _ #[.agg #[.int .i64 k, strV n, strV o, .slice A ks.length c], .int .i64 m] _ _
  obtain ⟨m1, m2⟩ := hm
  obtain ⟨W1, hW⟩ : ∃ W1, W1 = W.alloc (.cells #[.int .i64 k, strV n, strV o, .slice A ks.length c] 44) := ⟨_, rfl⟩
  have HK0 : Hid (Blk W1 W.heap.size [.int .i64 k, strV n, strV o, .slice A ks.length c] 44) := by rw [hW]; exact Lib.hid (Blk.new W _ _)
  have HB0 : Hid (Below W.heap.size W W1) := by rw [hW]; exact Lib.hid ((Below.refl W.heap.size W).alloc (Nat.le_refl _) _)
  obtain ⟨v, hv⟩ : ∃ v, v = mayE (.mk k n o ks) m := ⟨_, rfl⟩
  rw [← hv]
  have HR := Lib.hid hr
  have HI := Lib.hid ih
  have HW := Lib.hid hW
  have HNn := Lib.hid (fun W => refName_txt n W hn)
  have HNo := Lib.hid (fun W => refName_txt o W ho)
  clear ih hr hE hW
  by_cases hbad : m = 0 ∨ k < 0 ∨ 4 < k
  · rw [mayE, if_pos hbad] at hv
    subst hv
    have hc : m = 0 ∨ (((m : Int) == 0) = false ∧ k < 0) ∨ (((m : Int) == 0) = false ∧ decide (k < 0) = false ∧ 4 < k) := by
      by_cases h0 : m = 0
      · exact .inl h0
      · by_cases h1 : k < 0
        · exact .inr (.inl ⟨beq_eq_false_iff_ne.2 h0, h1⟩)
        · exact .inr (.inr ⟨beq_eq_false_iff_ne.2 h0, decide_eq_false h1, (hbad.resolve_left h0).resolve_left h1⟩)
    clear hbad
    rcases hc with rfl | ⟨h0, h1⟩ | ⟨h0, h1, h2⟩
    all_goals go_enter Tryz.func84, Tryz.ntmps84
    all_goals go_wp2_with fail
    all_goals go_ret
    all_goals exact ⟨rfl, by rw [← HW.out]; exact HB0.out⟩
  have h0 : ¬ m = 0 := fun h => hbad (.inl h)
  have h1 : ¬ k < 0 := fun h => hbad (.inr (.inl h))
  have h2 : ¬ 4 < k := fun h => hbad (.inr (.inr h))
  have b0 : ((m : Int) == 0) = false := beq_eq_false_iff_ne.2 h0
  have b1 : decide (k < 0) = false := decide_eq_false h1
  have b2 : decide (4 < k) = false := decide_eq_false h2
  by_cases hk : k ≤ 1
  · rw [mayE, if_neg hbad, if_pos hk] at hv
    clear hbad
    have HV := Lib.hid hv
    clear hv
    obtain ⟨x, hx⟩ : ∃ x, nameL n = x := ⟨_, rfl⟩
    obtain ⟨y, hy⟩ : ∃ y, nameL o = y := ⟨_, rfl⟩
    obtain ⟨z, hz⟩ : ∃ z, (ks.length == 0) = z := ⟨_, rfl⟩
    obtain ⟨u, hu⟩ : ∃ u, (k == 0) = u := ⟨_, rfl⟩
    have hz2 : (((ks.length : Nat) : Int) == 0) = z := by
      rw [← hz, Bool.eq_iff_iff]; simp only [beq_iff_eq]; omega
    rw [hx] at HNn HV
    rw [hy] at HNo HV
    rw [hz, hu] at HV
    clear hx hy hz
    cases x
    · go_enter Tryz.func84, Tryz.ntmps84
      go_wp2_with (first
        | (go_at_call 62; with_reducible refine (HNn.out _).mono ?_; rintro e w2 ⟨rfl, rfl⟩)
        | (go_at_call 62; with_reducible refine (HNo.out _).mono ?_; rintro e w3 ⟨rfl, rfl⟩))
      go_ret
      exact ⟨by rw [HV.out]; rfl, by rw [← HW.out]; exact HB0.out⟩
    · cases z
      · go_enter Tryz.func84, Tryz.ntmps84
        go_wp2_with (first
          | (go_at_call 62; with_reducible refine (HNn.out _).mono ?_; rintro e w2 ⟨rfl, rfl⟩)
          | (go_at_call 62; with_reducible refine (HNo.out _).mono ?_; rintro e w3 ⟨rfl, rfl⟩))
        go_ret
        exact ⟨by rw [HV.out]; rfl, by rw [← HW.out]; exact HB0.out⟩
      · cases u
        · go_enter Tryz.func84, Tryz.ntmps84
          go_wp2_with (first
            | (go_at_call 62; with_reducible refine (HNn.out _).mono ?_; rintro e w2 ⟨rfl, rfl⟩)
            | (go_at_call 62; with_reducible refine (HNo.out _).mono ?_; rintro e w3 ⟨rfl, rfl⟩))
          go_ret
          exact ⟨by rw [HV.out]; rfl, by rw [← HW.out]; exact HB0.out⟩
        · go_enter Tryz.func84, Tryz.ntmps84
          go_wp2_with (first
            | (go_at_call 62; with_reducible refine (HNn.out _).mono ?_; rintro e w2 ⟨rfl, rfl⟩)
            | (go_at_call 62; with_reducible refine (HNo.out _).mono ?_; rintro e w3 ⟨rfl, rfl⟩))
          go_ret
          exact ⟨by rw [HV.out]; rfl, by rw [← HW.out]; exact HB0.out⟩
  rw [mayE, if_neg hbad, if_neg hk] at hv
  clear hbad
  by_cases h3 : ks.length = 2
  · rw [decide_eq_true h3, Bool.true_and] at hv
    obtain ⟨x, y, rfl⟩ : ∃ x y, ks = [x, y] := by
      match ks, h3 with
      | [a, b], _ => exact ⟨a, b, rfl⟩
    rw [mayL, mayL, mayL, Bool.and_true] at hv
    have hdk : decide (k ≤ 1) = false := decide_eq_false hk
    obtain ⟨b, off, k3, n3, o3, A3, m3, c3, rfl, hE3, hc3⟩ := HR.out.kid (j := 0) (by simp)
    obtain ⟨b', off', k4, n4, o4, A4, m4, c4, hbb, hE4, hc4⟩ := HR.out.kid (j := 1) (by simp)
    injection hbb with hbb
    injection hbb with hb1 hb2 _
    subst hb1 hb2
    have HC3 : Hid (∀ W', Below W.heap.size W W' → W'.cell? ⟨b, off, none⟩ = some (.int .i64 k3) ∧ W'.cell? ⟨b, off + 1, none⟩ = some (strV n3) ∧ W'.cell? ⟨b, off + 2, none⟩ = some (strV o3) ∧ W'.cell? ⟨b, off + 3, none⟩ = some (.slice A3 m3 c3)) := Lib.hid (fun W' hW' => by have h := hc3 W' hW'; unfold ExFour at h; simpa using h)
    have HC4 : Hid (∀ W', Below W.heap.size W W' → W'.cell? ⟨b, off + 4, none⟩ = some (.int .i64 k4) ∧ W'.cell? ⟨b, off + 4 + 1, none⟩ = some (strV n4) ∧ W'.cell? ⟨b, off + 4 + 2, none⟩ = some (strV o4) ∧ W'.cell? ⟨b, off + 4 + 3, none⟩ = some (.slice A4 m4 c4)) := Lib.hid (fun W' hW' => by have h := hc4 W' hW'; unfold ExFour at h; simpa using h)
    have HX := Lib.hid (HI.out x (by simp) W1 F _ (m - 1) (ExAt.below HB0.out hE3) (by omega))
    have HIY := Lib.hid (fun W' (hW' : Below W.heap.size W W') => HI.out y (by simp) W' F _ (m - 1) (ExAt.below hW' hE4) (by omega))
    obtain ⟨q1, hq1⟩ : ∃ q, mayE x (m - 1) = q := ⟨_, rfl⟩
    obtain ⟨q2, hq2⟩ : ∃ q, mayE y (m - 1) = q := ⟨_, rfl⟩
    rw [hq1] at HX hv
    rw [hq2] at HIY hv
    have HV := Lib.hid hv
    have HK : Hid (Blk W1 W.heap.size [.int .i64 k, strV n, strV o, .slice (some ⟨b, off, none⟩) 2 c] 44) := HK0
    have HW2 : Hid (W1 = W.alloc (.cells #[.int .i64 k, strV n, strV o, .slice (some ⟨b, off, none⟩) 2 c] 44)) := HW
    clear hv hc3 hc4 hE3 hE4 hq1 hq2 HI HR HK0 HW h3 hl
    show Calls _ _ #[.agg #[.int .i64 k, strV n, strV o, .slice (some ⟨b, off, none⟩) 2 c], .int .i64 m] _ _
    have z0 : ∀ o, (W.alloc o).cell? ⟨b, off, none⟩ = some (.int .i64 k3) := fun o => (HC3.out _ ((Below.refl _ _).alloc (Nat.le_refl _) o)).1
    have z1 : ∀ o, (W.alloc o).cell? ⟨b, off + 1, none⟩ = some (strV n3) := fun o => (HC3.out _ ((Below.refl _ _).alloc (Nat.le_refl _) o)).2.1
    have z2 : ∀ o, (W.alloc o).cell? ⟨b, off + 2, none⟩ = some (strV o3) := fun o => (HC3.out _ ((Below.refl _ _).alloc (Nat.le_refl _) o)).2.2.1
    have z3 : ∀ o, (W.alloc o).cell? ⟨b, off + 3, none⟩ = some (.slice A3 m3 c3) := fun o => (HC3.out _ ((Below.refl _ _).alloc (Nat.le_refl _) o)).2.2.2
    cases q1
    · go_enter Tryz.func84, Tryz.ntmps84
      go_wp2_with (go_at_call 84; rw [← HW2.out]; refine HX.out.mono ?_; rintro e w2 ⟨rfl, hb2⟩)
      go_ret
      exact ⟨by rw [HV.out]; rfl, HB0.out.trans (hb2.mono HB0.out.size)⟩
    · go_enter Tryz.func84, Tryz.ntmps84
      go_wp2_with (first
        | (go_at_call 84; rw [← HW2.out]; refine HX.out.mono ?_; rintro e w2 ⟨rfl, hb2⟩; have HB2 := Lib.hid (HB0.out.trans (hb2.mono HB0.out.size)); have HY := Lib.hid (HIY.out w2 HB2.out); have x3 := (HK.out.below hb2 HK.out.lt).cell (i := 3) (by simp); simp only [List.getElem_cons_succ, List.getElem_cons_zero] at x3; obtain ⟨u0, u1, u2, u3⟩ := HC4.out w2 HB2.out; clear hb2)
        | (go_at_call 84; refine HY.out.mono ?_; rintro e w3 ⟨rfl, hb3⟩))
      go_ret
      exact ⟨by rw [HV.out]; rfl, HB2.out.trans (hb3.mono HB2.out.size)⟩
  · have hd : ((ks.length : Int) != 2) = true := bne_iff_ne.2 (by omega)
    rw [decide_eq_false h3, Bool.false_and] at hv
    have hdk : decide (k ≤ 1) = false := decide_eq_false hk
    subst hv
    clear h3
    go_enter Tryz.func84, Tryz.ntmps84
    go_wp2_with fail
    go_ret
    exact ⟨rfl, by rw [← HW.out]; exact HB0.out⟩
end Go.Proofs.YtdnhbledndgbcaaGreat
namespace Go.Proofs.YtdnhbledndgbcaaGreat
open Go.RowKit
abbrev Tk := Txt × Nat × Nat
abbrev Dg := Nat × Nat × Nat
def signs : Txt := [58, 124, 35, 43, 45, 38, 46, 40, 41]
def signT (c : UInt8) : Txt := if c ∈ signs then [c] else [63]
def wordL : Txt → Nat
  | [] => 0
  | c :: r => if lowB c then (r.takeWhile nmB).length + 1 else 0
theorem wordL_le (l : Txt) : wordL l ≤ l.length := by
  cases l with
  | nil => simp [wordL]
  | cons c r =>
    have h := (List.takeWhile_sublist (l := r) nmB).length_le
    rw [wordL]
    by_cases hc : lowB c = true
    · rw [if_pos hc]; simp; omega
    · rw [if_neg hc]; omega
def tokL (l : Txt) (line col : Nat) : List Tk :=
  match l with
  | [] => [([], line, col)]
  | c :: r =>
    if c = 10 then tokL r (line + 1) 1
    else if c = 32 ∨ c = 9 then tokL r line (col + 1)
    else if h : wordL (c :: r) = 0 then (if signT c = [63] then [([63], line, col)] else (signT c, line, col) :: tokL r line (col + 1))
    else ((c :: r).take (wordL (c :: r)), line, col) :: tokL ((c :: r).drop (wordL (c :: r))) line (col + wordL (c :: r))
termination_by l.length
decreasing_by
  all_goals simp
  all_goals omega
inductive Rs (α : Type) where
  | ok (a : α) (r : List Tk)
  | no (d : Dg)
def Rs.then {α β : Type} (x : Rs α) (f : α → List Tk → Rs β) : Rs β :=
  match x with
  | .ok a r => f a r
  | .no d => .no d
def failT (t : Tk) (e : Nat) : Dg := (t.2.1, t.2.2, e)
def nx (ts : List Tk) : Tk := ts.headD ([], 0, 0)
def nameP (ts : List Tk) : Rs Txt := if nameL (nx ts).1 then .ok (nx ts).1 ts.tail else .no (failT (nx ts) 8)
def mustP (s : Txt) (ts : List Tk) : Rs Unit := if (nx ts).1 = s then .ok () ts.tail else .no (failT (nx ts) 8)
def atomK (sub : Option (List Tk → Rs Ex)) (ts : List Tk) : Rs Ex :=
  if (nx ts).1 = [40] then
    (match sub with
    | none => .no (failT (nx ts) 9)
    | some f => (f ts.tail).then fun e r => (mustP [41] r).then fun _ r => .ok e r)
  else (nameP ts).then fun s r => if (nx r).1 = [46] then (nameP r.tail).then fun o r => .ok (.mk 1 s o []) r else .ok (.mk 0 s [] []) r
def twoP (k : Int) (t : Tk) (a b : Ex) (r : List Tk) : Rs Ex := if 12 < heightE (.mk k [] [] [a, b]) then .no (failT t 9) else .ok (.mk k [] [] [a, b]) r
def termLoop (sub : Option (List Tk → Rs Ex)) : Nat → Ex → List Tk → Rs Ex
  | 0, a, ts => .ok a ts
  | n + 1, a, ts => if (nx ts).1 = [38] then (atomK sub ts.tail).then fun b r => (twoP 3 (nx ts) a b r).then fun e r => termLoop sub n e r else .ok a ts
def termK (sub : Option (List Tk → Rs Ex)) (ts : List Tk) : Rs Ex := (atomK sub ts).then fun a r => termLoop sub ts.length a r
def exprLoop (sub : Option (List Tk → Rs Ex)) : Nat → Ex → List Tk → Rs Ex
  | 0, a, ts => .ok a ts
  | n + 1, a, ts => if (nx ts).1 = [43] ∨ (nx ts).1 = [45] then (termK sub ts.tail).then fun b r => (twoP (if (nx ts).1 = [45] then 4 else 2) (nx ts) a b r).then fun e r => exprLoop sub n e r else .ok a ts
def exprK (sub : Option (List Tk → Rs Ex)) (ts : List Tk) : Rs Ex := (termK sub ts).then fun a r => exprLoop sub ts.length a r
def exprD : Nat → List Tk → Rs Ex
  | 0 => exprK none
  | d + 1 => exprK (some (exprD d))
def subD : Nat → Option (List Tk → Rs Ex)
  | 0 => none
  | d + 1 => some (exprD d)
theorem exprD_eq (d : Nat) : exprD d = exprK (subD d) := by cases d <;> rfl
def refP (ts : List Tk) : Rs Rf := (nameP ts).then fun s r => if (nx r).1 = [35] then (nameP r.tail).then fun o r => .ok (s, o) r else .ok (s, []) r
def refsLoop : Nat → List Tk → Rs (List Rf)
  | 0, ts => .ok [] ts
  | n + 1, ts => if (nx ts).1 = [124] then (refP ts.tail).then fun x r => (refsLoop n r).then fun l r => .ok (x :: l) r else .ok [] ts
def relW2 : Txt := [114, 101, 108, 97, 116, 105, 111, 110]
def defW2 : Txt := [100, 101, 102, 105, 110, 101]
def typW2 : Txt := [116, 121, 112, 101]
def noEx : Ex := .mk 0 [] [] []
def toldP (ts : List Tk) : Rs Rl := (nameP ts).then fun n r => (mustP [58] r).then fun _ r => (refP r).then fun x r => (refsLoop r.length r).then fun l r => .ok ⟨n, x :: l, noEx⟩ r
def defP (ts : List Tk) : Rs Rl := (nameP ts).then fun n r => (mustP [58] r).then fun _ r => (exprD 12 r).then fun e r => .ok ⟨n, [], e⟩ r
def relsLoop : Nat → List Tk → Rs (List Rl)
  | 0, ts => .ok [] ts
  | n + 1, ts =>
    if (nx ts).1 = relW2 then (toldP ts.tail).then fun x r => (relsLoop n r).then fun l r => .ok (x :: l) r
    else if (nx ts).1 = defW2 then (defP ts.tail).then fun x r => (relsLoop n r).then fun l r => .ok (x :: l) r
    else .ok [] ts
def typesLoop : Nat → List Tk → Rs Sc
  | 0, ts => .ok [] ts
  | n + 1, ts => if (nx ts).1 = typW2 then (nameP ts.tail).then fun s r => (relsLoop r.length r).then fun rs r => (typesLoop n r).then fun l r => .ok (⟨s, rs⟩ :: l) r else .ok [] ts
def wholeP (ts : List Tk) : Rs Sc := (typesLoop ts.length ts).then fun s r => if (nx r).1 = [] then .ok s r else .no (failT (nx r) 8)
def parseT (l : Txt) : Sc × Dg := if 4096 < l.length then ([], (1, 1, 2)) else (match wholeP (tokL l 1 1) with | .ok s _ => (s, (0, 0, 0)) | .no d => ([], d))
theorem Rs.then_ok {α β : Type} {x : Rs α} {f : α → List Tk → Rs β} {b : β} {r : List Tk} (h : x.then f = .ok b r) : ∃ a r', x = .ok a r' ∧ f a r' = .ok b r := by
  cases x with
  | ok a r' => exact ⟨a, r', rfl, h⟩
  | no d => cases h
end Go.Proofs.YtdnhbledndgbcaaGreat
namespace Go.Proofs.YtdnhbledndgbcaaGreat
open Go.RowKit
def tokF : Nat → Txt → Nat → Nat → List Tk
  | 0, _, _, _ => []
  | n + 1, l, line, col =>
    match l with
    | [] => [([], line, col)]
    | c :: r =>
      if c = 10 then tokF n r (line + 1) 1
      else if c = 32 ∨ c = 9 then tokF n r line (col + 1)
      else if wordL (c :: r) = 0 then (if signT c = [63] then [([63], line, col)] else (signT c, line, col) :: tokF n r line (col + 1))
      else ((c :: r).take (wordL (c :: r)), line, col) :: tokF n ((c :: r).drop (wordL (c :: r))) line (col + wordL (c :: r))
theorem tokF_eq : ∀ (n : Nat) (l : Txt) (line col : Nat), l.length < n → tokF n l line col = tokL l line col
  | 0, l, _, _, h => absurd h (Nat.not_lt_zero _)
  | n + 1, [], line, col, _ => by rw [tokF, tokL]
  | n + 1, c :: r, line, col, h => by
    have hr : r.length < n := by simpa using h
    rw [tokF, tokL]
    by_cases h1 : c = 10
    · rw [if_pos h1, if_pos h1, tokF_eq n r _ _ hr]
    · rw [if_neg h1, if_neg h1]
      by_cases h2 : c = 32 ∨ c = 9
      · rw [if_pos h2, if_pos h2, tokF_eq n r _ _ hr]
      · rw [if_neg h2, if_neg h2]
        by_cases h3 : wordL (c :: r) = 0
        · rw [if_pos h3, dif_pos h3, tokF_eq n r _ _ hr]
        · rw [if_neg h3, dif_neg h3, tokF_eq n _ _ _ (by rw [List.length_drop]; simp at h ⊢; omega)]
end Go.Proofs.YtdnhbledndgbcaaGreat
namespace Go.Proofs.YtdnhbledndgbcaaGreat
open Go.RowKit

end Go.Proofs.YtdnhbledndgbcaaGreat
namespace Go.Proofs.YtdnhbledndgbcaaGreat
open Go.RowKit
theorem RowAt.pair {W : World} {F : Nat → Prop} {A : Option Addr} {ks : List Rf} (h : RowAt 2 RfAt W F A ks) {j : Nat} (hj : j < ks.length) :
    ∃ b off, A = some ⟨b, off, none⟩ ∧ ∀ W', Below W.heap.size W W' → W'.cell? ⟨b, off + j * 2, none⟩ = some (strV ks[j].1) ∧ W'.cell? ⟨b, off + j * 2 + 1, none⟩ = some (strV ks[j].2) := by
  rcases h with rfl | ⟨b, off, rfl, hb, _, hk⟩
  · simp at hj
  · obtain ⟨cs, ⟨rfl, _, _⟩, h2⟩ := hk j hj
    refine ⟨b, off, rfl, fun W' hW => ?_⟩
    have hc : ∀ i, i < 2 → W'.cell? ⟨b, off + j * 2 + i, none⟩ = [strV ks[j].1, strV ks[j].2][i]? := fun i hi => (hW.cell (p := ⟨b, off + j * 2 + i, none⟩) hb).trans (h2 i hi)
    exact ⟨hc 0 (by decide), hc 1 (by decide)⟩
theorem RlAt.six {W : World} {F : Nat → Prop} {x : Rl} {cs : List Value} (h : RlAt W F x cs) : ∃ A c k n o A' m c', cs = [strV x.name, .slice A x.refs.length c, .int .i64 k, strV n, strV o, .slice A' m c'] ∧ (small x.name ∧ x.refs.length ≤ 9223372036854775807) ∧ RowAt 2 RfAt W F A x.refs ∧
    ExAt W F x.expr [.int .i64 k, strV n, strV o, .slice A' m c'] := by
  obtain ⟨A, c, es, rfl, h2, h3, h4⟩ := h
  rcases he : x.expr with ⟨k, n, o, ks⟩
  rw [he] at h4
  obtain ⟨A', c', rfl, _, _⟩ := h4.row
  exact ⟨A, c, k, n, o, A', ks.length, c', rfl, h2, h3, h4⟩
def RlSix (W : World) (b o : Nat) (n : Txt) (A : Option Addr) (m c : Nat) (k : Int) (p q : Txt) (E : Option Addr) (m' c' : Nat) : Prop :=
  W.cell? ⟨b, o, none⟩ = some (strV n) ∧ W.cell? ⟨b, o + 1, none⟩ = some (.slice A m c) ∧ W.cell? ⟨b, o + 2, none⟩ = some (.int .i64 k) ∧ W.cell? ⟨b, o + 3, none⟩ = some (strV p) ∧ W.cell? ⟨b, o + 4, none⟩ = some (strV q) ∧ W.cell? ⟨b, o + 5, none⟩ = some (.slice E m' c')
theorem RowAt.rel {W : World} {F : Nat → Prop} {A : Option Addr} {ks : List Rl} (h : RowAt 6 RlAt W F A ks) {j : Nat} (hj : j < ks.length) :
    ∃ b off n A' m c k p q E m' c', A = some ⟨b, off, none⟩ ∧ RlAt W F ks[j] [strV n, .slice A' m c, .int .i64 k, strV p, strV q, .slice E m' c'] ∧ ∀ W', Below W.heap.size W W' → RlSix W' b (off + j * 6) n A' m c k p q E m' c' := by
  rcases h with rfl | ⟨b, off, rfl, hb, _, hk⟩
  · simp at hj
  · obtain ⟨cs, h1, h2⟩ := hk j hj
    obtain ⟨A', c, k, n, o, E, m, d, rfl, _, _, _⟩ := h1.six
    refine ⟨b, off, _, A', _, c, k, n, o, E, m, d, rfl, h1, fun W' hW => ?_⟩
    have hc : ∀ i, i < 6 → W'.cell? ⟨b, off + j * 6 + i, none⟩ = [strV ks[j].name, .slice A' ks[j].refs.length c, .int .i64 k, strV n, strV o, .slice E m d][i]? := fun i hi => (hW.cell (p := ⟨b, off + j * 6 + i, none⟩) hb).trans (h2 i hi)
    exact ⟨hc 0 (by decide), hc 1 (by decide), hc 2 (by decide), hc 3 (by decide), hc 4 (by decide), hc 5 (by decide)⟩
theorem RowAt.tyc {W : World} {F : Nat → Prop} {A : Option Addr} {ks : List Ty} (h : RowAt 2 TyAt W F A ks) {j : Nat} (hj : j < ks.length) :
    ∃ b off A' c, A = some ⟨b, off, none⟩ ∧ ((small ks[j].name ∧ ks[j].rels.length ≤ c) ∧ ks[j].rels.length ≤ 9223372036854775807) ∧ RowAt 6 RlAt W F A' ks[j].rels ∧ ∀ W', Below W.heap.size W W' → W'.cell? ⟨b, off + j * 2, none⟩ = some (strV ks[j].name) ∧ W'.cell? ⟨b, off + j * 2 + 1, none⟩ = some (.slice A' ks[j].rels.length c) := by
  rcases h with rfl | ⟨b, off, rfl, hb, _, hk⟩
  · simp at hj
  · obtain ⟨cs, ⟨A', c, rfl, hs, hr⟩, h2⟩ := hk j hj
    refine ⟨b, off, A', c, rfl, hs, hr, fun W' hW => ?_⟩
    have hc : ∀ i, i < 2 → W'.cell? ⟨b, off + j * 2 + i, none⟩ = [strV ks[j].name, .slice A' ks[j].rels.length c][i]? := fun i hi => (hW.cell (p := ⟨b, off + j * 2 + i, none⟩) hb).trans (h2 i hi)
    exact ⟨hc 0 (by decide), hc 1 (by decide)⟩
theorem RowAt.ty {W : World} {F : Nat → Prop} {A : Option Addr} {ks : List Ty} (h : RowAt 2 TyAt W F A ks) {j : Nat} (hj : j < ks.length) :
    ∃ b off A' c, A = some ⟨b, off, none⟩ ∧ (small ks[j].name ∧ ks[j].rels.length ≤ 9223372036854775807) ∧ RowAt 6 RlAt W F A' ks[j].rels ∧ ∀ W', Below W.heap.size W W' → W'.cell? ⟨b, off + j * 2, none⟩ = some (strV ks[j].name) ∧ W'.cell? ⟨b, off + j * 2 + 1, none⟩ = some (.slice A' ks[j].rels.length c) := by
  obtain ⟨b, off, A', c, h1, h2, h3⟩ := h.tyc hj
  exact ⟨b, off, A', c, h1, ⟨h2.1.1, h2.2⟩, h3⟩
end Go.Proofs.YtdnhbledndgbcaaGreat
namespace Go.Proofs.YtdnhbledndgbcaaGreat
open Go.RowKit
theorem RowAt.rl {W : World} {F : Nat → Prop} {A : Option Addr} {ks : List Rl} (h : RowAt 6 RlAt W F A ks) {j : Nat} (hj : j < ks.length) :
    ∃ b off A' c k p q E m' c', A = some ⟨b, off, none⟩ ∧ (small ks[j].name ∧ ks[j].refs.length ≤ 9223372036854775807) ∧ RowAt 2 RfAt W F A' ks[j].refs ∧ ExAt W F ks[j].expr [.int .i64 k, strV p, strV q, .slice E m' c'] ∧
      ∀ W', Below W.heap.size W W' → RlSix W' b (off + j * 6) ks[j].name A' ks[j].refs.length c k p q E m' c' := by
  rcases h with rfl | ⟨b, off, rfl, hb, _, hk⟩
  · simp at hj
  · obtain ⟨cs, h1, h2⟩ := hk j hj
    obtain ⟨A', c, k, n, o, E, m, d, rfl, h3, h4, h5⟩ := h1.six
    refine ⟨b, off, A', c, k, n, o, E, m, d, rfl, h3, h4, h5, fun W' hW => ?_⟩
    have hc : ∀ i, i < 6 → W'.cell? ⟨b, off + j * 6 + i, none⟩ = [strV ks[j].name, .slice A' ks[j].refs.length c, .int .i64 k, strV n, strV o, .slice E m d][i]? := fun i hi => (hW.cell (p := ⟨b, off + j * 6 + i, none⟩) hb).trans (h2 i hi)
    exact ⟨hc 0 (by decide), hc 1 (by decide), hc 2 (by decide), hc 3 (by decide), hc 4 (by decide), hc 5 (by decide)⟩
def fewRs (most : Int) : List Rl → Int → Option Int
  | [], n => some n
  | x :: r, n => if 0 < n then (if most < x.refs.length ∨ 100 < x.name.length then none else fewRs most r (weightE x.expr (n - x.refs.length))) else some n
def fewTs (most : Int) : List Ty → Int → Option Int
  | [], n => some n
  | t :: r, n => if 0 < n then (if 100 < t.name.length then none else (fewRs most t.rels n).bind (fewTs most r)) else some n
def okN : Option Int → Bool
  | none => false
  | some n => decide (0 < n)
def fewS (s : Sc) (most : Int) : Bool := okN (fewTs most s (most - s.length))
set_option maxHeartbeats 2000000 in
theorem few_any (s : Sc) (most : Int) (W : World) (F : Nat → Prop) (A : Option Addr) (c : Nat) (hs : ScAt W F A s) (hl : s.length ≤ 9223372036854775807) (hm : 0 ≤ most ∧ most ≤ 1000) :
    Calls Tryz.prog 6 #[.agg #[.slice A s.length c], .int .i64 most] W fun r w' => r = .returned (.bool (fewS s most)) ∧ Below W.heap.size W w' := by
  obtain ⟨v, hv⟩ : ∃ v, v = fewS s most := ⟨_, rfl⟩
  rw [← hv]
  unfold fewS at hv
  obtain ⟨m1, m2⟩ := hm
  obtain ⟨W1, hW⟩ : ∃ W1, W1 = W.alloc (.cells #[.slice A s.length c] 24) := ⟨_, rfl⟩
  have HK0 : Hid (Blk W1 W.heap.size [.slice A s.length c] 24) := by rw [hW]; exact Lib.hid (Blk.new W _ _)
  have HB0 : Hid (Below W.heap.size W W1) := by rw [hW]; exact Lib.hid ((Below.refl W.heap.size W).alloc (Nat.le_refl _) _)
  have HS : Hid (RowAt 2 TyAt W F A s) := Lib.hid hs
  have HW := Lib.hid hW
  have HV := Lib.hid hv
  clear hs hW hv
  go_enter Tryz.func6, Tryz.ntmps6
  go_wp2_with fail
  rw [← HW.out]
  go_loopw [5, 6] (fun sn i wr => ∃ (j : Nat) (q : Int), j ≤ s.length ∧ i = .int .i64 j ∧ sn = .int .i64 q ∧ (-9223372036854775808 ≤ q ∧ q ≤ 1000) ∧ Hid (okN (fewTs most (s.drop j) q) = v) ∧ Hid (Below W1.heap.size W1 wr)) (fun _ i _ => s.length - (intOf i).toNat)
  case atStart => exact ⟨0, most - s.length, by omega, rfl, rfl, by omega, Lib.hid HV.out.symm, Lib.hid (Below.refl _ _)⟩
  case round =>
    obtain ⟨j, q, hj, rfl, rfl, ⟨q1, q2⟩, HQ, BW⟩ := hrel
    have x1 := (HK0.out.below BW.out HK0.out.lt).cell (i := 0) (by simp)
    simp only [List.getElem_cons_zero] at x1
    by_cases hlt : j < s.length
    · have HD := Lib.hid (List.drop_eq_getElem_cons hlt)
      by_cases hq : 0 < q
      · obtain ⟨b, off, B, d, rfl, ⟨_, hrl⟩, hr, hc⟩ := HS.out.ty hlt
        obtain ⟨z0, z1⟩ := hc wr (HB0.out.trans (BW.out.mono HB0.out.size))
        have HC1 := Lib.hid (fun w' hw => (hc w' hw).2)
        have HRL := Lib.hid hr
        obtain ⟨r, hr1⟩ : ∃ r, fewRs most s[j].rels q = r := ⟨_, rfl⟩
        have HN : Hid (okN (if 100 < s[j].name.length then none else r.bind (fewTs most (s.drop (j + 1)))) = v) := by
          show _ = _
          rw [← HQ.out, HD.out, fewTs, if_pos hq, hr1]
        have HRR := Lib.hid hr1
        clear hc hr hr1
        generalize s[j].name = nx at *
        generalize s[j].rels = rx at *
        by_cases e1 : 100 < nx.length
        · have HQ2 : Hid (v = false) := by show _ = _; rw [← HN.out, if_pos e1]; rfl
          clear HN
          go_wp2_with fail
          go_ret
          exact ⟨by rw [HQ2.out]; rfl, HB0.out.trans (BW.out.mono HB0.out.size)⟩
        · rw [if_neg e1] at HN
          have hd : decide (100 < nx.length) = false := decide_eq_false e1
          go_wp2_with fail
          go_loopw [5, 7] (fun sn i w3 => ∃ (p : Nat) (q : Int), p ≤ rx.length ∧ i = .int .i64 p ∧ sn = .int .i64 q ∧ (-9223372036854775808 ≤ q ∧ q ≤ 1000) ∧ Hid (fewRs most (rx.drop p) q = r) ∧ Hid (Below wr.heap.size wr w3)) (fun _ i _ => rx.length - (intOf i).toNat)
          case atStart => exact ⟨0, q, by omega, rfl, rfl, by omega, Lib.hid HRR.out, Lib.hid (Below.refl _ _)⟩
          case round =>
            rename World => w3
            obtain ⟨p, q', hp, rfl, rfl, ⟨q3, q4⟩, HP, BW2⟩ := hrel
            have hbw := BW.out.trans (BW2.out.mono BW.out.size)
            have HB3 := Lib.hid (HB0.out.trans (hbw.mono HB0.out.size))
            have x2 := (HK0.out.below hbw HK0.out.lt).cell (i := 0) (by simp)
            simp only [List.getElem_cons_zero] at x2
            have z2 := HC1.out w3 HB3.out
            have HBW := Lib.hid hbw
            clear hbw
            by_cases hpl : p < rx.length
            · have HE := Lib.hid (List.drop_eq_getElem_cons hpl)
              by_cases hq' : 0 < q'
              · obtain ⟨g, og, B1, c1, k1, p1, p2, E1, m2', c2, rfl, ⟨_, hrf⟩, _, hE, hcells⟩ := HRL.out.rl hpl
                obtain ⟨a0, a1, a2, a3, a4, a5⟩ := hcells w3 HB3.out
                have HQ5 : Hid ((if most < rx[p].refs.length ∨ 100 < rx[p].name.length then none else fewRs most (rx.drop (p + 1)) (weightE rx[p].expr (q' - rx[p].refs.length))) = r) := by
                  show _ = _
                  rw [← HP.out, HE.out, fewRs, if_pos hq']
                obtain ⟨ex, hex⟩ : ∃ ex, ex = rx[p].expr := ⟨_, rfl⟩
                rw [← hex] at HQ5 hE
                generalize rx[p].refs.length = lr at *
                generalize rx[p].name = nr at *
                clear hcells hex
                have HEX := Lib.hid hE
                clear hE
                by_cases c5 : most < lr ∨ 100 < nr.length
                · have HQ2 : Hid (v = false) := by
                    show _ = _
                    rw [← HN.out, ← HQ5.out, if_pos c5]; rfl
                  have c6 : most < lr ∨ (¬ most < lr ∧ decide (most < (lr : Int)) = false ∧ 100 < nr.length) := by
                    by_cases c7 : most < lr
                    · exact .inl c7
                    · exact .inr ⟨c7, decide_eq_false c7, c5.resolve_left c7⟩
                  clear c5 HQ5 HN
                  rcases c6 with c6 | ⟨c6, c7, c8⟩
                  all_goals go_wp2_with fail
                  all_goals go_ret
                  all_goals exact ⟨by rw [HQ2.out]; rfl, HB3.out.alloc (Nat.le_trans (Nat.le_refl _) HB3.out.size) _⟩
                · rw [if_neg c5] at HQ5
                  have c6 : ¬ most < lr := fun h => c5 (.inl h)
                  have c7 : decide (most < (lr : Int)) = false := decide_eq_false c6
                  have c8 : decide (100 < nr.length) = false := decide_eq_false (fun h => c5 (.inr h))
                  have c9 : ¬ 100 < nr.length := fun h => c5 (.inr h)
                  obtain ⟨W4, hW4⟩ : ∃ W4, W4 = w3.alloc (.cells #[strV nr, .slice B1 lr c1, .int .i64 k1, strV p1, strV p2, .slice E1 m2' c2] 46) := ⟨_, rfl⟩
                  have HB4 : Hid (Below wr.heap.size wr W4) := by rw [hW4]; exact Lib.hid (BW2.out.alloc BW2.out.size _)
                  have HB5 : Hid (Below W.heap.size W W4) := by rw [hW4]; exact Lib.hid (HB3.out.alloc HB3.out.size _)
                  have hwle := weightE_le ex (q' - lr)
                  have hwge := weightE_ge ex (q' - lr)
                  have HCW := Lib.hid (weight_any ex W4 F _ (q' - lr) (HEX.out.below HB5.out) (by omega))
                  obtain ⟨q5, hq5⟩ : ∃ q5, q5 = weightE ex (q' - lr) := ⟨_, rfl⟩
                  rw [← hq5] at HCW HQ5 hwle hwge
                  rw [hW4] at HCW
                  have HW4 := Lib.hid hW4
                  clear hW4 hq5 c5
                  go_wp2_with (go_at_call 14; refine HCW.out.mono ?_; rintro e w5 ⟨rfl, hb5⟩)
                  go_roundw
                  case rel => exact ⟨p + 1, q5, by omega, by go_num, rfl, by omega, HQ5, Lib.hid (by rw [← HW4.out] at hb5; exact HB4.out.trans (hb5.mono HB4.out.size))⟩
                  case measure => simp [intOf]; omega
              · have HQ2 : Hid (r = some q') := by
                  show _ = _
                  rw [← HP.out, HE.out, fewRs, if_neg hq']
                have hdq : decide (0 < q') = false := decide_eq_false hq'
                have HQ3 : Hid (okN (fewTs most (s.drop (j + 1)) q') = v) := by show _ = _; rw [← HN.out, HQ2.out]; rfl
                go_wp2_with fail
                go_roundw
                case rel => exact ⟨j + 1, q', by omega, by go_num, rfl, by omega, HQ3, HBW⟩
                case measure => simp [intOf]; omega
            · have HQ2 : Hid (r = some q') := by
                show _ = _
                rw [← HP.out, List.drop_of_length_le (by omega), fewRs]
              have HQ3 : Hid (okN (fewTs most (s.drop (j + 1)) q') = v) := by show _ = _; rw [← HN.out, HQ2.out]; rfl
              go_wp2_with fail
              go_roundw
              case rel => exact ⟨j + 1, q', by omega, by go_num, rfl, by omega, HQ3, HBW⟩
              case measure => simp [intOf]; omega
      · have HQ2 : Hid (v = false) := by
          show _ = _
          rw [← HQ.out, HD.out, fewTs, if_neg hq, okN, decide_eq_false hq]
        have hdq : decide (0 < q) = false := decide_eq_false hq
        go_wp2_with fail
        go_ret
        exact ⟨by rw [HQ2.out]; rfl, HB0.out.trans (BW.out.mono HB0.out.size)⟩
    · have HQ2 : Hid (v = decide (0 < q)) := by
        show _ = _
        rw [← HQ.out, List.drop_of_length_le (by omega), fewTs, okN]
      go_wp2_with fail
      go_ret
      exact ⟨by rw [HQ2.out]; rfl, HB0.out.trans (BW.out.mono HB0.out.size)⟩
end Go.Proofs.YtdnhbledndgbcaaGreat
