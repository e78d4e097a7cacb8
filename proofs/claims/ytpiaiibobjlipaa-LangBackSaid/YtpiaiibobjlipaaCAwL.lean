/-
  The text of an expression, of a schema (conciergeref11's Expr, Print). Conditions: it is there; the text has at most 500,000 bytes.
  The grammar as Lean functions over tokens: tokens of a text; atoms, terms, expressions, refs, relations, types; the first fault. No program is named.
  The chapter's examples, parsed as lists. No program is named.
-/
import Derived.Test.YtpiaiibobjlipaaCLaSh
import Derived.Test.YtpiaiibobjlipaaCLaMay
namespace Go.Proofs.Ytpiaiibobjlipaa
open Go.RowKit
def exprT (e : Ex) : Txt := if mayE e 12 then showE e else []
set_option maxHeartbeats 1000000 in
theorem expr_any (e : Ex) (W : World) (F : Nat → Prop) (cs : List Value) (h : ExAt W F e cs) :
    Calls Try.prog 19 #[.agg cs.toArray] W fun e' w' => e' = .returned (strV (exprT e)) ∧ Below W.heap.size W w' := by
  obtain ⟨k, n, o, ks⟩ := e
  obtain ⟨A, c, rfl, _, _⟩ := h.row
  show Calls _ _ #[.agg #[.int .i64 k, strV n, strV o, .slice A ks.length c]] _ _
  obtain ⟨W1, hW⟩ : ∃ W1, W1 = W.alloc (.cells #[.int .i64 k, strV n, strV o, .slice A ks.length c] 35) := ⟨_, rfl⟩
  have HC : Hid (∀ W', Below W.heap.size W W' → Calls Try.prog 42 #[.agg #[.int .i64 k, strV n, strV o, .slice A ks.length c], .int .i64 12] W' fun e' w' => e' = .returned (.bool (mayE (.mk k n o ks) 12)) ∧ Below W'.heap.size W' w') := Lib.hid (fun W' hW' => mayExpr_any _ W' F _ 12 (h.below hW') (by omega))
  have HS : Hid (mayE (.mk k n o ks) 12 = true → ∀ W', Below W.heap.size W W' → Calls Try.prog 35 #[.agg #[.int .i64 k, strV n, strV o, .slice A ks.length c]] W' fun e' w' => e' = .returned (strV (showE (.mk k n o ks))) ∧ Below W'.heap.size W' w') := Lib.hid (fun hm W' hW' => show_any _ W' F _ 12 (h.below hW') hm (by omega))
  have HK0 : Hid (Blk W1 W.heap.size [.int .i64 k, strV n, strV o, .slice A ks.length c] 35) := by rw [hW]; exact Lib.hid (Blk.new W _ _)
  have HB0 : Hid (Below W.heap.size W W1) := by rw [hW]; exact Lib.hid ((Below.refl W.heap.size W).alloc (Nat.le_refl _) _)
  have HW := Lib.hid hW
  unfold exprT
  generalize showE (.mk k n o ks) = s at *
  generalize mayE (.mk k n o ks) 12 = q at *
  clear h hW
  have HC1 := Lib.hid (HC.out W1 HB0.out)
  cases q
  · go_enter Try.func19, Try.ntmps19
    go_wp2_with (go_at_call 42; rw [← HW.out]; with_reducible refine HC1.out.mono ?_; rintro e w2 ⟨rfl, hb2⟩)
    go_ret
    exact ⟨rfl, HB0.out.trans (hb2.mono HB0.out.size)⟩
  · go_enter Try.func19, Try.ntmps19
    go_wp2_with (first
      | (go_at_call 42; rw [← HW.out]; with_reducible refine HC1.out.mono ?_; rintro e w2 ⟨rfl, hb2⟩; have HB2 := Lib.hid (HB0.out.trans (hb2.mono HB0.out.size)); have hbk := HK0.out.below hb2 HK0.out.lt; have y0 := hbk.cell (i := 0) (by simp); have y1 := hbk.cell (i := 1) (by simp); have y2 := hbk.cell (i := 2) (by simp); have y3 := hbk.cell (i := 3) (by simp); clear hbk; have HS2 := Lib.hid (HS.out rfl w2 HB2.out))
      | (go_at_call 35; with_reducible refine HS2.out.mono ?_; rintro e w3 ⟨rfl, hb3⟩))
    go_ret
    exact ⟨rfl, HB2.out.trans (hb3.mono HB2.out.size)⟩
def tyW : Txt := [116, 121, 112, 101, 32]
def dfW : Txt := [32, 32, 100, 101, 102, 105, 110, 101, 32]
def rlW : Txt := [32, 32, 114, 101, 108, 97, 116, 105, 111, 110, 32]
def rfT (r : Rf) : Txt := r.1 ++ (if r.2 = [] then [] else [35] ++ r.2)
def rfsT : Bool → List Rf → Txt
  | _, [] => []
  | b, r :: l => (if b then [] else [32, 124, 32]) ++ (rfT r ++ rfsT false l)
def rlT (x : Rl) : Txt := if x.refs.length = 0 then dfW ++ (x.name ++ ([58, 32] ++ (showE x.expr ++ [10]))) else rlW ++ (x.name ++ ([58, 32] ++ (rfsT true x.refs ++ [10])))
def rlsT : List Rl → Txt
  | [] => []
  | x :: r => rlT x ++ rlsT r
def tyT (t : Ty) : Txt := tyW ++ (t.name ++ ([10] ++ rlsT t.rels))
def scT : Sc → Txt
  | [] => []
  | t :: r => tyT t ++ scT r
def printT (s : Sc) : Txt := if mayS s then scT s else []
set_option maxHeartbeats 4000000 in
set_option maxRecDepth 100000 in
theorem print_any (s : Sc) (W : World) (F : Nat → Prop) (A : Option Addr) (c : Nat) (hs : ScAt W F A s) (hl : s.length ≤ 9223372036854775807) (hlen : (scT s).length ≤ 500000) :
    Calls Try.prog 15 #[.agg #[.slice A s.length c]] W fun r w' => r = .returned (strV (printT s)) ∧ Below W.heap.size W w' := by
  obtain ⟨W1, hW⟩ : ∃ W1, W1 = W.alloc (.cells #[.slice A s.length c] 25) := ⟨_, rfl⟩
  have HK0 : Hid (Blk W1 W.heap.size [.slice A s.length c] 25) := by rw [hW]; exact Lib.hid (Blk.new W _ _)
  have HB0 : Hid (Below W.heap.size W W1) := by rw [hW]; exact Lib.hid ((Below.refl W.heap.size W).alloc (Nat.le_refl _) _)
  have HS : Hid (RowAt 2 TyAt W F A s) := Lib.hid hs
  have HW := Lib.hid hW
  have HC1 := Lib.hid (may_any s W1 F A c (hs.below HB0.out) hl)
  have HMay : Hid (mayS s = true → ∀ t ∈ s, mayT t = true) := Lib.hid (fun h => List.all_eq_true.1 h)
  unfold printT
  generalize mayS s = q at *
  clear hs hW
  cases q
  · go_enter Try.func15, Try.ntmps15
    go_wp2_with (go_at_call 17; rw [← HW.out]; with_reducible refine HC1.out.mono ?_; rintro e w2 ⟨rfl, hb2⟩)
    go_ret
    exact ⟨rfl, HB0.out.trans (hb2.mono HB0.out.size)⟩
  · show Calls _ _ _ _ fun r w' => r = .returned (strV (scT s)) ∧ _
    obtain ⟨V, hV⟩ : ∃ V, V = scT s := ⟨_, rfl⟩
    rw [← hV] at hlen ⊢
    have HV := Lib.hid hV
    have HM := Lib.hid (HMay.out rfl)
    clear hV HMay
    go_enter Try.func15, Try.ntmps15
    go_wp2_with (go_at_call 17; rw [← HW.out]; with_reducible refine HC1.out.mono ?_; rintro e w2 ⟨rfl, hb2⟩; have HB2 := Lib.hid hb2; clear hb2)
    have HBW := Lib.hid (HB0.out.trans (HB2.out.mono HB0.out.size))
    have HK2 := Lib.hid (HK0.out.below HB2.out HK0.out.lt)
    go_loopw [4, 5] (fun so i wr => ∃ (j : Nat) (O : Txt), j ≤ s.length ∧ i = .int .i64 j ∧ so = strV O ∧ Hid (O ++ scT (s.drop j) = V) ∧ Hid (Below w2.heap.size w2 wr)) (fun _ i _ => s.length - (intOf i).toNat)
    case atStart => exact ⟨0, [], by omega, rfl, rfl, Lib.hid HV.out.symm, Lib.hid (Below.refl _ _)⟩
    case round =>
      obtain ⟨j, O, hj, rfl, rfl, HQ, BW⟩ := hrel
      have x1 := (HK2.out.below BW.out HK2.out.lt).cell (i := 0) (by simp)
      simp only [List.getElem_cons_zero] at x1
      by_cases hlt : j < s.length
      · obtain ⟨b, off, B, d, rfl, ⟨hsn, hrl⟩, hr, hc⟩ := HS.out.ty hlt
        obtain ⟨z0, z1⟩ := hc wr (HBW.out.trans (BW.out.mono HBW.out.size))
        have HC2 := Lib.hid (fun w' hw => (hc w' hw).2)
        have HRL := Lib.hid hr
        have hmt : mayT s[j] = true := HM.out _ (List.getElem_mem hlt)
        unfold mayT at hmt
        rw [Bool.and_eq_true] at hmt
        have HMR := Lib.hid (List.all_eq_true.1 hmt.2)
        have HD : Hid (O ++ (tyW ++ (s[j].name ++ ([10] ++ (rlsT s[j].rels ++ scT (s.drop (j + 1)))))) = V) := by
          show _ = _
          rw [← HQ.out, List.drop_eq_getElem_cons hlt, scT, tyT]
          simp only [List.append_assoc]
        clear hc hr hmt
        generalize s[j].name = nx at *
        generalize s[j].rels = rx at *
        have hO : O.length + nx.length + 6 ≤ 500000 := by
          have h1 := congrArg List.length HD.out
          simp only [List.length_append, List.length_cons, List.length_nil, tyW] at h1
          omega
        obtain ⟨T1, hT1⟩ : ∃ T, T = O ++ [116, 121, 112, 101, 32] := ⟨_, rfl⟩
        obtain ⟨T2, hT2⟩ : ∃ T, T = T1 ++ nx := ⟨_, rfl⟩
        obtain ⟨T3, hT3⟩ : ∃ T, T = T2 ++ [10] := ⟨_, rfl⟩
        have J1 : ∀ W, (Op.stringOp .add ⟨O.toArray⟩ ⟨#[116, 121, 112, 101, 32]⟩).run Try.prog W = .ok (strV T1) W := fun W => by rw [hT1]; exact plus O [116, 121, 112, 101, 32] (by omega) (by simp) W
        have J2 : ∀ W, (Op.stringOp .add ⟨T1.toArray⟩ ⟨nx.toArray⟩).run Try.prog W = .ok (strV T2) W := fun W => by rw [hT2]; exact plus T1 nx (by rw [hT1]; simp; omega) (by omega) W
        have J3 : ∀ W, (Op.stringOp .add ⟨T2.toArray⟩ ⟨#[10]⟩).run Try.prog W = .ok (strV T3) W := fun W => by rw [hT3]; exact plus T2 [10] (by rw [hT2, hT1]; simp; omega) (by simp) W
        have HD3 : Hid (T3 ++ (rlsT rx ++ scT (s.drop (j + 1))) = V) := by
          show _ = _
          rw [← HD.out, hT3, hT2, hT1]
          simp [tyW]
        clear hT1 hT2 hT3 HD hO
        go_wp2_with fail
        clear J1 J2 J3
        go_loopw [4, 6] (fun so i w3 => ∃ (p : Nat) (O : Txt), p ≤ rx.length ∧ i = .int .i64 p ∧ so = strV O ∧ Hid (O ++ (rlsT (rx.drop p) ++ scT (s.drop (j + 1))) = V) ∧ Hid (Below wr.heap.size wr w3)) (fun _ i _ => rx.length - (intOf i).toNat)
        case atStart => exact ⟨0, T3, by omega, rfl, rfl, Lib.hid HD3.out, Lib.hid (Below.refl _ _)⟩
        case round =>
          rename World => w3
          obtain ⟨p, O2, hp, rfl, rfl, HP, BW2⟩ := hrel
          have HB3 := Lib.hid (BW.out.trans (BW2.out.mono BW.out.size))
          have HB4 := Lib.hid (HBW.out.trans (HB3.out.mono HBW.out.size))
          have x2 := (HK2.out.below HB3.out HK2.out.lt).cell (i := 0) (by simp)
          simp only [List.getElem_cons_zero] at x2
          have z2 := HC2.out w3 HB4.out
          by_cases hpl : p < rx.length
          · obtain ⟨g, og, B1, c1, k1, p1, p2, E1, m2, c2, rfl, ⟨hnr, hrf⟩, hrr, hE, hcells⟩ := HRL.out.rl hpl
            obtain ⟨a0, a1, a2, a3, a4, a5⟩ := hcells w3 HB4.out
            have hmr : mayR rx[p] = true := HMR.out _ (List.getElem_mem hpl)
            have HD2 : Hid (O2 ++ (rlT rx[p] ++ (rlsT (rx.drop (p + 1)) ++ scT (s.drop (j + 1)))) = V) := by
              show _ = _
              rw [← HP.out, List.drop_eq_getElem_cons hpl, rlsT]
              simp only [List.append_assoc]
            unfold mayR at hmr
            simp only [Bool.and_eq_true] at hmr
            have hme : rx[p].refs.length = 0 → mayE rx[p].expr 12 = true := fun h => by
              have := hmr.2.2
              rw [h] at this
              simpa using this
            unfold rlT at HD2
            obtain ⟨ex, hex⟩ : ∃ ex, ex = rx[p].expr := ⟨_, rfl⟩
            rw [← hex] at hE hme HD2
            generalize rx[p].refs = rf at *
            generalize rx[p].name = nr at *
            have HRF := Lib.hid hrr
            have HEX := Lib.hid hE
            clear hcells hex hrr hE hmr
            obtain ⟨W4, hW4⟩ : ∃ W4, W4 = w3.alloc (.cells #[strV nr, .slice B1 rf.length c1, .int .i64 k1, strV p1, strV p2, .slice E1 m2 c2] 48) := ⟨_, rfl⟩
            have HK4 : Hid (Blk W4 w3.heap.size [strV nr, .slice B1 rf.length c1, .int .i64 k1, strV p1, strV p2, .slice E1 m2 c2] 48) := by rw [hW4]; exact Lib.hid (Blk.new w3 _ _)
            have HBB : Hid (Below wr.heap.size wr W4) := by rw [hW4]; exact Lib.hid (BW2.out.alloc BW2.out.size _)
            have HB5 : Hid (Below W.heap.size W W4) := by rw [hW4]; exact Lib.hid (HB4.out.alloc HB4.out.size _)
            have HW4 := Lib.hid hW4
            clear hW4
            by_cases h0 : rf.length = 0
            · rw [if_pos h0] at HD2
              have hd : ((rf.length : Int) == 0) = true := beq_iff_eq.2 (by omega)
              have HSH := Lib.hid (show_any ex W4.drew F _ 12 (HEX.out.below HB5.out.drew) (hme h0) (by omega))
              have HSH : Hid (Calls Try.prog 35 #[.agg #[.int .i64 k1, strV p1, strV p2, .slice E1 m2 c2]] W4.drew fun e' w' => e' = .returned (strV (showE ex)) ∧ Below W4.drew.heap.size W4.drew w') := HSH
              generalize showE ex = sx at *
              have hO : O2.length + nr.length + sx.length + 12 ≤ 500000 := by
                have h1 := congrArg List.length HD2.out
                simp only [List.length_append, List.length_cons, List.length_nil, dfW] at h1
                omega
              obtain ⟨U1, hU1⟩ : ∃ T, T = O2 ++ [32, 32, 100, 101, 102, 105, 110, 101, 32] := ⟨_, rfl⟩
              obtain ⟨U2, hU2⟩ : ∃ T, T = U1 ++ nr := ⟨_, rfl⟩
              obtain ⟨U3, hU3⟩ : ∃ T, T = U2 ++ [58, 32] := ⟨_, rfl⟩
              obtain ⟨U4, hU4⟩ : ∃ T, T = U3 ++ sx := ⟨_, rfl⟩
              obtain ⟨U5, hU5⟩ : ∃ T, T = U4 ++ [10] := ⟨_, rfl⟩
              have J1 : ∀ W, (Op.stringOp .add ⟨O2.toArray⟩ ⟨#[32, 32, 100, 101, 102, 105, 110, 101, 32]⟩).run Try.prog W = .ok (strV U1) W := fun W => by rw [hU1]; exact plus O2 [32, 32, 100, 101, 102, 105, 110, 101, 32] (by omega) (by simp) W
              have J2 : ∀ W, (Op.stringOp .add ⟨U1.toArray⟩ ⟨nr.toArray⟩).run Try.prog W = .ok (strV U2) W := fun W => by rw [hU2]; exact plus U1 nr (by rw [hU1]; simp; omega) (by omega) W
              have J3 : ∀ W, (Op.stringOp .add ⟨U2.toArray⟩ ⟨#[58, 32]⟩).run Try.prog W = .ok (strV U3) W := fun W => by rw [hU3]; exact plus U2 [58, 32] (by rw [hU2, hU1]; simp; omega) (by simp) W
              have J4 : ∀ W, (Op.stringOp .add ⟨U3.toArray⟩ ⟨sx.toArray⟩).run Try.prog W = .ok (strV U4) W := fun W => by rw [hU4]; exact plus U3 sx (by rw [hU3, hU2, hU1]; simp; omega) (by omega) W
              have J5 : ∀ W, (Op.stringOp .add ⟨U4.toArray⟩ ⟨#[10]⟩).run Try.prog W = .ok (strV U5) W := fun W => by rw [hU5]; exact plus U4 [10] (by rw [hU4, hU3, hU2, hU1]; simp; omega) (by simp) W
              have HN : Hid (U5 ++ (rlsT (rx.drop (p + 1)) ++ scT (s.drop (j + 1))) = V) := by
                show _ = _
                rw [← HD2.out, hU5, hU4, hU3, hU2, hU1]
                simp [dfW]
              clear hU1 hU2 hU3 hU4 hU5 hO HD2 hme
              have hS : ∀ w', Below W4.heap.size W4 w' → (w'.cell? ⟨w3.heap.size, 0, none⟩ = some (strV nr) ∧ w'.cell? ⟨w3.heap.size, 2, none⟩ = some (.int .i64 k1) ∧ w'.cell? ⟨w3.heap.size, 3, none⟩ = some (strV p1) ∧ w'.cell? ⟨w3.heap.size, 4, none⟩ = some (strV p2) ∧ w'.cell? ⟨w3.heap.size, 5, none⟩ = some (.slice E1 m2 c2)) := fun w' hw => by
                have hb := HK4.out.below hw HK4.out.lt
                exact ⟨hb.cell (i := 0) (by simp), hb.cell (i := 2) (by simp), hb.cell (i := 3) (by simp), hb.cell (i := 4) (by simp), hb.cell (i := 5) (by simp)⟩
              have hS0 := hS _ (Below.refl W4.heap.size W4).drew
              have HSS := Lib.hid hS
              clear hS h0
              go_wp2_with fail
              rw [← HW4.out]
              go_region_held_law (fun w' => (w'.cell? ⟨w3.heap.size, 0, none⟩ = some (strV nr) ∧ w'.cell? ⟨w3.heap.size, 2, none⟩ = some (.int .i64 k1) ∧ w'.cell? ⟨w3.heap.size, 3, none⟩ = some (strV p1) ∧ w'.cell? ⟨w3.heap.size, 4, none⟩ = some (strV p2) ∧ w'.cell? ⟨w3.heap.size, 5, none⟩ = some (.slice E1 m2 c2)))
                (with_reducible assumption)
                (first
                  | (go_at_call 35; with_reducible refine HSH.out.mono ?_; rintro e w5 ⟨rfl, hb5⟩; have HB6 := Lib.hid ((Below.refl W4.heap.size W4).drew.trans (hb5.mono (Below.refl W4.heap.size W4).drew.size)); have hS5 := HSS.out _ HB6.out; clear hb5))
              go_wp2_with fail
              go_roundw
              case rel => exact ⟨p + 1, U5, by omega, by go_num, rfl, HN, Lib.hid (HBB.out.trans (HB6.out.mono HBB.out.size))⟩
              case measure => simp [intOf]; omega
            · rw [if_neg h0] at HD2
              have hd : ((rf.length : Int) == 0) = false := beq_eq_false_iff_ne.2 (by omega)
              have hO : O2.length + nr.length + (rfsT true rf).length + 14 ≤ 500000 := by
                have h1 := congrArg List.length HD2.out
                simp only [List.length_append, List.length_cons, List.length_nil, rlW] at h1
                omega
              obtain ⟨U1, hU1⟩ : ∃ T, T = O2 ++ [32, 32, 114, 101, 108, 97, 116, 105, 111, 110, 32] := ⟨_, rfl⟩
              obtain ⟨U2, hU2⟩ : ∃ T, T = U1 ++ nr := ⟨_, rfl⟩
              obtain ⟨U3, hU3⟩ : ∃ T, T = U2 ++ [58, 32] := ⟨_, rfl⟩
              have J1 : ∀ W, (Op.stringOp .add ⟨O2.toArray⟩ ⟨#[32, 32, 114, 101, 108, 97, 116, 105, 111, 110, 32]⟩).run Try.prog W = .ok (strV U1) W := fun W => by rw [hU1]; exact plus O2 [32, 32, 114, 101, 108, 97, 116, 105, 111, 110, 32] (by omega) (by simp) W
              have J2 : ∀ W, (Op.stringOp .add ⟨U1.toArray⟩ ⟨nr.toArray⟩).run Try.prog W = .ok (strV U2) W := fun W => by rw [hU2]; exact plus U1 nr (by rw [hU1]; simp; omega) (by omega) W
              have J3 : ∀ W, (Op.stringOp .add ⟨U2.toArray⟩ ⟨#[58, 32]⟩).run Try.prog W = .ok (strV U3) W := fun W => by rw [hU3]; exact plus U2 [58, 32] (by rw [hU2, hU1]; simp; omega) (by simp) W
              have HN : Hid (U3 ++ (rfsT true rf ++ ([10] ++ (rlsT (rx.drop (p + 1)) ++ scT (s.drop (j + 1))))) = V) := by
                show _ = _
                rw [← HD2.out, hU3, hU2, hU1]
                simp [rlW]
              clear hU1 hU2 hU3 hO HD2 hme
              go_wp2_with fail
              rw [← HW4.out]
              clear J1 J2 J3
              obtain ⟨R, hR⟩ : ∃ R, R = rlsT (rx.drop (p + 1)) ++ scT (s.drop (j + 1)) := ⟨_, rfl⟩
              rw [← hR] at HN
              have HR2 := Lib.hid hR
              clear hR
              go_loopw [4, 8] (fun so i w7 => ∃ (n : Nat) (O : Txt), n ≤ rf.length ∧ i = .int .i64 n ∧ so = strV O ∧ Hid (O ++ (rfsT (decide (n = 0)) (rf.drop n) ++ ([10] ++ R)) = V) ∧ Hid (Below W4.heap.size W4 w7)) (fun _ i _ => rf.length - (intOf i).toNat)
              case atStart => exact ⟨0, U3, by omega, rfl, rfl, Lib.hid HN.out, Lib.hid (Below.refl _ _)⟩
              case round =>
                rename World => w7
                obtain ⟨n, O3, hn, rfl, rfl, HM3, BW3⟩ := hrel
                have xr := (HK4.out.below BW3.out HK4.out.lt).cell (i := 1) (by simp)
                simp only [List.getElem_cons_succ, List.getElem_cons_zero] at xr
                by_cases hnl : n < rf.length
                · obtain ⟨g2, og2, rfl, hc5⟩ := HRF.out.pair hnl
                  obtain ⟨e0, e1⟩ := hc5 w7 (HB5.out.trans (BW3.out.mono HB5.out.size))
                  have HD5 : Hid (O3 ++ ((if n = 0 then [] else [32, 124, 32]) ++ (rf[n].1 ++ ((if rf[n].2 = [] then [] else [35] ++ rf[n].2) ++ (rfsT false (rf.drop (n + 1)) ++ ([10] ++ R))))) = V) := by
                    show _ = _
                    rw [← HM3.out, List.drop_eq_getElem_cons hnl, rfsT, rfT]
                    by_cases hn0 : n = 0
                    · rw [if_pos hn0, decide_eq_true hn0]; simp
                    · rw [if_neg hn0, decide_eq_false hn0]; simp
                  have hn1 : decide (n + 1 = 0) = false := decide_eq_false (by omega)
                  generalize rf[n].1 = t1 at *
                  generalize rf[n].2 = t2 at *
                  have hO3 : O3.length + t1.length + (if t2 = [] then 0 else t2.length) + 4 ≤ 500004 := by
                    have h1 := congrArg List.length HD5.out
                    simp only [List.length_append] at h1
                    by_cases ht2 : t2 = []
                    · rw [if_pos ht2]; omega
                    · rw [if_neg ht2]
                      rw [if_neg ht2] at h1
                      simp only [List.length_append] at h1
                      omega
                  clear hc5
                  by_cases hn0 : n = 0
                  · have hng : decide (0 < n) = false := decide_eq_false (by omega)
                    obtain ⟨Y1, hY1⟩ : ∃ T, T = O3 ++ t1 := ⟨_, rfl⟩
                    have J1 : ∀ W, (Op.stringOp .add ⟨O3.toArray⟩ ⟨t1.toArray⟩).run Try.prog W = .ok (strV Y1) W := fun W => by rw [hY1]; exact plus O3 t1 (by omega) (by omega) W
                    by_cases ht2 : t2 = []
                    · have HN2 : Hid (Y1 ++ (rfsT (decide (n + 1 = 0)) (rf.drop (n + 1)) ++ ([10] ++ R)) = V) := by
                        show _ = _
                        rw [hn1, ← HD5.out, hY1, if_pos hn0, if_pos ht2]; simp
                      subst ht2
                      clear hY1 hn1 hO3 hn0
                      go_wp2_with fail
                      go_roundw
                      case rel => exact ⟨n + 1, Y1, by omega, by go_num, rfl, HN2, BW3⟩
                      case measure => simp [intOf]; omega
                    · have he := nonempty ht2
                      rw [if_neg ht2] at hO3
                      obtain ⟨Y2, hY2⟩ : ∃ T, T = Y1 ++ [35] := ⟨_, rfl⟩
                      obtain ⟨Y3, hY3⟩ : ∃ T, T = Y2 ++ t2 := ⟨_, rfl⟩
                      have J2 : ∀ W, (Op.stringOp .add ⟨Y1.toArray⟩ ⟨#[35]⟩).run Try.prog W = .ok (strV Y2) W := fun W => by rw [hY2]; exact plus Y1 [35] (by rw [hY1]; simp; omega) (by simp) W
                      have J3 : ∀ W, (Op.stringOp .add ⟨Y2.toArray⟩ ⟨t2.toArray⟩).run Try.prog W = .ok (strV Y3) W := fun W => by rw [hY3]; exact plus Y2 t2 (by rw [hY2, hY1]; simp; omega) (by omega) W
                      have HN2 : Hid (Y3 ++ (rfsT (decide (n + 1 = 0)) (rf.drop (n + 1)) ++ ([10] ++ R)) = V) := by
                        show _ = _
                        rw [hn1, ← HD5.out, hY3, hY2, hY1, if_pos hn0, if_neg ht2]; simp
                      clear hY1 hY2 hY3 hn1 hO3 hn0
                      go_wp2_with fail
                      go_roundw
                      case rel => exact ⟨n + 1, Y3, by omega, by go_num, rfl, HN2, BW3⟩
                      case measure => simp [intOf]; omega
                  · have hng : 0 < n := by omega
                    obtain ⟨Y0, hY0⟩ : ∃ T, T = O3 ++ [32, 124, 32] := ⟨_, rfl⟩
                    obtain ⟨Y1, hY1⟩ : ∃ T, T = Y0 ++ t1 := ⟨_, rfl⟩
                    have J0 : ∀ W, (Op.stringOp .add ⟨O3.toArray⟩ ⟨#[32, 124, 32]⟩).run Try.prog W = .ok (strV Y0) W := fun W => by rw [hY0]; exact plus O3 [32, 124, 32] (by omega) (by simp) W
                    have J1 : ∀ W, (Op.stringOp .add ⟨Y0.toArray⟩ ⟨t1.toArray⟩).run Try.prog W = .ok (strV Y1) W := fun W => by rw [hY1]; exact plus Y0 t1 (by rw [hY0]; simp; omega) (by omega) W
                    by_cases ht2 : t2 = []
                    · have HN2 : Hid (Y1 ++ (rfsT (decide (n + 1 = 0)) (rf.drop (n + 1)) ++ ([10] ++ R)) = V) := by
                        show _ = _
                        rw [hn1, ← HD5.out, hY1, hY0, if_neg hn0, if_pos ht2]; simp
                      subst ht2
                      clear hY0 hY1 hn1 hO3
                      go_wp2_with fail
                      go_roundw
                      case rel => exact ⟨n + 1, Y1, by omega, by go_num, rfl, HN2, BW3⟩
                      case measure => simp [intOf]; omega
                    · have he := nonempty ht2
                      rw [if_neg ht2] at hO3
                      obtain ⟨Y2, hY2⟩ : ∃ T, T = Y1 ++ [35] := ⟨_, rfl⟩
                      obtain ⟨Y3, hY3⟩ : ∃ T, T = Y2 ++ t2 := ⟨_, rfl⟩
                      have J2 : ∀ W, (Op.stringOp .add ⟨Y1.toArray⟩ ⟨#[35]⟩).run Try.prog W = .ok (strV Y2) W := fun W => by rw [hY2]; exact plus Y1 [35] (by rw [hY1, hY0]; simp; omega) (by simp) W
                      have J3 : ∀ W, (Op.stringOp .add ⟨Y2.toArray⟩ ⟨t2.toArray⟩).run Try.prog W = .ok (strV Y3) W := fun W => by rw [hY3]; exact plus Y2 t2 (by rw [hY2, hY1, hY0]; simp; omega) (by omega) W
                      have HN2 : Hid (Y3 ++ (rfsT (decide (n + 1 = 0)) (rf.drop (n + 1)) ++ ([10] ++ R)) = V) := by
                        show _ = _
                        rw [hn1, ← HD5.out, hY3, hY2, hY1, hY0, if_neg hn0, if_neg ht2]; simp
                      clear hY0 hY1 hY2 hY3 hn1 hO3
                      go_wp2_with fail
                      go_roundw
                      case rel => exact ⟨n + 1, Y3, by omega, by go_num, rfl, HN2, BW3⟩
                      case measure => simp [intOf]; omega
                · have HE5 : Hid (O3 ++ ([10] ++ R) = V) := by
                    show _ = _
                    rw [← HM3.out, List.drop_of_length_le (l := rf) (i := n) (by omega)]
                    cases decide (n = 0) <;> rfl
                  have hO3 : O3.length + 1 ≤ 500000 := by
                    have h1 := congrArg List.length HE5.out
                    simp only [List.length_append, List.length_cons, List.length_nil] at h1
                    omega
                  obtain ⟨Y1, hY1⟩ : ∃ T, T = O3 ++ [10] := ⟨_, rfl⟩
                  have J1 : ∀ W, (Op.stringOp .add ⟨O3.toArray⟩ ⟨#[10]⟩).run Try.prog W = .ok (strV Y1) W := fun W => by rw [hY1]; exact plus O3 [10] (by omega) (by simp) W
                  have HN2 : Hid (Y1 ++ (rlsT (rx.drop (p + 1)) ++ scT (s.drop (j + 1))) = V) := by
                    show _ = _
                    rw [← HE5.out, HR2.out, hY1]; simp
                  clear hY1 hO3
                  go_wp2_with fail
                  go_roundw
                  case rel => exact ⟨p + 1, Y1, by omega, by go_num, rfl, HN2, Lib.hid (HBB.out.trans (BW3.out.mono HBB.out.size))⟩
                  case measure => simp [intOf]; omega
          · have HN : Hid (O2 ++ scT (s.drop (j + 1)) = V) := by
              show _ = _
              rw [← HP.out, List.drop_of_length_le (l := rx) (i := p) (by omega), rlsT]; rfl
            go_wp2_with fail
            go_roundw
            case rel => exact ⟨j + 1, O2, by omega, by go_num, rfl, HN, HB3⟩
            case measure => simp [intOf]; omega
      · have HN : Hid (O = V) := by
          show _ = _
          rw [← HQ.out, List.drop_of_length_le (by omega), scT, List.append_nil]
        go_wp2_with fail
        go_ret
        exact ⟨by rw [HN.out]; rfl, HBW.out.trans (BW.out.mono HBW.out.size)⟩
end Go.Proofs.Ytpiaiibobjlipaa
namespace Go.Proofs.Ytpiaiibobjlipaa
open Go.RowKit
abbrev Tk := Txt × Nat × Nat
abbrev Dg := Nat × Nat × Nat
def signs : Txt := [58, 124, 35, 43, 45, 38, 46, 40, 41]
def signT (c : UInt8) : Txt := if c ∈ signs then [c] else [63]
def wordL : Txt → Nat
  | [] => 0
  | c :: r => if lowB c then (r.takeWhile nmB).length + 1 else 0
theorem wordL_le (l : Txt) : wordL l ≤ l.length := by
  cases l with
  | nil => simp [wordL]
  | cons c r =>
    have h := (List.takeWhile_sublist (l := r) nmB).length_le
    rw [wordL]
    by_cases hc : lowB c = true
    · rw [if_pos hc]; simp; omega
    · rw [if_neg hc]; omega
def tokL (l : Txt) (line col : Nat) : List Tk :=
  match l with
  | [] => [([], line, col)]
  | c :: r =>
    if c = 10 then tokL r (line + 1) 1
    else if c = 32 ∨ c = 9 then tokL r line (col + 1)
    else if h : wordL (c :: r) = 0 then (if signT c = [63] then [([63], line, col)] else (signT c, line, col) :: tokL r line (col + 1))
    else ((c :: r).take (wordL (c :: r)), line, col) :: tokL ((c :: r).drop (wordL (c :: r))) line (col + wordL (c :: r))
termination_by l.length
decreasing_by
  all_goals simp
  all_goals omega
inductive Rs (α : Type) where
  | ok (a : α) (r : List Tk)
  | no (d : Dg)
def Rs.then {α β : Type} (x : Rs α) (f : α → List Tk → Rs β) : Rs β :=
  match x with
  | .ok a r => f a r
  | .no d => .no d
def failT (t : Tk) (e : Nat) : Dg := (t.2.1, t.2.2, e)
def nx (ts : List Tk) : Tk := ts.headD ([], 0, 0)
def nameP (ts : List Tk) : Rs Txt := if nameL (nx ts).1 then .ok (nx ts).1 ts.tail else .no (failT (nx ts) 8)
def mustP (s : Txt) (ts : List Tk) : Rs Unit := if (nx ts).1 = s then .ok () ts.tail else .no (failT (nx ts) 8)
def atomK (sub : Option (List Tk → Rs Ex)) (ts : List Tk) : Rs Ex :=
  if (nx ts).1 = [40] then
    (match sub with
    | none => .no (failT (nx ts) 9)
    | some f => (f ts.tail).then fun e r => (mustP [41] r).then fun _ r => .ok e r)
  else (nameP ts).then fun s r => if (nx r).1 = [46] then (nameP r.tail).then fun o r => .ok (.mk 1 s o []) r else .ok (.mk 0 s [] []) r
def twoP (k : Int) (t : Tk) (a b : Ex) (r : List Tk) : Rs Ex := if 12 < heightE (.mk k [] [] [a, b]) then .no (failT t 9) else .ok (.mk k [] [] [a, b]) r
def termLoop (sub : Option (List Tk → Rs Ex)) : Nat → Ex → List Tk → Rs Ex
  | 0, a, ts => .ok a ts
  | n + 1, a, ts => if (nx ts).1 = [38] then (atomK sub ts.tail).then fun b r => (twoP 3 (nx ts) a b r).then fun e r => termLoop sub n e r else .ok a ts
def termK (sub : Option (List Tk → Rs Ex)) (ts : List Tk) : Rs Ex := (atomK sub ts).then fun a r => termLoop sub ts.length a r
def exprLoop (sub : Option (List Tk → Rs Ex)) : Nat → Ex → List Tk → Rs Ex
  | 0, a, ts => .ok a ts
  | n + 1, a, ts => if (nx ts).1 = [43] ∨ (nx ts).1 = [45] then (termK sub ts.tail).then fun b r => (twoP (if (nx ts).1 = [45] then 4 else 2) (nx ts) a b r).then fun e r => exprLoop sub n e r else .ok a ts
def exprK (sub : Option (List Tk → Rs Ex)) (ts : List Tk) : Rs Ex := (termK sub ts).then fun a r => exprLoop sub ts.length a r
def exprD : Nat → List Tk → Rs Ex
  | 0 => exprK none
  | d + 1 => exprK (some (exprD d))
def subD : Nat → Option (List Tk → Rs Ex)
  | 0 => none
  | d + 1 => some (exprD d)
theorem exprD_eq (d : Nat) : exprD d = exprK (subD d) := by cases d <;> rfl
def refP (ts : List Tk) : Rs Rf := (nameP ts).then fun s r => if (nx r).1 = [35] then (nameP r.tail).then fun o r => .ok (s, o) r else .ok (s, []) r
def refsLoop : Nat → List Tk → Rs (List Rf)
  | 0, ts => .ok [] ts
  | n + 1, ts => if (nx ts).1 = [124] then (refP ts.tail).then fun x r => (refsLoop n r).then fun l r => .ok (x :: l) r else .ok [] ts
def relW2 : Txt := [114, 101, 108, 97, 116, 105, 111, 110]
def defW2 : Txt := [100, 101, 102, 105, 110, 101]
def typW2 : Txt := [116, 121, 112, 101]
def noEx : Ex := .mk 0 [] [] []
def toldP (ts : List Tk) : Rs Rl := (nameP ts).then fun n r => (mustP [58] r).then fun _ r => (refP r).then fun x r => (refsLoop r.length r).then fun l r => .ok ⟨n, x :: l, noEx⟩ r
def defP (ts : List Tk) : Rs Rl := (nameP ts).then fun n r => (mustP [58] r).then fun _ r => (exprD 12 r).then fun e r => .ok ⟨n, [], e⟩ r
def relsLoop : Nat → List Tk → Rs (List Rl)
  | 0, ts => .ok [] ts
  | n + 1, ts =>
    if (nx ts).1 = relW2 then (toldP ts.tail).then fun x r => (relsLoop n r).then fun l r => .ok (x :: l) r
    else if (nx ts).1 = defW2 then (defP ts.tail).then fun x r => (relsLoop n r).then fun l r => .ok (x :: l) r
    else .ok [] ts
def typesLoop : Nat → List Tk → Rs Sc
  | 0, ts => .ok [] ts
  | n + 1, ts => if (nx ts).1 = typW2 then (nameP ts.tail).then fun s r => (relsLoop r.length r).then fun rs r => (typesLoop n r).then fun l r => .ok (⟨s, rs⟩ :: l) r else .ok [] ts
def wholeP (ts : List Tk) : Rs Sc := (typesLoop ts.length ts).then fun s r => if (nx r).1 = [] then .ok s r else .no (failT (nx r) 8)
def parseT (l : Txt) : Sc × Dg := if 4096 < l.length then ([], (1, 1, 2)) else (match wholeP (tokL l 1 1) with | .ok s _ => (s, (0, 0, 0)) | .no d => ([], d))
end Go.Proofs.Ytpiaiibobjlipaa
namespace Go.Proofs.Ytpiaiibobjlipaa
open Go.RowKit
def tokF : Nat → Txt → Nat → Nat → List Tk
  | 0, _, _, _ => []
  | n + 1, l, line, col =>
    match l with
    | [] => [([], line, col)]
    | c :: r =>
      if c = 10 then tokF n r (line + 1) 1
      else if c = 32 ∨ c = 9 then tokF n r line (col + 1)
      else if wordL (c :: r) = 0 then (if signT c = [63] then [([63], line, col)] else (signT c, line, col) :: tokF n r line (col + 1))
      else ((c :: r).take (wordL (c :: r)), line, col) :: tokF n ((c :: r).drop (wordL (c :: r))) line (col + wordL (c :: r))
theorem tokF_eq : ∀ (n : Nat) (l : Txt) (line col : Nat), l.length < n → tokF n l line col = tokL l line col
  | 0, l, _, _, h => absurd h (Nat.not_lt_zero _)
  | n + 1, [], line, col, _ => by rw [tokF, tokL]
  | n + 1, c :: r, line, col, h => by
    have hr : r.length < n := by simpa using h
    rw [tokF, tokL]
    by_cases h1 : c = 10
    · rw [if_pos h1, if_pos h1, tokF_eq n r _ _ hr]
    · rw [if_neg h1, if_neg h1]
      by_cases h2 : c = 32 ∨ c = 9
      · rw [if_pos h2, if_pos h2, tokF_eq n r _ _ hr]
      · rw [if_neg h2, if_neg h2]
        by_cases h3 : wordL (c :: r) = 0
        · rw [if_pos h3, dif_pos h3, tokF_eq n r _ _ hr]
        · rw [if_neg h3, dif_neg h3, tokF_eq n _ _ _ (by rw [List.length_drop]; simp at h ⊢; omega)]
def awT1 : Txt := [116, 121, 112, 101, 32, 117, 115, 101, 114, 32, 116, 121, 112, 101, 32, 100, 111, 99, 32, 114, 101, 108, 97, 116, 105, 111, 110, 32, 111, 119, 110, 101, 114, 58, 32, 117, 115, 101, 114, 32, 100, 101, 102, 105, 110, 101, 32, 99, 97, 110, 58, 32, 111, 119, 110, 101, 114, 32, 43, 32, 111, 119, 110, 101, 114, 32, 38, 32, 111, 119, 110, 101, 114]
def awT2 : Txt := [116, 121, 112, 101, 32, 97, 32, 114, 101, 108, 97, 116, 105, 111, 110]
def awT3 : Txt := [40, 111, 119, 110, 101, 114, 32, 43, 32, 40, 111, 119, 110, 101, 114, 32, 38, 32, 111, 119, 110, 101, 114, 41, 41]
def ownerT : Txt := [111, 119, 110, 101, 114]
def userT : Txt := [117, 115, 101, 114]
def awE : Ex := .mk 2 [] [] [.mk 0 ownerT [] [], .mk 3 [] [] [.mk 0 ownerT [] [], .mk 0 ownerT [] []]]
def awS : Sc := [⟨userT, []⟩, ⟨[100, 111, 99], [⟨ownerT, [(userT, [])], noEx⟩, ⟨[99, 97, 110], [], awE⟩]⟩]
theorem aw_parse1 : parseT awT1 = (awS, (0, 0, 0)) := by
  unfold parseT
  rw [← tokF_eq 100 awT1 1 1 (by decide), if_neg (by decide)]
  have h : wholeP (tokF 100 awT1 1 1) = .ok awS [([], 1, 74)] := by kernel_rfl
  rw [h]
theorem aw_parse2 : parseT awT2 = ([], (1, 16, 8)) := by
  unfold parseT
  rw [← tokF_eq 100 awT2 1 1 (by decide), if_neg (by decide)]
  have h : wholeP (tokF 100 awT2 1 1) = .no (1, 16, 8) := by kernel_rfl
  rw [h]
theorem aw_expr : exprT awE = awT3 := by kernel_rfl
end Go.Proofs.Ytpiaiibobjlipaa
