/-
  What the document's Allowed comes to. Conditions: the schema is there; no text of the tuple is longer than 2^63-1 bytes.
-/
import Derived.Test.YtehabjiacgibpaaCEnc
import Derived.Test.YtehabjiacgibpaaCRuF
import Derived.Test.YtehabjiacgibpaaCNmShow
namespace Go.Proofs.Ytehabjiacgibpaa
open Go.RowKit
theorem typN_any (s : Sc) (d : Txt) : decide (0 ≤ typN s d) = s.any (fun t => decide (t.name = d)) := by
  unfold typN
  exact atN_any' (fun (t : Ty) => decide (t.name = d)) s 0
theorem any_drop {α : Type} {p : α → Bool} {l : List α} {j : Nat} (h : j < l.length) : (l.drop j).any p = (p l[j] || (l.drop (j + 1)).any p) := by
  rw [List.drop_eq_getElem_cons h, List.any_cons]
set_option maxRecDepth 100000 in
set_option maxHeartbeats 4000000 in
theorem refAllowed_any (s : Sc) (t : Tup) (W : World) (F : Nat → Prop) (A : Option Addr) (c : Nat) (hs : ScAt W F A s) (hl : s.length ≤ 9223372036854775807) (ht : ∀ x ∈ six t, x.length ≤ 9223372036854775807) :
    Calls Try.prog 11 #[.agg #[.slice A s.length c], .agg ((six t).map strV).toArray] W fun e w' => e = .returned (.int .i64 (allowN s t)) ∧ Below W.heap.size W w' := by
  obtain ⟨v, hv⟩ : ∃ v, v = allowN s t := ⟨_, rfl⟩
  rw [← hv]
  unfold allowN at hv
  obtain ⟨a, b, r, d, f, g⟩ := t
  have hI := fun w => refShowTuple_any a b r d f g w (ht a (by simp [six])) (ht b (by simp [six])) (ht r (by simp [six])) (ht d (by simp [six])) (ht f (by simp [six])) (ht g (by simp [six]))
  dsimp only at hv
  show Calls _ _ #[.agg #[.slice A s.length c], .agg #[strV a, strV b, strV r, strV d, strV f, strV g]] _ _
  obtain ⟨W1, hW⟩ : ∃ W1, W1 = (W.alloc (.cells #[.slice A s.length c] 24)).alloc (.cells #[strV a, strV b, strV r, strV d, strV f, strV g] 30) := ⟨_, rfl⟩
  have hKA : Blk W1 W.heap.size [.slice A s.length c] 24 := by rw [hW]; exact (Blk.new W _ _).alloc _
  have hKT : Blk W1 (W.heap.size + 1) [strV a, strV b, strV r, strV d, strV f, strV g] 30 := by
    rw [hW]
    have := Blk.new (W.alloc (.cells #[.slice A s.length c] 24)) [strV a, strV b, strV r, strV d, strV f, strV g] 30
    rw [World.size_alloc] at this
    exact this
  have hB0 : Below W.heap.size W W1 := by rw [hW]; exact ((Below.refl _ _).alloc (Nat.le_refl _) _).alloc (by simp) _
  have HB0 := Lib.hid hB0
  have HX : Hid (∀ w, Below W1.heap.size W1 w → w.cell? ⟨W.heap.size, 0, none⟩ = some (.slice A s.length c) ∧ w.cell? ⟨W.heap.size + 1, 0, none⟩ = some (strV a) ∧ w.cell? ⟨W.heap.size + 1, 1, none⟩ = some (strV b) ∧ w.cell? ⟨W.heap.size + 1, 2, none⟩ = some (strV r) ∧ w.cell? ⟨W.heap.size + 1, 3, none⟩ = some (strV d) ∧ w.cell? ⟨W.heap.size + 1, 4, none⟩ = some (strV f) ∧ w.cell? ⟨W.heap.size + 1, 5, none⟩ = some (strV g)) := Lib.hid (fun w hw => by
    have h1 := hKA.below hw hKA.lt
    have h2 := hKT.below hw hKT.lt
    exact ⟨h1.cell (i := 0) (by simp), h2.cell (i := 0) (by simp), h2.cell (i := 1) (by simp), h2.cell (i := 2) (by simp), h2.cell (i := 3) (by simp), h2.cell (i := 4) (by simp), h2.cell (i := 5) (by simp)⟩)
  have HF : Hid (∀ w, Below W1.heap.size W1 w → Below W.heap.size W w) := Lib.hid (fun w hw => hB0.trans (hw.mono hB0.size))
  have HI := Lib.hid (hI W1)
  have HR := Lib.hid (fun w (hw : Below W1.heap.size W1 w) => rfind_any s a r w F A c (hs.below (hB0.trans (hw.mono hB0.size))) hl)
  have HS : Hid (RowAt 2 TyAt W F A s) := Lib.hid hs
  have HV := Lib.hid hv
  have HW := Lib.hid hW
  clear hI hv hKA hKT hB0 hW hs ht
  by_cases h0 : showT (a, b, r, d, f, g) = []
  · have HV2 : Hid (v = 1) := Lib.hid (by rw [HV.out, if_pos h0])
    rw [h0] at HI
    clear HV h0 HR
    go_enter Try.func11, Try.ntmps11
    go_wp2_with (go_at_call 20; rw [← HW.out]; refine HI.out.mono ?_; rintro e w2 ⟨rfl, hb2⟩; have HB2 := Lib.hid hb2; clear hb2)
    go_ret
    exact ⟨by rw [HV2.out]; rfl, HF.out _ HB2.out⟩
  have HV2 : Hid (v = if (findR s a r).2 = false ∨ typN s d < 0 then 6 else if (findR s a r).1.refs.any (fun r => decide ((d, g) = r)) then 0 else 10) := Lib.hid (by rw [HV.out, if_neg h0])
  have HNE : Hid (showT (a, b, r, d, f, g) ≠ []) := Lib.hid h0
  generalize showT (a, b, r, d, f, g) = sh at *
  have HTA := Lib.hid (typN_any s d)
  clear HV h0
  generalize findR s a r = R at *
  generalize typN s d = ty at *
  unfold FoundAs at HR
  obtain ⟨x, ok⟩ := R
  have hd0 : (sh == []) = false := beq_eq_false_iff_ne.2 HNE.out
  go_enter Try.func11, Try.ntmps11
  go_wp2_with (go_at_call 20; rw [← HW.out]; refine HI.out.mono ?_; rintro e w2 ⟨rfl, hb2⟩; have HB2 := Lib.hid hb2; clear hb2; obtain ⟨x0, y0, y1, y2, y3, y4, y5⟩ := HX.out w2 HB2.out)
  refine (HR.out w2 HB2.out).mono ?_
  rintro e w3 ⟨cs, rfl, hx3, hb3⟩
  obtain ⟨B3, c3, k3, p3, q3, E3, m3, d3, rfl, ⟨_, hxl⟩, hr3, _⟩ := hx3.six
  obtain ⟨xn, rs, xe⟩ := x
  dsimp only at hxl hr3 HV2
  obtain ⟨w4, hw4⟩ : ∃ w4, w4 = w3.alloc (.cells #[strV xn, .slice B3 rs.length c3, .int .i64 k3, strV p3, strV q3, .slice E3 m3 d3] 58) := ⟨_, rfl⟩
  have hb34 : Below w3.heap.size w3 w4 := by rw [hw4]; exact (Below.refl _ _).alloc (Nat.le_refl _) _
  have hk4 : Blk w4 w3.heap.size [strV xn, .slice B3 rs.length c3, .int .i64 k3, strV p3, strV q3, .slice E3 m3 d3] 58 := by rw [hw4]; exact Blk.new _ _ _
  have hb14 : Below W1.heap.size W1 w4 := hop (hop HB2.out hb3) hb34
  have HX4 : Hid (∀ w, Below w4.heap.size w4 w → w.cell? ⟨w3.heap.size, 1, none⟩ = some (.slice B3 rs.length c3)) := Lib.hid (fun w hw => (hk4.below hw hk4.lt).cell (i := 1) (by simp))
  have HB4 : Hid (∀ w, Below w4.heap.size w4 w → Below W1.heap.size W1 w) := Lib.hid (fun w hw => hop hb14 hw)
  have HR4 : Hid (∀ w, Below w4.heap.size w4 w → Below w3.heap.size w3 w) := Lib.hid (fun w hw => hop hb34 hw)
  have HRR : Hid (RowAt 2 RfAt w3 F B3 rs) := Lib.hid hr3
  have HW4 := Lib.hid hw4
  clear hx3 hb3 hr3 hw4 hb34 hk4 hb14 HI HR x0 y0 y1 y2 y3 y4 y5 hd0
  go_wp2_with fail
  show Code.wp _ _ _ _ (w3.alloc (.cells #[strV xn, .slice B3 rs.length c3, .int .i64 k3, strV p3, strV q3, .slice E3 m3 d3] 58))
  rw [← HW4.out]
  go_loopw [7, 8] (fun ba i wr => ∃ j : Nat, j ≤ s.length ∧ i = .int .i64 j ∧ ∃ bb : Bool, ba = .bool bb ∧ Hid (decide (0 ≤ ty) = (bb || (s.drop j).any (fun t => decide (t.name = d)))) ∧ Hid (Below w4.heap.size w4 wr)) (fun _ i _ => s.length - (intOf i).toNat)
  case atStart => exact ⟨0, by omega, rfl, false, rfl, HTA, Lib.hid (Below.refl _ _)⟩
  case round =>
    obtain ⟨j, hj, rfl, bb, rfl, H, BW⟩ := hrel
    obtain ⟨x0, y0, y1, y2, y3, y4, y5⟩ := HX.out wr (HB4.out wr BW.out)
    by_cases hlt : j < s.length
    · have HD := Lib.hid (any_drop (p := fun (t : Ty) => decide (t.name = d)) hlt)
      obtain ⟨b0, off, B, dd, rfl, _, _, hc⟩ := HS.out.ty hlt
      obtain ⟨z0, _⟩ := hc wr (HF.out wr (HB4.out wr BW.out))
      clear hc
      generalize s[j].name = nx at *
      cases bb with
      | true =>
        have HN : Hid (decide (0 ≤ ty) = (true || (s.drop (j + 1)).any (fun t => decide (t.name = d)))) := Lib.hid (by rw [H.out, Bool.true_or, Bool.true_or])
        go_wp2_with fail
        go_quiet (fail)
        go_wp2_with fail
        go_roundw
        case rel => exact ⟨j + 1, by omega, by go_num, true, rfl, HN, Lib.hid (below_drewN BW.out _)⟩
        case measure => simp [intOf]; omega
      | false =>
        by_cases e : nx = d
        · have HN : Hid (decide (0 ≤ ty) = (true || (s.drop (j + 1)).any (fun t => decide (t.name = d)))) := Lib.hid (by rw [H.out, HD.out, decide_eq_true e, Bool.false_or])
          have hd : (nx == d) = true := beq_iff_eq.2 e
          clear e
          go_wp2_with fail
          go_quiet (fail)
          go_wp2_with fail
          go_roundw
          case rel => exact ⟨j + 1, by omega, by go_num, true, rfl, HN, Lib.hid (below_drewN BW.out _)⟩
          case measure => simp [intOf]; omega
        · have HN : Hid (decide (0 ≤ ty) = (false || (s.drop (j + 1)).any (fun t => decide (t.name = d)))) := Lib.hid (by rw [H.out, HD.out, decide_eq_false e, Bool.false_or])
          have hd : (nx == d) = false := beq_eq_false_iff_ne.2 e
          clear e
          go_wp2_with fail
          go_quiet (fail)
          go_wp2_with fail
          go_roundw
          case rel => exact ⟨j + 1, by omega, by go_num, false, rfl, HN, Lib.hid (below_drewN BW.out _)⟩
          case measure => simp [intOf]; omega
    · have HE : Hid (decide (0 ≤ ty) = bb) := Lib.hid (by rw [H.out, List.drop_of_length_le (by omega), List.any_nil, Bool.or_false])
      have HB9 := Lib.hid (HF.out wr (HB4.out wr BW.out))
      clear H
      cases ok with
      | false =>
        have HV3 : Hid (v = 6) := Lib.hid (by rw [HV2.out, if_pos (.inl rfl)])
        go_wp2_with fail
        go_ret
        exact ⟨by rw [HV3.out]; rfl, HB9.out⟩
      | true =>
        cases bb with
        | false =>
          have HV3 : Hid (v = 6) := Lib.hid (by rw [HV2.out, if_pos (.inr (by have := of_decide_eq_false HE.out; omega))])
          go_wp2_with fail
          go_ret
          exact ⟨by rw [HV3.out]; rfl, HB9.out⟩
        | true =>
          have HV3 : Hid (v = if (rs.drop 0).any (fun r => decide ((d, g) = r)) then 0 else 10) := Lib.hid (by
            rw [HV2.out, if_neg (by have := of_decide_eq_true HE.out; intro h; rcases h with h | h; exact Bool.noConfusion h; omega)]
            rfl)
          have BWr := BW
          clear HV2
          go_wp2_with fail
          clear x0 y0 y1 y2 y3 y4 y5
          go_loopw [9] (fun i wr => ∃ j : Nat, j ≤ rs.length ∧ i = .int .i64 j ∧ Hid (v = if (rs.drop j).any (fun r => decide ((d, g) = r)) then 0 else 10) ∧ Hid (Below w4.heap.size w4 wr)) (fun i _ => rs.length - (intOf i).toNat)
          case atStart => exact ⟨0, by omega, rfl, HV3, BWr⟩
          case round =>
            obtain ⟨k, hk, rfl, H, BW⟩ := hrel
            obtain ⟨x0, y0, y1, y2, y3, y4, y5⟩ := HX.out wr (HB4.out wr BW.out)
            have x1 := HX4.out wr BW.out
            have HB9 := Lib.hid (HF.out wr (HB4.out wr BW.out))
            by_cases hkl : k < rs.length
            · have HD := Lib.hid (any_drop (p := fun (r : Rf) => decide ((d, g) = r)) hkl)
              obtain ⟨b5, off5, rfl, hc⟩ := HRR.out.pair hkl
              obtain ⟨z0, z1⟩ := hc wr (HR4.out wr BW.out)
              clear hc
              generalize hq : rs[k] = q at *
              obtain ⟨q1, q2⟩ := q
              clear hq
              dsimp only at z0 z1
              by_cases e1 : q1 = d
              · by_cases e2 : q2 = g
                · have HN : Hid (v = 0) := Lib.hid (by rw [H.out, HD.out, if_pos (by rw [e1, e2, decide_eq_true rfl]; rfl)])
                  have hd1 : (q1 == d) = true := beq_iff_eq.2 e1
                  have hd2 : (q2 == g) = true := beq_iff_eq.2 e2
                  clear e1 e2 HD
                  go_wp2_with fail
                  go_quiet (fail)
                  go_wp2_with fail
                  go_ret
                  exact ⟨by rw [HN.out]; rfl, below_drewN HB9.out _⟩
                · have HN : Hid (v = if (rs.drop (k + 1)).any (fun r => decide ((d, g) = r)) then 0 else 10) := Lib.hid (by rw [H.out, HD.out, decide_eq_false (by intro h; injection h with _ h; exact e2 h.symm), Bool.false_or])
                  have hd1 : (q1 == d) = true := beq_iff_eq.2 e1
                  have hd2 : (q2 == g) = false := beq_eq_false_iff_ne.2 e2
                  clear e1 e2 HD
                  go_wp2_with fail
                  go_quiet (fail)
                  go_wp2_with fail
                  go_roundw
                  case rel => exact ⟨k + 1, by omega, by go_num, HN, Lib.hid (below_drewN BW.out _)⟩
                  case measure => simp [intOf]; omega
              · have HN : Hid (v = if (rs.drop (k + 1)).any (fun r => decide ((d, g) = r)) then 0 else 10) := Lib.hid (by rw [H.out, HD.out, decide_eq_false (by intro h; injection h with h _; exact e1 h.symm), Bool.false_or])
                have hd1 : (q1 == d) = false := beq_eq_false_iff_ne.2 e1
                clear e1 HD
                go_wp2_with fail
                go_quiet (fail)
                go_wp2_with fail
                go_roundw
                case rel => exact ⟨k + 1, by omega, by go_num, HN, Lib.hid (below_drewN BW.out _)⟩
                case measure => simp [intOf]; omega
            · have HN : Hid (v = 10) := Lib.hid (by rw [H.out, List.drop_of_length_le (by omega)]; rfl)
              go_wp2_with fail
              go_ret
              exact ⟨by rw [HN.out]; rfl, HB9.out⟩
end Go.Proofs.Ytehabjiacgibpaa
