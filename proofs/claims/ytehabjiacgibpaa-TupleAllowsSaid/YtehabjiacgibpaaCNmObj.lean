/-
  What the program's refsOf comes to: the Refs of the first relation of a name of the first type of a name. Conditions: the schema is there, and can be copied.
  What the program's ID comes to, on a list. Condition: a string's length fits an int.
  What the document's ID comes to. Condition: a string's length fits an int.
  What the document's cut comes to. Condition: a string's length fits an int.
  What the document's Object, Subject and Tuple come to. Condition: a string's length fits an int.
-/
import Derived.Test.YtehabjiacgibpaaCTpL
import Derived.Test.YtehabjiacgibpaaCRuF0
import Derived.Test.YtehabjiacgibpaaCFlat
import Derived.Laws.DeepStrings4
import Derived.Deep.QuietTactic
import Derived.BigQuiet
import Derived.Test.YtehabjiacgibpaaCRowT
namespace Go.Proofs.Ytehabjiacgibpaa
open Go.RowKit
theorem make_rels (n : Nat) (h : n ≤ 1000000) : ∃ M : List Value, M.length = n * 6 ∧ ∀ w, (Instr.makeSlice 50 (.int .i64 (n : Int)) (.int .i64 (n : Int))).run Try.prog w = .ok (.slice (some ⟨w.heap.size, 0, none⟩) n n) (w.alloc (.cells M.toArray 58)) := by
  have hf : (Try.prog.info? 58).map (fun i => (i.zero, i.size, i.bytes)) = some (some (.agg #[.string ⟨#[]⟩, .slice none 0 0, .int .i64 0, .string ⟨#[]⟩, .string ⟨#[]⟩, .slice none 0 0]), 6, 104) := by kernel_rfl
  obtain ⟨i, hi, he⟩ := Option.map_eq_some_iff.1 hf
  injection he with h1 h2
  injection h2 with h2 h3
  refine ⟨(madeCells (Value.agg #[.string ⟨#[]⟩, .slice none 0 0, .int .i64 0, .string ⟨#[]⟩, .string ⟨#[]⟩, .slice none 0 0]).cells (n * 6)).toList, by simp [madeCells], fun w => ?_⟩
  have hr := run_make (P := Try.prog) w 50 58 i _ Try.underlying50 hi h1 .i64 .i64 (n : Int) (n : Int) (by omega) (Int.le_refl _) (by rw [h3]; omega) (by omega)
  rw [Int.toNat_natCast, h2] at hr
  rw [hr, Array.toArray_toList]
def RefsP (W : World) (R : Rl × Bool) (e : Ending) (w' : World) : Prop := ∃ (B : Option Addr) (d : Nat), e = .returned (.tuple #[.slice B R.1.refs.length d, .bool R.2]) ∧ RowAt 2 RfAt w' (fun _ => False) B R.1.refs ∧ R.1.refs.length ≤ 9223372036854775807 ∧ Below W.heap.size W w'
def BareTo (W : World) (rs : List Rl) (k : Nat) (M : List Value) : Prop := M.length = rs.length * 6 ∧ ∀ j (h : j < rs.length), j < k → ∃ cs, RlAt W (fun _ => False) (bareR rs[j]) cs ∧ ∀ q, q < 6 → M[j * 6 + q]? = cs[q]?
theorem BareTo.push {W : World} {rs : List Rl} {k : Nat} {M : List Value} (h : BareTo W rs k M) (hk : k < rs.length) {c0 c1 c2 c3 c4 c5 : Value} (hc : RlAt W (fun _ => False) (bareR rs[k]) [c0, c1, c2, c3, c4, c5]) :
    BareTo W rs (k + 1) ((((((M.set (k * 6) c0).set (k * 6 + 1) c1).set (k * 6 + 2) c2).set (k * 6 + 3) c3).set (k * 6 + 4) c4).set (k * 6 + 5) c5) := by
  obtain ⟨h1, h2⟩ := set6_get M k c0 c1 c2 c3 c4 c5 (by rw [h.1]; omega)
  refine ⟨by simp [h.1], fun j hj hjk => ?_⟩
  rcases Nat.lt_or_ge j k with hlt | hge
  · obtain ⟨cs, a, b⟩ := h.2 j hj hlt
    exact ⟨cs, a, fun q hq => by rw [h2 _ (by omega)]; exact b q hq⟩
  · obtain rfl : j = k := by omega
    exact ⟨_, hc, h1⟩
theorem BareTo.row {W w : World} {rs : List Rl} {M : List Value} {g : Nat} (h : BareTo W rs rs.length M) (hB : Blk w g M 58) (hb : Below W.heap.size W w) : RowAt 6 RlAt w (fun _ => False) (some ⟨g, 0, none⟩) (rs.map bareR) := by
  refine .inr ⟨g, 0, rfl, hB.lt, fun h => h, fun j hj => ?_⟩
  rw [List.length_map] at hj
  obtain ⟨cs, a, b⟩ := h.2 j hj hj
  rw [List.getElem_map]
  refine ⟨cs, a.below hb, fun i hi => ?_⟩
  have hlt : j * 6 + i < M.length := by rw [h.1]; omega
  rw [← b i hi, List.getElem?_eq_getElem hlt, Nat.zero_add]
  exact hB.cell hlt
theorem bare_at {W : World} {x : Rl} {A : Option Addr} {c : Nat} (hn : small x.name ∧ x.refs.length ≤ 9223372036854775807) (hr : RowAt 2 RfAt W (fun _ => False) A x.refs) :
    RlAt W (fun _ => False) (bareR x) [strV x.name, .slice A x.refs.length c, .int .i64 0, .string ⟨#[]⟩, .string ⟨#[]⟩, .slice none 0 0] :=
  ⟨A, c, _, rfl, hn, hr, by
    show ExAt W _ (.mk 0 [] [] []) _
    unfold ExAt
    exact ⟨none, 0, rfl, ⟨by unfold fitsI; omega, by unfold small; simp, by unfold small; simp, by simp⟩, .inl rfl⟩⟩
theorem bare_cp {rs : List Rl} (h : ∀ r ∈ rs, (r.name.length ≤ 281474976710656 ∧ r.refs.length ≤ 1000000) ∧ ∀ f ∈ r.refs, f.1.length ≤ 281474976710656 ∧ f.2.length ≤ 281474976710656) (t n : Txt) (hf : (findR [⟨t, rs.map bareR⟩] t n).2 = true) : cpR (findR [⟨t, rs.map bareR⟩] t n).1 := by
  rw [find_bare] at hf ⊢
  by_cases hk : relsN rs n < 0
  · rw [if_pos hk] at hf; cases hf
  rw [if_neg hk]
  rcases relsN_is rs n with h1 | ⟨j, hj, h1⟩
  · omega
  rw [h1, Int.toNat_natCast, List.getElem?_eq_getElem hj]
  show cpR (bareR rs[j])
  obtain ⟨a, b⟩ := h rs[j] (List.getElem_mem hj)
  refine ⟨a, b, ?_⟩
  show cpE (.mk 0 [] [] [])
  unfold cpE
  refine ⟨by simp, by simp, by simp, ?_⟩
  unfold cpL
  trivial
theorem typeT_mem {s : Sc} {n : Txt} : typeT s n = noTy ∨ typeT s n ∈ s := by
  unfold typeT
  split
  · exact .inl rfl
  cases h : s[(typN s n).toNat]? with
  | none => exact .inl rfl
  | some x => exact .inr (List.mem_of_getElem? h)
theorem ofT_typeT (s : Sc) (n : Txt) : ofT s (typN s n) = (typeT s n).rels := by
  unfold ofT typeT
  split
  · rfl
  cases s[(typN s n).toNat]? <;> rfl
theorem find_of (s : Sc) (t n : Txt) : (findR [⟨t, (typeT s t).rels.map bareR⟩] t n).1.refs = (findR s t n).1.refs ∧ (findR [⟨t, (typeT s t).rels.map bareR⟩] t n).2 = (findR s t n).2 := by
  rw [find_bare]
  unfold findR
  dsimp only
  unfold relN relAt
  rw [ofT_typeT]
  split <;> exact ⟨rfl, rfl⟩
set_option maxRecDepth 100000 in
set_option maxHeartbeats 4000000 in
theorem refsOf_any (s : Sc) (t n : Txt) (W : World) (F : Nat → Prop) (A : Option Addr) (c : Nat) (hs : ScAt W F A s) (hl : s.length ≤ 9223372036854775807) (hcp : cpS s) (ht : small t) :
    Calls Try.prog 26 #[.agg #[.slice A s.length c], strV t, strV n] W (RefsP W (findR s t n)) := by
  have hs0 : ScAt W (fun _ => False) A s := hs.moved (Spared.refl W F) (fun _ h => h.elim)
  obtain ⟨w0, hw0⟩ : ∃ w0, w0 = W.alloc (.cells #[.slice A s.length c] 24) := ⟨_, rfl⟩
  have hb0 : Below W.heap.size W w0 := by rw [hw0]; exact (Below.refl _ _).alloc (Nat.le_refl _) _
  have HT := Lib.hid (typeOf_any s t w0 (fun _ => False) A c (hs0.below hb0) hl)
  have hrl : (typeT s t).rels.length ≤ 1000000 ∧ ∀ r ∈ (typeT s t).rels, (r.name.length ≤ 281474976710656 ∧ r.refs.length ≤ 1000000) ∧ ∀ f ∈ r.refs, f.1.length ≤ 281474976710656 ∧ f.2.length ≤ 281474976710656 := by
    rcases typeT_mem (s := s) (n := t) with h | h
    · rw [h]; exact ⟨by simp [noTy], fun r hr => by simp [noTy] at hr⟩
    · exact hcp _ h
  obtain ⟨hf1, hf2⟩ := find_of s t n
  have HFN : Hid (∃ R, R = findR [⟨t, (typeT s t).rels.map bareR⟩] t n ∧ R.1.refs = (findR s t n).1.refs ∧ R.2 = (findR s t n).2) := ⟨_, rfl, hf1, hf2⟩
  have HCP := Lib.hid (bare_cp hrl.2 t n)
  have hrn := hrl.1
  have HB0 := Lib.hid hb0
  have HW0 := Lib.hid hw0
  unfold RefsP
  obtain ⟨R, hR⟩ : ∃ R, R = findR s t n := ⟨_, rfl⟩
  rw [← hR] at HFN ⊢
  unfold TypeP at HT
  generalize typeT s t = T at *
  obtain ⟨tn, rs⟩ := T
  generalize decide (0 ≤ typN s t) = ok at *
  dsimp only at HT HCP hrn HFN
  have hst := ht
  clear hf1 hf2 hrl hs hs0 hcp hb0 hw0 hR ht
  go_enter Try.func26, Try.ntmps26
  go_wp2_with (go_at_call 27; rw [← HW0.out]; (refine HT.out.mono ?_); rintro r w2 ⟨B, d, rfl, hT, hb2⟩; have HTA := Lib.hid hT; have HB2 := Lib.hid (HB0.out.trans (hb2.mono HB0.out.size)); obtain ⟨M0, hM0, hmk⟩ := make_rels rs.length hrn; have HM0 := Lib.hid hM0; clear hT hb2 hM0)
  have HTR : Hid (RowAt 6 RlAt w2 (fun _ => False) B rs) := by
    obtain ⟨B', d', he, _, hr⟩ := HTA.out
    injection he with e1 e2
    injection e2 with e2 _
    injection e2 with e3 _ _
    subst e3
    exact hr
  clear HTA HT
  go_loopw [28] (fun i wr => ∃ (k : Nat) (M : List Value), i = .int .i64 (k : Int) ∧ k ≤ rs.length ∧ Hid (Blk wr (w2.heap.size + 1) M 58) ∧ Hid (BareTo w2 rs k M) ∧ Hid (Below w2.heap.size w2 wr) ∧ Hid (Blk wr w2.heap.size [strV tn, .slice B rs.length d] 52)) (fun i _ => rs.length - (intOf i).toNat)
  case atStart =>
    refine ⟨0, M0, rfl, Nat.zero_le _, ?_, ⟨HM0.out, fun j _ h => absurd h (Nat.not_lt_zero _)⟩, ?_, ?_⟩
    · have := Blk.new (w2.alloc (.cells #[strV tn, .slice B rs.length d] 52)) M0 58
      rw [World.size_alloc] at this
      exact this
    · exact ((Below.refl _ _).alloc (Nat.le_refl _) _).alloc (by simp) _
    · exact (Blk.new w2 [strV tn, .slice B rs.length d] 52).alloc _
  case round =>
    clear hmk HM0
    obtain ⟨k, M, rfl, hk, HK, HD, HB, HY⟩ := hrel
    by_cases hlt : k < rs.length
    · obtain ⟨b, off, n1, A1, m1, c1, k1, p1, q1, E1, m2, c2, rfl, hRl, hcells⟩ := HTR.out.rel hlt
      obtain ⟨e0, e1, e2, e3, e4, e5⟩ := hcells wr HB.out
      have hbr : RlAt w2 (fun _ => False) (bareR rs[k]) [strV n1, .slice A1 m1 c1, .int .i64 0, .string ⟨#[]⟩, .string ⟨#[]⟩, .slice none 0 0] := by
        obtain ⟨A', c', es, he, hsm, hrr, _⟩ := hRl
        injection he with h1 h2
        injection h2 with h2 _
        injection h2 with h3 h4 h5
        subst h3 h4 h5
        rw [h1]
        exact bare_at hsm hrr
      have HD2 := Lib.hid (HD.out.push hlt hbr)
      have hlen := HD.out.1
      have l6 : k * 6 + 5 < M.length := by rw [hlen]; omega
      have z0 := HK.out.cell (i := k * 6) (by omega)
      have z1 := HK.out.cell (i := k * 6 + 1) (by omega)
      have z2 := HK.out.cell (i := k * 6 + 2) (by omega)
      have z3 := HK.out.cell (i := k * 6 + 3) (by omega)
      have z4 := HK.out.cell (i := k * 6 + 4) (by omega)
      have z5 := HK.out.cell (i := k * 6 + 5) (by omega)
      generalize M[k * 6] = y0 at z0
      generalize M[k * 6 + 1] = y1 at z1
      generalize M[k * 6 + 2] = y2 at z2
      generalize M[k * 6 + 3] = y3 at z3
      generalize M[k * 6 + 4] = y4 at z4
      generalize M[k * 6 + 5] = y5 at z5
      have f0 := HK.out.free (k * 6)
      have f1 := HK.out.free (k * 6 + 1)
      have f2 := HK.out.free (k * 6 + 2)
      have f3 := HK.out.free (k * 6 + 3)
      have f4 := HK.out.free (k * 6 + 4)
      have f5 := HK.out.free (k * 6 + 5)
      have hgo : w2.heap.size + 1 < wr.heap.size := HK.out.lt
      clear hRl hcells hbr hlen l6
      go_wp2_with fail
      go_roundw
      case rel =>
        refine ⟨k + 1, _, by go_num, by omega, Lib.hid (((((((HK.out.set _ _).set _ _).set _ _).set _ _).set _ _).set _ _).alloc _), HD2, ?_, ?_⟩
        · have hb1 := ((((((HB.out.setCell (p := ⟨w2.heap.size + 1, k * 6, none⟩) (by show w2.heap.size ≤ w2.heap.size + 1; omega) (strV n1)).setCell (p := ⟨w2.heap.size + 1, k * 6 + 1, none⟩) (by show w2.heap.size ≤ w2.heap.size + 1; omega) (.slice A1 m1 c1)).setCell (p := ⟨w2.heap.size + 1, k * 6 + 2, none⟩) (by show w2.heap.size ≤ w2.heap.size + 1; omega) (.int .i64 0)).setCell (p := ⟨w2.heap.size + 1, k * 6 + 3, none⟩) (by show w2.heap.size ≤ w2.heap.size + 1; omega) (.string ⟨#[]⟩)).setCell (p := ⟨w2.heap.size + 1, k * 6 + 4, none⟩) (by show w2.heap.size ≤ w2.heap.size + 1; omega) (.string ⟨#[]⟩)).setCell (p := ⟨w2.heap.size + 1, k * 6 + 5, none⟩) (by show w2.heap.size ≤ w2.heap.size + 1; omega) (.slice none 0 0))
          exact Lib.hid (hb1.alloc hb1.size _)
        · have ho : w2.heap.size ≠ w2.heap.size + 1 := by omega
          exact Lib.hid (((((((HY.out.other _ _ ho).other _ _ ho).other _ _ ho).other _ _ ho).other _ _ ho).other _ _ ho).alloc _)
      case measure => simp [intOf]; omega
    · obtain rfl : k = rs.length := by omega
      have HRW := Lib.hid (HD.out.row HK.out HB.out)
      obtain ⟨R2, hR2, g1, g2⟩ := HFN.out
      have HFD : Hid (Calls Try.prog 49 #[.agg #[.slice (some ⟨wr.heap.size, 0, none⟩) 1 1], strV t, strV n] (wr.alloc (.cells #[strV t, .slice (some ⟨w2.heap.size + 1, 0, none⟩) rs.length rs.length] 52)) (FoundP (wr.alloc (.cells #[strV t, .slice (some ⟨w2.heap.size + 1, 0, none⟩) rs.length rs.length] 52)) R2)) := by
        have hbw := (Below.refl wr.heap.size wr).alloc (Nat.le_refl _) (.cells #[strV t, .slice (some ⟨w2.heap.size + 1, 0, none⟩) rs.length rs.length] 52)
        have hrow : RowAt 6 RlAt (wr.alloc (.cells #[strV t, .slice (some ⟨w2.heap.size + 1, 0, none⟩) rs.length rs.length] 52)) (fun _ => False) (some ⟨w2.heap.size + 1, 0, none⟩) (rs.map bareR) :=
          HRW.out.moved (Spared.of_below hbw _) (fun _ h => .inl h) (fun _ _ _ h => h.below hbw)
        have hty : TyAt (wr.alloc (.cells #[strV t, .slice (some ⟨w2.heap.size + 1, 0, none⟩) rs.length rs.length] 52)) (fun _ => False) ⟨t, rs.map bareR⟩ [strV t, .slice (some ⟨w2.heap.size + 1, 0, none⟩) rs.length rs.length] :=
          ⟨_, _, by rw [List.length_map], ⟨⟨hst, by rw [List.length_map]; exact Nat.le_refl _⟩, by rw [List.length_map]; omega⟩, hrow⟩
        have hsc : ScAt (wr.alloc (.cells #[strV t, .slice (some ⟨w2.heap.size + 1, 0, none⟩) rs.length rs.length] 52)) (fun _ => False) (some ⟨wr.heap.size, 0, none⟩) [⟨t, rs.map bareR⟩] := by
          refine .inr ⟨wr.heap.size, 0, rfl, by simp, fun h => h, fun j hj => ?_⟩
          have hj0 : j = 0 := by simp at hj; omega
          subst hj0
          refine ⟨_, hty, fun i hi => ?_⟩
          have hBn := Blk.new wr [strV t, .slice (some ⟨w2.heap.size + 1, 0, none⟩) rs.length rs.length] 52
          rw [show 0 + 0 * 2 + i = i from by omega, List.getElem?_eq_getElem (show i < [strV t, Value.slice (some ⟨w2.heap.size + 1, 0, none⟩) rs.length rs.length].length from hi)]
          exact hBn.cell hi
        rw [hR2]
        exact find_any [⟨t, rs.map bareR⟩] t n _ _ _ 1 hsc (by simp) HCP.out
      have HB6 := Lib.hid (HB2.out.trans (HB.out.mono HB2.out.size))
      clear HRW hR2 HD HCP HFN HK
      go_wp2_with (go_at_call 49; (refine HFD.out.mono ?_); rintro r w6 ⟨cs, rfl, hR6, hb6⟩; obtain ⟨B7, c7, k7, n7, o7, E7, m7, d7, rfl, ⟨_, hl7⟩, hr7, _⟩ := hR6.six; have HR7 := Lib.hid hr7; have HL7 := Lib.hid hl7; have HB7 := Lib.hid (hop (HB6.out.alloc HB6.out.size _) hb6); clear hR6 hr7 hl7 hb6)
      go_ret2
      rw [← g1, ← g2]
      have hb8 := HB7.out.alloc HB7.out.size (.cells #[strV R2.1.name, .slice B7 R2.1.refs.length c7, .int .i64 k7, strV n7, strV o7, .slice E7 m7 d7] 58)
      have hb9 := (Below.refl w6.heap.size w6).alloc (Nat.le_refl _) (.cells #[strV R2.1.name, .slice B7 R2.1.refs.length c7, .int .i64 k7, strV n7, strV o7, .slice E7 m7 d7] 58)
      exact ⟨B7, c7, rfl, HR7.out.moved (Spared.of_below hb9 _) (fun _ h => .inl h) (fun _ _ _ h => h), HL7.out, hb8⟩
end Go.Proofs.Ytehabjiacgibpaa
namespace Go.Proofs.Ytehabjiacgibpaa
open Go.RowKit
theorem upp_any (c : UInt8) (w : World) : Calls Try.prog 91 #[.int .u8 (c.toNat : Int)] w fun e w' => e = .returned (.bool (uppB c)) ∧ Below w.heap.size w w' := by
  unfold uppB
  have hx := c.toNat_lt
  generalize c.toNat = x at *
  obtain ⟨v, hv⟩ : ∃ v, v = (decide (65 ≤ x) && decide (x ≤ 90)) := ⟨_, rfl⟩
  have hc : (x < 65 ∧ Hid (v = false)) ∨ (65 ≤ x ∧ x ≤ 90 ∧ decide ((x : Int) ≤ 90) = true ∧ Hid (v = true)) ∨ (65 ≤ x ∧ 90 < x ∧ decide ((x : Int) ≤ 90) = false ∧ Hid (v = false)) := by
    by_cases h1 : 65 ≤ x
    · by_cases h2 : x ≤ 90
      · exact .inr (.inl ⟨h1, h2, decide_eq_true (by omega), Lib.hid (by rw [hv, decide_eq_true h1, decide_eq_true h2]; rfl)⟩)
      · exact .inr (.inr ⟨h1, by omega, decide_eq_false (by omega), Lib.hid (by rw [hv, decide_eq_false h2, Bool.and_false])⟩)
    · exact .inl ⟨by omega, Lib.hid (by rw [hv, decide_eq_false h1, Bool.false_and])⟩
  rw [← hv]
  clear hv
  rcases hc with ⟨h1, H⟩ | ⟨h1, h2, h3, H⟩ | ⟨h1, h2, h3, H⟩
  all_goals go_enter Try.func91, Try.ntmps91
  all_goals go_wp2_with fail
  all_goals go_ret
  all_goals exact ⟨by rw [H.out]; first | rfl | (simp [h3]; done), Below.refl _ _⟩
theorem idC_any (c : UInt8) (w : World) : Calls Try.prog 90 #[.int .u8 (c.toNat : Int)] w fun e w' => e = .returned (.bool (idB c)) ∧ Below w.heap.size w w' := by
  have HL := Lib.hid (fun W => low_any c W)
  have HU := Lib.hid (fun W => upp_any c W)
  have HD := Lib.hid (fun W => dig_any c W)
  unfold idB
  have hx := c.toNat_lt
  generalize lowB c = a at *
  generalize uppB c = b at *
  generalize numB c = d at *
  generalize c.toNat = x at *
  cases a
  · cases b
    · cases d
      · by_cases h95 : x = 95
        · skip
          subst h95
          have HL2 : Hid (∀ W, Calls Try.prog 82 #[.int .u8 95] W fun e w' => e = .returned (.bool false) ∧ Below W.heap.size W w') := HL
          have HU2 : Hid (∀ W, Calls Try.prog 91 #[.int .u8 95] W fun e w' => e = .returned (.bool false) ∧ Below W.heap.size W w') := HU
          have HD2 : Hid (∀ W, Calls Try.prog 83 #[.int .u8 95] W fun e w' => e = .returned (.bool false) ∧ Below W.heap.size W w') := HD
          clear HL HU HD
          show Calls _ _ #[.int .u8 95] _ _
          go_enter Try.func90, Try.ntmps90
          go_wp2_with (first
            | (go_at_call 82; with_reducible refine (HL2.out _).mono ?_; rintro e w1 ⟨rfl, hb1⟩; have HB1 := Lib.hid hb1; clear hb1)
            | (go_at_call 91; with_reducible refine (HU2.out _).mono ?_; rintro e w2 ⟨rfl, hb2⟩; have HB2 := Lib.hid (hop HB1.out hb2); clear hb2)
            | (go_at_call 83; with_reducible refine (HD2.out _).mono ?_; rintro e w3 ⟨rfl, hb3⟩; have HB3 := Lib.hid (hop HB2.out hb3); clear hb3))
          go_ret
          exact ⟨rfl, HB3.out⟩
        · by_cases h46 : x = 46
          · skip
            subst h46
            have HL2 : Hid (∀ W, Calls Try.prog 82 #[.int .u8 46] W fun e w' => e = .returned (.bool false) ∧ Below W.heap.size W w') := HL
            have HU2 : Hid (∀ W, Calls Try.prog 91 #[.int .u8 46] W fun e w' => e = .returned (.bool false) ∧ Below W.heap.size W w') := HU
            have HD2 : Hid (∀ W, Calls Try.prog 83 #[.int .u8 46] W fun e w' => e = .returned (.bool false) ∧ Below W.heap.size W w') := HD
            clear HL HU HD
            show Calls _ _ #[.int .u8 46] _ _
            go_enter Try.func90, Try.ntmps90
            go_wp2_with (first
              | (go_at_call 82; with_reducible refine (HL2.out _).mono ?_; rintro e w1 ⟨rfl, hb1⟩; have HB1 := Lib.hid hb1; clear hb1)
              | (go_at_call 91; with_reducible refine (HU2.out _).mono ?_; rintro e w2 ⟨rfl, hb2⟩; have HB2 := Lib.hid (hop HB1.out hb2); clear hb2)
              | (go_at_call 83; with_reducible refine (HD2.out _).mono ?_; rintro e w3 ⟨rfl, hb3⟩; have HB3 := Lib.hid (hop HB2.out hb3); clear hb3))
            go_ret
            exact ⟨rfl, HB3.out⟩
          · by_cases h45 : x = 45
            · skip
              subst h45
              have HL2 : Hid (∀ W, Calls Try.prog 82 #[.int .u8 45] W fun e w' => e = .returned (.bool false) ∧ Below W.heap.size W w') := HL
              have HU2 : Hid (∀ W, Calls Try.prog 91 #[.int .u8 45] W fun e w' => e = .returned (.bool false) ∧ Below W.heap.size W w') := HU
              have HD2 : Hid (∀ W, Calls Try.prog 83 #[.int .u8 45] W fun e w' => e = .returned (.bool false) ∧ Below W.heap.size W w') := HD
              clear HL HU HD
              show Calls _ _ #[.int .u8 45] _ _
              go_enter Try.func90, Try.ntmps90
              go_wp2_with (first
                | (go_at_call 82; with_reducible refine (HL2.out _).mono ?_; rintro e w1 ⟨rfl, hb1⟩; have HB1 := Lib.hid hb1; clear hb1)
                | (go_at_call 91; with_reducible refine (HU2.out _).mono ?_; rintro e w2 ⟨rfl, hb2⟩; have HB2 := Lib.hid (hop HB1.out hb2); clear hb2)
                | (go_at_call 83; with_reducible refine (HD2.out _).mono ?_; rintro e w3 ⟨rfl, hb3⟩; have HB3 := Lib.hid (hop HB2.out hb3); clear hb3))
              go_ret
              exact ⟨rfl, HB3.out⟩
            · have e1 : ¬ (x : Int) = 95 := by omega
              have e2 : ¬ (x : Int) = 46 := by omega
              have e3 : ¬ (x : Int) = 45 := by omega
              rw [decide_eq_false h95, decide_eq_false h46, decide_eq_false h45]
              clear h95 h46 h45
              go_enter Try.func90, Try.ntmps90
              go_wp2_with (first
                | (go_at_call 82; with_reducible refine (HL.out _).mono ?_; rintro e w1 ⟨rfl, hb1⟩; have HB1 := Lib.hid hb1; clear hb1)
                | (go_at_call 91; with_reducible refine (HU.out _).mono ?_; rintro e w2 ⟨rfl, hb2⟩; have HB2 := Lib.hid (hop HB1.out hb2); clear hb2)
                | (go_at_call 83; with_reducible refine (HD.out _).mono ?_; rintro e w3 ⟨rfl, hb3⟩; have HB3 := Lib.hid (hop HB2.out hb3); clear hb3))
              go_ret
              exact ⟨by simp [e1, e2, e3], HB3.out⟩
      · go_enter Try.func90, Try.ntmps90
        go_wp2_with (first
          | (go_at_call 82; with_reducible refine (HL.out _).mono ?_; rintro e w1 ⟨rfl, hb1⟩; have HB1 := Lib.hid hb1; clear hb1)
          | (go_at_call 91; with_reducible refine (HU.out _).mono ?_; rintro e w2 ⟨rfl, hb2⟩; have HB2 := Lib.hid (hop HB1.out hb2); clear hb2)
          | (go_at_call 83; with_reducible refine (HD.out _).mono ?_; rintro e w3 ⟨rfl, hb3⟩; have HB3 := Lib.hid (hop HB2.out hb3); clear hb3))
        go_ret
        exact ⟨rfl, HB3.out⟩
    · go_enter Try.func90, Try.ntmps90
      go_wp2_with (first
        | (go_at_call 82; with_reducible refine (HL.out _).mono ?_; rintro e w1 ⟨rfl, hb1⟩; have HB1 := Lib.hid hb1; clear hb1)
        | (go_at_call 91; with_reducible refine (HU.out _).mono ?_; rintro e w2 ⟨rfl, hb2⟩; have HB2 := Lib.hid (hop HB1.out hb2); clear hb2)
        | (go_at_call 83; with_reducible refine (HD.out _).mono ?_; rintro e w3 ⟨rfl, hb3⟩; have HB3 := Lib.hid (hop HB2.out hb3); clear hb3))
      go_ret
      exact ⟨rfl, HB2.out⟩
  · go_enter Try.func90, Try.ntmps90
    go_wp2_with (go_at_call 82; with_reducible refine (HL.out _).mono ?_; rintro e w1 ⟨rfl, hb1⟩; have HB1 := Lib.hid hb1; clear hb1)
    go_ret
    exact ⟨rfl, HB1.out⟩
theorem idL_of (l : List UInt8) : idL l = consL idB 24 l := rfl
theorem enter_idC (args : Array Value) (w : World) : (callFunc 90 args).run Try.prog w = .ok (.enter 90 args) w := by simp [go_sem]
theorem id_of (s : ByteArray) (w : World) (hm : s.size ≤ 9223372036854775807) :
    Calls Try.prog 79 #[.string s] w fun e w' => e = .returned (.bool (idL s.data.toList)) ∧ Below w.heap.size w w' := by
  rw [idL_of]
  have hC := fun W => consists_any 90 idB 24 s W enter_idC hm (by omega) (fun W c => idC_any c W)
  generalize consL idB 24 s.data.toList = x at *
  have HC : Hid (∀ W, Calls Try.prog 80 #[.string s, .int .i64 24, .func (.func 90) #[] #[]] W fun e w' => e = .returned (.bool x) ∧ Below W.heap.size W w') := Lib.hid hC
  clear hC
  go_enter Try.func79, Try.ntmps79
  go_wp2_with (go_at_call 80; with_reducible refine (HC.out _).mono ?_; rintro e w1 ⟨rfl, hb1⟩; have HB1 := Lib.hid hb1; clear hb1)
  go_ret
  exact ⟨rfl, HB1.out⟩
theorem nid_any (l : Txt) (w : World) (hm : l.length ≤ 9223372036854775807) :
    Calls Try.prog 79 #[strV l] w fun e w' => e = .returned (.bool (idL l)) ∧ Below w.heap.size w w' := by
  have h := id_of ⟨l.toArray⟩ w (by simpa [ByteArray.size] using hm)
  simpa using h
end Go.Proofs.Ytehabjiacgibpaa
namespace Go.Proofs.Ytehabjiacgibpaa
open Go.RowKit
set_option maxHeartbeats 400000 in
theorem refID_any (s : ByteArray) (w : World) (hm : s.size ≤ 9223372036854775807) :
    Calls Try.prog 59 #[.string s] w fun e w' => e = .returned (.bool (idL s.data.toList)) ∧ w = w' := by
  by_cases hb : s.data.toList.length = 0 ∨ 24 < s.data.toList.length
  · rw [id_bad hb]
    rw [size_list] at hb
    by_cases h0 : s = ByteArray.empty
    · subst h0
      clear hb
      go_enter Try.func59, Try.ntmps59
      go_wp2_with fail
      all_goals go_ret
      all_goals exact ⟨rfl, rfl⟩
    · have h1 : 24 < s.size := by
        rcases hb with h | h
        · exact absurd ((empty_iff s).2 (by rw [size_list]; exact h)) h0
        · exact h
      clear hb
      go_enter Try.func59, Try.ntmps59
      go_wp2_with fail
      all_goals go_ret
      all_goals exact ⟨rfl, rfl⟩
  obtain ⟨h0, h1, h2, h3⟩ := id_fine s hb
  have HB := Lib.hid hb
  clear hb
  go_enter Try.func59, Try.ntmps59
  go_wp2_with fail
  go_loop [3] (fun i => ∃ k : Nat, k ≤ s.size ∧ i = .int .i64 k ∧ Hid ((s.data.toList.take k).all idB = true)) (fun i => s.size - (intOf i).toNat)
  case atStart => exact ⟨0, by omega, rfl, Lib.hid rfl⟩
  case round =>
    obtain ⟨k, hk, rfl, H⟩ := hrel
    by_cases hlt : k < s.size
    · have hx := s[k].toNat_lt
      have HN := Lib.hid (all_next (p := idB) s k hlt H.out)
      rcases id_class s[k].toNat with hc | hc | hc | hc | hc | hc | ⟨hc, ⟨n1, m1⟩, ⟨n2, m2⟩, ⟨n3, m3⟩⟩
      case inr.inr.inr.inr.inr.inr =>
        have HG : Hid (idL s.data.toList = false) := Lib.hid (id_other H.out hlt (id_no (by omega) n1 n2 n3))
        clear HN H
        rcases hc with c1 | ⟨c1, c2, c3, c4⟩ | ⟨c1, c2, c3, c4, c5, c6, c7⟩ | ⟨c1, c2, c3, c4, c5, c6, c7, c8, c9⟩
        all_goals go_wp2_with fail
        all_goals go_ret
        all_goals exact ⟨by rw [HG.out]; rfl, rfl⟩
      case inl =>
        have HG := Lib.hid (HN.out.1 (id_yes (.inl hc)))
        obtain ⟨d1, d2⟩ := hc
        clear HN
        go_wp2_with fail
        go_round
        case rel => exact ⟨k + 1, by omega, by go_num, HG⟩
        case measure => simp [intOf]; omega
      case inr.inl =>
        have HG := Lib.hid (HN.out.1 (id_yes (.inr (.inl hc))))
        obtain ⟨d1, d2⟩ := hc
        clear HN
        go_wp2_with fail
        go_round
        case rel => exact ⟨k + 1, by omega, by go_num, HG⟩
        case measure => simp [intOf]; omega
      case inr.inr.inl =>
        have HG := Lib.hid (HN.out.1 (id_yes (.inr (.inr (.inl hc)))))
        obtain ⟨d1, d2⟩ := hc
        clear HN
        go_wp2_with fail
        go_round
        case rel => exact ⟨k + 1, by omega, by go_num, HG⟩
        case measure => simp [intOf]; omega
      case inr.inr.inr.inl =>
        have HG := Lib.hid (HN.out.1 (id_yes (.inr (.inr (.inr (.inl hc))))))
        clear HN
        go_wp2_with fail
        go_round
        case rel => exact ⟨k + 1, by omega, by go_num, HG⟩
        case measure => simp [intOf]; omega
      case inr.inr.inr.inr.inl =>
        have HG := Lib.hid (HN.out.1 (id_yes (.inr (.inr (.inr (.inr (.inl hc)))))))
        clear HN
        go_wp2_with fail
        go_round
        case rel => exact ⟨k + 1, by omega, by go_num, HG⟩
        case measure => simp [intOf]; omega
      case inr.inr.inr.inr.inr.inl =>
        have HG := Lib.hid (HN.out.1 (id_yes (.inr (.inr (.inr (.inr (.inr hc)))))))
        clear HN
        go_wp2_with fail
        go_round
        case rel => exact ⟨k + 1, by omega, by go_num, HG⟩
        case measure => simp [intOf]; omega
    · have HG : Hid (idL s.data.toList = true) := Lib.hid (id_done H.out hlt HB.out)
      go_wp2_with fail
      all_goals go_ret
      all_goals exact ⟨by rw [HG.out]; rfl, rfl⟩
end Go.Proofs.Ytehabjiacgibpaa
namespace Go.Proofs.Ytehabjiacgibpaa
open Go.RowKit
def CutTo (s : ByteArray) (c : UInt8) (k : Nat) : Prop := ∀ j (hj : j < k) (h : j < s.size), s[j] ≠ c
theorem CutTo.next {s : ByteArray} {c : UInt8} {k : Nat} (H : CutTo s c k) (h : k < s.size) (hc : s[k] ≠ c) : CutTo s c (k + 1) := by
  intro j hj h2
  by_cases hjk : j < k
  · exact H j hjk h2
  · obtain rfl : j = k := by omega
    exact hc
theorem CutTo.at_ {s : ByteArray} {c : UInt8} {k : Nat} (H : CutTo s c k) (h : k < s.size) (hc : s[k] = c) :
    cutL s.data.toList c = (s.data.toList.take k, s.data.toList.drop (k + 1), true) :=
  cutL_at _ c k (by simpa using h) hc (fun j hj => H j hj (by omega))
theorem CutTo.none {s : ByteArray} {c : UInt8} {k : Nat} (H : CutTo s c k) (h : ¬ k < s.size) : cutL s.data.toList c = (s.data.toList, [], false) :=
  cutL_none _ c (fun j hj => by have h2 : j < s.size := by simpa using hj
                                exact H j (by omega) h2)
theorem ahead_is (s : ByteArray) (k : Nat) : s.extract 0 k = ⟨(s.data.toList.take k).toArray⟩ := by rw [extract_list]; rfl
theorem behind_is (s : ByteArray) (k : Nat) : s.extract k s.size = ⟨(s.data.toList.drop k).toArray⟩ := by
  rw [extract_list, List.take_of_length_le (by simp)]
set_option maxHeartbeats 400000 in
theorem refCut_any (s : ByteArray) (c : UInt8) (w : World) (hm : s.size ≤ 9223372036854775807) :
    Calls Try.prog 65 #[.string s, .int .u8 (c.toNat : Int)] w fun e w' =>
      e = .returned (.tuple #[strV (cutL s.data.toList c).1, strV (cutL s.data.toList c).2.1, .bool (cutL s.data.toList c).2.2]) ∧ Below w.heap.size w w' := by
  go_enter Try.func65, Try.ntmps65
  go_wp2_with fail
  go_loop [7] (fun i => ∃ k : Nat, k ≤ s.size ∧ i = .int .i64 k ∧ Hid (CutTo s c k)) (fun i => s.size - (intOf i).toNat)
  case atStart => exact ⟨0, by omega, rfl, Lib.hid (fun j hj => absurd hj (by omega))⟩
  case round =>
    obtain ⟨k, hk, rfl, H⟩ := hrel
    by_cases hlt : k < s.size
    · have hx := s[k].toNat_lt
      by_cases hc : s[k] = c
      · have HG := Lib.hid (H.out.at_ hlt hc)
        have e1 : (s[k].toNat : Int) = (c.toNat : Int) := by rw [hc]
        clear hc
        go_wp2_with fail
        go_quiet (fail)
        go_wp2_with fail
        go_ret3
        refine ⟨?_, below_drewN (Below.refl _ _) _⟩
        rw [HG.out]
        show _ = Ending.returned (.tuple #[.string ⟨(s.data.toList.take k).toArray⟩, .string ⟨(s.data.toList.drop (k + 1)).toArray⟩, .bool true])
        rw [← ahead_is, ← behind_is]
        rfl
      · have HG := Lib.hid (H.out.next hlt hc)
        have e1 : ¬ (s[k].toNat : Int) = (c.toNat : Int) := fun h => hc (UInt8.toNat_inj.1 (by omega))
        clear hc
        go_wp2_with fail
        go_round
        case rel => exact ⟨k + 1, by omega, by go_num, HG⟩
        case measure => simp [intOf]; omega
    · have HG := Lib.hid (H.out.none hlt)
      go_wp2_with fail
      go_ret3
      refine ⟨?_, Below.refl _ _⟩
      rw [HG.out]
      show _ = Ending.returned (.tuple #[.string ⟨s.data.toList.toArray⟩, .string ⟨#[]⟩, .bool false])
      rw [← of_list s]
      rfl
end Go.Proofs.Ytehabjiacgibpaa
namespace Go.Proofs.Ytehabjiacgibpaa
open Go.RowKit
def objL (l : Txt) : Option (Txt × Txt) := if (cutL l 58).2.2 && nameL (cutL l 58).1 && idL (cutL l 58).2.1 then some ((cutL l 58).1, (cutL l 58).2.1) else none
def objV : Option (Txt × Txt) → Value
  | none => .agg #[strV [], strV []]
  | some o => .agg #[strV o.1, strV o.2]
theorem refID_txt (l : Txt) (w : World) (hm : l.length ≤ 9223372036854775807) :
    Calls Try.prog 59 #[strV l] w fun e w' => e = .returned (.bool (idL l)) ∧ w = w' := by
  have h := refID_any ⟨l.toArray⟩ w (by simpa [ByteArray.size] using hm)
  simpa using h
theorem refCut_txt (l : Txt) (c : UInt8) (w : World) (hm : l.length ≤ 9223372036854775807) :
    Calls Try.prog 65 #[strV l, .int .u8 (c.toNat : Int)] w fun e w' =>
      e = .returned (.tuple #[strV (cutL l c).1, strV (cutL l c).2.1, .bool (cutL l c).2.2]) ∧ Below w.heap.size w w' := by
  have h := refCut_any ⟨l.toArray⟩ c w (by simpa [ByteArray.size] using hm)
  simpa using h
theorem cutL_len (l : Txt) (c : UInt8) : (cutL l c).1.length ≤ l.length ∧ (cutL l c).2.1.length ≤ l.length := by
  induction l with
  | nil => exact ⟨Nat.le_refl _, Nat.le_refl _⟩
  | cons x r ih =>
    unfold cutL
    by_cases hx : x = c
    · rw [if_pos hx]; exact ⟨Nat.zero_le _, Nat.le_succ _⟩
    · rw [if_neg hx]; simp only [List.length_cons]; omega
set_option maxHeartbeats 400000 in
theorem refObject_any (l : Txt) (w : World) (hm : l.length ≤ 9223372036854775807) :
    Calls Try.prog 66 #[strV l] w fun e w' =>
      e = .returned (.tuple #[objV (objL l), .bool (objL l).isSome]) ∧ Below w.heap.size w w' := by
  obtain ⟨p, hp⟩ : ∃ p, p = (cutL l 58).1 := ⟨_, rfl⟩
  obtain ⟨q, hq⟩ : ∃ q, q = (cutL l 58).2.1 := ⟨_, rfl⟩
  obtain ⟨b, hb⟩ : ∃ b, b = (cutL l 58).2.2 := ⟨_, rfl⟩
  have hL := cutL_len l 58
  have hCUT := fun W => refCut_txt l 58 W hm
  simp only [show ((58 : UInt8).toNat : Int) = 58 from rfl] at hCUT
  unfold objL
  rw [← hp, ← hq] at hL
  simp only [← hp, ← hq, ← hb] at hCUT
  rw [← hp, ← hq, ← hb]
  have HC := Lib.hid hCUT
  have hN := fun W => refName_txt p W (by omega)
  have hI := fun W => refID_txt q W (by omega)
  clear hp hq hb hL hCUT
  generalize nameL p = x at *
  generalize idL q = y at *
  have HN := Lib.hid hN
  have HI := Lib.hid hI
  clear hN hI
  have hcase : (b = false ∨ (b = true ∧ x = false) ∨ (b = true ∧ x = true ∧ y = false)) ∨ (b = true ∧ x = true ∧ y = true) := by cases b <;> cases x <;> cases y <;> decide
  rcases hcase with hbad | ⟨rfl, rfl, rfl⟩
  · rw [show (b && x && y) = false by rcases hbad with rfl | ⟨rfl, rfl⟩ | ⟨rfl, rfl, rfl⟩ <;> simp, if_neg (by decide)]
    rcases hbad with rfl | ⟨rfl, rfl⟩ | ⟨rfl, rfl, rfl⟩
    all_goals go_enter Try.func66, Try.ntmps66
    all_goals go_wp2_with (first
      | (go_at_call 65; refine (HC.out _).mono ?_; rintro e w1 ⟨rfl, hb1⟩; have hbk := (Blk.new w [strV [], strV []] 26).below hb1 (by simp); have y0 := hbk.cell (i := 0) (by simp); have y1 := hbk.cell (i := 1) (by simp); have f0 := hbk.free 0; have f1 := hbk.free 1; have HB1 := Lib.hid (((Below.refl w.heap.size w).alloc (Nat.le_refl _) _).trans (hb1.mono (by simp))); clear hb1 hbk)
      | (go_at_call 40; with_reducible refine (HN.out _).mono ?_; rintro e w2 ⟨rfl, rfl⟩)
      | (go_at_call 59; with_reducible refine (HI.out _).mono ?_; rintro e w3 ⟨rfl, rfl⟩))
    all_goals refine bodyPost_ret (v := .tuple #[.agg #[strV [], strV []], .bool false]) (by simp [results, Try.results66, go_sem, y0, y1]) rfl ?_
    all_goals exact ⟨rfl, (HB1.out.setCell (Nat.le_refl _) _).setCell (Nat.le_refl _) _⟩
  · rw [show (true && true && true) = true from rfl, if_pos rfl]
    go_enter Try.func66, Try.ntmps66
    go_wp2_with (first
      | (go_at_call 65; refine (HC.out _).mono ?_; rintro e w1 ⟨rfl, hb1⟩; have hbk := (Blk.new w [strV [], strV []] 26).below hb1 (by simp); have y0 := hbk.cell (i := 0) (by simp); have y1 := hbk.cell (i := 1) (by simp); have f0 := hbk.free 0; have f1 := hbk.free 1; have HB1 := Lib.hid (((Below.refl w.heap.size w).alloc (Nat.le_refl _) _).trans (hb1.mono (by simp))); clear hb1 hbk)
      | (go_at_call 40; with_reducible refine (HN.out _).mono ?_; rintro e w2 ⟨rfl, rfl⟩)
      | (go_at_call 59; with_reducible refine (HI.out _).mono ?_; rintro e w3 ⟨rfl, rfl⟩))
    refine bodyPost_ret (v := .tuple #[.agg #[strV p, strV q], .bool true]) (by simp [results, Try.results66, go_sem, y0, y1]) rfl ?_
    exact ⟨rfl, (HB1.out.setCell (Nat.le_refl _) _).setCell (Nat.le_refl _) _⟩
end Go.Proofs.Ytehabjiacgibpaa
