/-
  A relation by its names (conciergeref12's Find). Condition: the schema is there.
-/
import Derived.Test.YtehabjiacgibpaaCRoO
import Derived.Test.YtehabjiacgibpaaCRuF0
namespace Go.Proofs.Ytehabjiacgibpaa
open Go.RowKit
def FoundAs (W : World) (F : Nat → Prop) (R : Rl × Bool) (e : Ending) (w' : World) : Prop := ∃ cs : List Value, e = .returned (.tuple #[.agg cs.toArray, .bool R.2]) ∧ RlAt w' F R.1 cs ∧ Below W.heap.size W w'
set_option maxRecDepth 100000 in
set_option maxHeartbeats 2000000 in
theorem rfind_any (s : Sc) (t n : Txt) (W : World) (F : Nat → Prop) (A : Option Addr) (c : Nat) (hs : ScAt W F A s) (hl : s.length ≤ 9223372036854775807) :
    Calls Try.prog 29 #[.agg #[.slice A s.length c], strV t, strV n] W (FoundAs W F (findR s t n)) := by
  obtain ⟨R, hR⟩ : ∃ R, R = findR s t n := ⟨_, rfl⟩
  rw [← hR]
  unfold findR at hR
  dsimp only at hR
  obtain ⟨W1, hW⟩ : ∃ W1, W1 = (W.alloc (.cells #[.slice A s.length c] 24)).alloc (.cells #[.string ⟨#[]⟩, .slice none 0 0, .int .i64 0, .string ⟨#[]⟩, .string ⟨#[]⟩, .slice none 0 0] 58) := ⟨_, rfl⟩
  have HKA : Hid (Blk W1 W.heap.size [.slice A s.length c] 24) := by rw [hW]; exact Lib.hid ((Blk.new W _ _).alloc _)
  have HKE : Hid (Blk W1 (W.heap.size + 1) [.string ⟨#[]⟩, .slice none 0 0, .int .i64 0, .string ⟨#[]⟩, .string ⟨#[]⟩, .slice none 0 0] 58) := by
    rw [hW]
    have := Blk.new (W.alloc (.cells #[.slice A s.length c] 24)) [.string ⟨#[]⟩, .slice none 0 0, .int .i64 0, .string ⟨#[]⟩, .string ⟨#[]⟩, .slice none 0 0] 58
    rw [World.size_alloc] at this
    exact Lib.hid this
  have HB0 : Hid (Below W.heap.size W W1) := by rw [hW]; exact Lib.hid (((Below.refl _ _).alloc (Nat.le_refl _) _).alloc (by simp) _)
  have HW := Lib.hid hW
  have HRV := Lib.hid hR
  have HX : Hid (∀ w, Below W1.heap.size W1 w → w.cell? ⟨W.heap.size, 0, none⟩ = some (.slice A s.length c)) := Lib.hid (fun w hw => (HKA.out.below hw HKA.out.lt).cell (i := 0) (by simp))
  have HZ : Hid (∀ w, Below W1.heap.size W1 w → Blk w (W.heap.size + 1) [.string ⟨#[]⟩, .slice none 0 0, .int .i64 0, .string ⟨#[]⟩, .string ⟨#[]⟩, .slice none 0 0] 58) := Lib.hid (fun w hw => HKE.out.below hw HKE.out.lt)
  have HF : Hid (∀ w, Below W1.heap.size W1 w → Below W.heap.size W w) := Lib.hid (fun w hw => HB0.out.trans (hw.mono HB0.out.size))
  have HS : Hid (∀ w, Below W1.heap.size W1 w → ScAt w F A s) := Lib.hid (fun w hw => hs.below (HF.out w hw))
  have HSR : Hid (RowAt 2 TyAt W F A s) := Lib.hid hs
  have HT := Lib.hid (rtyp_any s t W1 F A c (HS.out W1 (Below.refl _ _)) hl)
  have HTI := Lib.hid (typN_is s t)
  have HRC := Lib.hid (fun w (hw : Below W1.heap.size W1 w) => rrel_any s (typN s t) n w F A c (HS.out w hw) hl (typN_no s t))
  have HRI := Lib.hid (relsN_is (ofT s (typN s t)) n)
  have HRN : Hid (relN s (typN s t) n = relsN (ofT s (typN s t)) n) := Lib.hid rfl
  clear hW hs hR
  unfold relAt at HRV
  generalize typN s t = ty at *
  generalize relN s ty n = rk at *
  rw [← HRN.out] at HRI
  by_cases hneg : rk < 0
  · have HR2 : Hid (R = (noRel, false)) := Lib.hid (by rw [HRV.out, if_pos hneg])
    go_enter Try.func29, Try.ntmps29
    go_wp2_with (first
      | (go_at_call 53; rw [← HW.out]; refine HT.out.mono ?_; rintro r w2 ⟨rfl, hb2⟩; have HB2 := Lib.hid hb2; have x2 := HX.out w2 hb2; have HRC2 := Lib.hid (HRC.out w2 hb2); clear hb2)
      | (go_at_call 54; refine HRC2.out.mono ?_; rintro r w3 ⟨rfl, hb3⟩; have HB3 := Lib.hid (hop HB2.out hb3); have hz := HZ.out w3 HB3.out; have v0 := hz.cell (i := 0) (by simp); have v1 := hz.cell (i := 1) (by simp); have v2 := hz.cell (i := 2) (by simp); have v3 := hz.cell (i := 3) (by simp); have v4 := hz.cell (i := 4) (by simp); have v5 := hz.cell (i := 5) (by simp); simp only [List.getElem_cons_succ, List.getElem_cons_zero] at v0 v1 v2 v3 v4 v5; have f0 := hz.free 0; have f1 := hz.free 1; have f2 := hz.free 2; have f3 := hz.free 3; have f4 := hz.free 4; have f5 := hz.free 5; clear hz hb3))
    refine bodyPost_ret (v := .tuple #[.agg #[.string ⟨#[]⟩, .slice none 0 0, .int .i64 0, .string ⟨#[]⟩, .string ⟨#[]⟩, .slice none 0 0], .bool false]) (by simp [results, Try.results29, go_sem, v0, v1, v2, v3, v4, v5]) rfl ?_
    rw [HR2.out]
    exact ⟨[.string ⟨#[]⟩, .slice none 0 0, .int .i64 0, .string ⟨#[]⟩, .string ⟨#[]⟩, .slice none 0 0], rfl, noRel_at _ _, ((((((HF.out w3 HB3.out).setCell (p := ⟨W.heap.size + 1, 0, none⟩) (Nat.le_succ _) _).setCell (p := ⟨W.heap.size + 1, 1, none⟩) (Nat.le_succ _) _).setCell (p := ⟨W.heap.size + 1, 2, none⟩) (Nat.le_succ _) _).setCell (p := ⟨W.heap.size + 1, 3, none⟩) (Nat.le_succ _) _).setCell (p := ⟨W.heap.size + 1, 4, none⟩) (Nat.le_succ _) _).setCell (p := ⟨W.heap.size + 1, 5, none⟩) (Nat.le_succ _) _⟩
  obtain ⟨k, hk, rfl⟩ : ∃ k, k < (ofT s ty).length ∧ rk = (k : Int) := by
    rcases HRI.out with h | h
    · omega
    · exact h
  obtain ⟨y, hy, rfl⟩ : ∃ y, y < s.length ∧ ty = (y : Int) := by
    rcases HTI.out with h | h
    · rw [h, ofT_neg (by decide)] at hk; simp at hk
    · exact h
  have hof := ofT_at hy
  rw [hof] at hk
  have HR2 : Hid (R = (s[y].rels[k], true)) := Lib.hid (by rw [HRV.out, if_neg hneg, hof, Int.toNat_natCast, List.getElem?_eq_getElem hk]; rfl)
  clear hneg
  have hnn : ¬ ((k : Int) < 0) := by omega
  obtain ⟨b, off, B, d, rfl, ⟨_, hrl⟩, hr, hc⟩ := HSR.out.ty hy
  obtain ⟨g, og, n1, B1, m1, c1, k1, p1, q1, E1, m2, c2, rfl, hE, hcells⟩ := RowAt.rel hr hk
  have HCT := Lib.hid (fun w hw => (hc w hw).2)
  have HCE := Lib.hid hcells
  have HEE := Lib.hid hE
  generalize s[y].rels[k] = x at *
  generalize s[y].rels = rs at *
  clear hc hcells hE hr hof
  go_enter Try.func29, Try.ntmps29
  go_wp2_with (first
    | (go_at_call 53; rw [← HW.out]; refine HT.out.mono ?_; rintro r w2 ⟨rfl, hb2⟩; have HB2 := Lib.hid hb2; have x2 := HX.out w2 hb2; have HRC2 := Lib.hid (HRC.out w2 hb2); clear hb2)
    | (go_at_call 54; refine HRC2.out.mono ?_; rintro r w3 ⟨rfl, hb3⟩; have HB3 := Lib.hid (hop HB2.out hb3); have hz := HZ.out w3 HB3.out; have v0 := hz.cell (i := 0) (by simp); have v1 := hz.cell (i := 1) (by simp); have v2 := hz.cell (i := 2) (by simp); have v3 := hz.cell (i := 3) (by simp); have v4 := hz.cell (i := 4) (by simp); have v5 := hz.cell (i := 5) (by simp); simp only [List.getElem_cons_succ, List.getElem_cons_zero] at v0 v1 v2 v3 v4 v5; have f0 := hz.free 0; have f1 := hz.free 1; have f2 := hz.free 2; have f3 := hz.free 3; have f4 := hz.free 4; have f5 := hz.free 5; have x3 := HX.out w3 HB3.out; have z3 := HCT.out w3 (HF.out w3 HB3.out); obtain ⟨e0, e1, e2, e3, e4, e5⟩ := HCE.out w3 (HF.out w3 HB3.out); clear hz hb3))
  refine bodyPost_ret (v := .tuple #[.agg #[strV n1, .slice B1 m1 c1, .int .i64 k1, strV p1, strV q1, .slice E1 m2 c2], .bool true]) (by simp [results, Try.results29, go_sem, v0, v1, v2, v3, v4, v5]) rfl ?_
  rw [HR2.out]
  have hb := ((((((HF.out w3 HB3.out).setCell (p := ⟨W.heap.size + 1, 0, none⟩) (Nat.le_succ _) (strV n1)).setCell (p := ⟨W.heap.size + 1, 1, none⟩) (Nat.le_succ _) (.slice B1 m1 c1)).setCell (p := ⟨W.heap.size + 1, 2, none⟩) (Nat.le_succ _) (.int .i64 k1)).setCell (p := ⟨W.heap.size + 1, 3, none⟩) (Nat.le_succ _) (strV p1)).setCell (p := ⟨W.heap.size + 1, 4, none⟩) (Nat.le_succ _) (strV q1)).setCell (p := ⟨W.heap.size + 1, 5, none⟩) (Nat.le_succ _) (.slice E1 m2 c2)
  exact ⟨_, rfl, HEE.out.below hb, hb⟩
end Go.Proofs.Ytehabjiacgibpaa
