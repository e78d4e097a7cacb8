/-
  What the document's Read and ReadBack come to. Condition: the key is of at most 1,000,000 bytes.
  TupleReads, walked. Conditions: the arguments are there.
  An argument that is a list of lists of bytes. No conditions.
-/
import Derived.Test.YtehabjiacgibpaaCTpRr
import Derived.Test.YtehabjiacgibpaaCNmShow
import Derived.Test.YtehabjiacgibpaaCTpAw
import Derived.Test.YtehabjiacgibpaaCTpX
import Derived.Test.YtehabjiacgibpaaCEnc
import Derived.Test.YtehabjiacgibpaaCLaOpW
import Derived.Deep.Matrix
namespace Go.Proofs.Ytehabjiacgibpaa
open Go.RowKit
theorem seven_is {fs : Txt} {b : List UInt8} {L : List Txt} (h : sevenO fs b = some L) (hb : b.length ≤ 1000000) : ∃ tn p0 p1 p2 p3 p4 p5, L = [tn, p0, p1, p2, p3, p4, p5] ∧ ∀ x ∈ L, x.length ≤ 9223372036854775807 := by
  have hd := dec_length b [] []
  unfold sevenO at h
  cases hD : decL b [] [] with
  | none => rw [hD] at h; cases h
  | some M =>
    by_cases h8 : M.length = 8
    · obtain ⟨f, tn, p0, p1, p2, p3, p4, p5, rfl⟩ := eight h8
      rw [hD] at h
      dsimp only at h
      split at h
      · injection h with h
        subst h
        refine ⟨tn, p0, p1, p2, p3, p4, p5, rfl, fun x hx => ?_⟩
        exact Nat.le_trans ((hd _ hD).2 1000000 (fun q hq => by simp at hq) (by simpa using hb) x (List.mem_cons_of_mem _ hx)) (by decide)
      · cases h
    · have h2 := sevenO_len (fs := fs) hD h8
      unfold sevenO at h2
      rw [hD] at h2 h
      rw [h2] at h
      cases h
set_option maxRecDepth 100000 in
set_option maxHeartbeats 4000000 in
theorem refPRead_any (b : List UInt8) (A : Option Addr) (c : Nat) (W : World) (hs : Seen W A b) (hb : b.length ≤ 1000000) :
    Calls Try.prog 17 #[.slice A b.length c] W (ReadP W (readO [102] mkF b)) := by
  have hb0 := (Below.refl W.heap.size W).alloc (Nat.le_refl _) (.cells #[.string ⟨#[]⟩, .string ⟨#[]⟩, .string ⟨#[]⟩, .string ⟨#[]⟩, .string ⟨#[]⟩, .string ⟨#[]⟩] 30)
  have HB0 := Lib.hid hb0
  have HZ := Lib.hid (Blk.new W [.string ⟨#[]⟩, .string ⟨#[]⟩, .string ⟨#[]⟩, .string ⟨#[]⟩, .string ⟨#[]⟩, .string ⟨#[]⟩] 30)
  have H := Lib.hid (refRead_any [102] b A c _ (hs.below hb0) hb)
  obtain ⟨O, hO⟩ : ∃ O, O = readO [102] mkF b := ⟨_, rfl⟩
  rw [← hO]
  rw [readO_seven] at hO
  unfold SevenP at H
  unfold ReadP
  clear hb0 hs
  cases hS : sevenO [102] b with
  | none =>
    rw [hS] at H hO
    have HO2 : Hid (O = none) := Lib.hid hO
    clear hO hS
    go_enter Try.func17, Try.ntmps17
    go_wp2_with (go_at_call 36; refine H.out.mono ?_; rintro e w2 ⟨A2, n2, c2, rfl, h7, hb2⟩; have HB2 := Lib.hid (HB0.out.trans (hb2.mono HB0.out.size)); have HZ2 := Lib.hid (HZ.out.below hb2 HZ.out.lt); obtain ⟨⟨z0, z1, z2, z3, z4, z5⟩, f0, f1, f2, f3, f4, f5⟩ := zeros_at w2 W.heap.size 30 HZ2.out; have hsome : (none : Option (List Txt)).isSome = false := rfl; clear hb2 h7)
    refine bodyPost_ret (v := .tuple #[.string ⟨#[]⟩, .agg #[.string ⟨#[]⟩, .string ⟨#[]⟩, .string ⟨#[]⟩, .string ⟨#[]⟩, .string ⟨#[]⟩, .string ⟨#[]⟩], .bool false]) (by simp [results, Try.results17, go_sem, z0, z1, z2, z3, z4, z5]) rfl ?_
    rw [HO2.out]
    exact ⟨rfl, (((((HB2.out.setCell (p := ⟨W.heap.size, 0, none⟩) (Nat.le_refl _) _).setCell (p := ⟨W.heap.size, 1, none⟩) (Nat.le_refl _) _).setCell (p := ⟨W.heap.size, 2, none⟩) (Nat.le_refl _) _).setCell (p := ⟨W.heap.size, 3, none⟩) (Nat.le_refl _) _).setCell (p := ⟨W.heap.size, 4, none⟩) (Nat.le_refl _) _).setCell (p := ⟨W.heap.size, 5, none⟩) (Nat.le_refl _) _⟩
  | some L =>
    obtain ⟨tn, p0, p1, p2, p3, p4, p5, rfl, hsm⟩ := seven_is hS hb
    rw [hS] at H hO
    dsimp only at hO
    have HO := Lib.hid hO
    have hSH := fun w => refShowTuple_any p0 p1 p2 p3 p4 p5 w (hsm _ (by simp)) (hsm _ (by simp)) (hsm _ (by simp)) (hsm _ (by simp)) (hsm _ (by simp)) (hsm _ (by simp))
    have HSH := Lib.hid hSH
    have HC : Hid (Calls Try.prog 36 #[.slice A b.length c, strV [102]] (W.alloc (.cells #[.string ⟨#[]⟩, .string ⟨#[]⟩, .string ⟨#[]⟩, .string ⟨#[]⟩, .string ⟨#[]⟩, .string ⟨#[]⟩] 30)) fun e w2 => ∃ g off c2, e = .returned (.tuple #[.slice (some ⟨g, off, none⟩) 7 c2, .bool true]) ∧ Hid (Below (W.alloc (.cells #[.string ⟨#[]⟩, .string ⟨#[]⟩, .string ⟨#[]⟩, .string ⟨#[]⟩, .string ⟨#[]⟩, .string ⟨#[]⟩] 30)).heap.size (W.alloc (.cells #[.string ⟨#[]⟩, .string ⟨#[]⟩, .string ⟨#[]⟩, .string ⟨#[]⟩, .string ⟨#[]⟩, .string ⟨#[]⟩] 30)) w2) ∧ Hid (g ≠ W.heap.size) ∧ Hid (∀ w', Below w2.heap.size w2 w' → w'.cell? ⟨g, off, none⟩ = some (strV tn) ∧ (w'.cell? ⟨g, off + 1, none⟩ = some (strV p0) ∧ w'.cell? ⟨g, off + 2, none⟩ = some (strV p1) ∧ w'.cell? ⟨g, off + 3, none⟩ = some (strV p2) ∧ w'.cell? ⟨g, off + 4, none⟩ = some (strV p3) ∧ w'.cell? ⟨g, off + 5, none⟩ = some (strV p4) ∧ w'.cell? ⟨g, off + 6, none⟩ = some (strV p5)))) := Lib.hid (H.out.mono (by
      rintro e w2 ⟨A2, n2, c2, rfl, h7, hb2⟩
      obtain ⟨rfl, _, g, off, rfl, ⟨hbg, hg⟩, hc⟩ := h7 _ rfl
      rw [World.size_alloc] at hbg
      refine ⟨g, off, c2, rfl, hb2, (by show g ≠ _; omega), fun w' hw => ?_⟩
      have e : ∀ j (h : j < [tn, p0, p1, p2, p3, p4, p5].length), w'.cell? ⟨g, off + j, none⟩ = some (strV [tn, p0, p1, p2, p3, p4, p5][j]) := fun j h => (hw.cell (p := ⟨g, off + j, none⟩) hg).trans (hc j h)
      exact ⟨e 0 (by simp), e 1 (by simp), e 2 (by simp), e 3 (by simp), e 4 (by simp), e 5 (by simp), e 6 (by simp)⟩))
    clear H hO hS hsm hSH
    go_enter Try.func17, Try.ntmps17
    go_wp2_with (go_at_call 36; refine HC.out.mono ?_; rintro e w2 ⟨g, off, c2, rfl, hb2, hgw, hcl⟩; have HB2 := Lib.hid (HB0.out.trans (hb2.out.mono HB0.out.size)); have HZ2 := Lib.hid (HZ.out.below hb2.out HZ.out.lt))
    have hS2 : (w2.drew.cell? ⟨g, off + 1, none⟩ = some (strV p0) ∧ w2.drew.cell? ⟨g, off + 2, none⟩ = some (strV p1) ∧ w2.drew.cell? ⟨g, off + 3, none⟩ = some (strV p2) ∧ w2.drew.cell? ⟨g, off + 4, none⟩ = some (strV p3) ∧ w2.drew.cell? ⟨g, off + 5, none⟩ = some (strV p4) ∧ w2.drew.cell? ⟨g, off + 6, none⟩ = some (strV p5)) := (hcl.out w2.drew ((Below.refl _ _).drew)).2
    go_region_held_law (fun w' => (w'.cell? ⟨g, off + 1, none⟩ = some (strV p0) ∧ w'.cell? ⟨g, off + 2, none⟩ = some (strV p1) ∧ w'.cell? ⟨g, off + 3, none⟩ = some (strV p2) ∧ w'.cell? ⟨g, off + 4, none⟩ = some (strV p3) ∧ w'.cell? ⟨g, off + 5, none⟩ = some (strV p4) ∧ w'.cell? ⟨g, off + 6, none⟩ = some (strV p5)))
      (first | with_reducible assumption | exact (hcl.out _ (((Below.refl _ _).drew).alloc (Nat.le_refl _) _)).2 | exact (hcl.out _ (((Below.refl _ _).alloc (Nat.le_refl _) _).drew)).2 | exact (hcl.out _ (((Below.refl _ _).alloc (Nat.le_refl _) _))).2 | go_keep)
      (first | fail)
    have HX4 := Lib.hid (Blk.new w2 [strV p0, strV p1, strV p2, strV p3, strV p4, strV p5] 30).drew
    have HC4 : Hid (∀ w', Below (w2.alloc (.cells #[strV p0, strV p1, strV p2, strV p3, strV p4, strV p5] 30)).drew.heap.size (w2.alloc (.cells #[strV p0, strV p1, strV p2, strV p3, strV p4, strV p5] 30)).drew w' → w'.cell? ⟨g, off, none⟩ = some (strV tn)) := Lib.hid (fun w' hw => (hcl.out w' ((((Below.refl w2.heap.size w2).alloc (Nat.le_refl _) _).drew).trans (hw.mono (by show w2.heap.size ≤ (w2.alloc _).heap.size; simp)))).1)
    have HZ4 := Lib.hid ((HZ2.out.alloc (.cells #[strV p0, strV p1, strV p2, strV p3, strV p4, strV p5] 30)).drew)
    have HB4 := Lib.hid ((HB2.out.alloc HB2.out.size (.cells #[strV p0, strV p1, strV p2, strV p3, strV p4, strV p5] 30)).drew)
    have hX4s : w2.heap.size < (w2.alloc (.cells #[strV p0, strV p1, strV p2, strV p3, strV p4, strV p5] 30)).drew.heap.size := by show w2.heap.size < (w2.alloc _).heap.size; simp
    have HXS := Lib.hid hX4s
    have hww : w2.heap.size ≠ W.heap.size := by have := HZ2.out.lt; omega
    have HWW := Lib.hid hww
    clear hX4s hS2 hcl HZ2 HB2 hb2 hww
    generalize (w2.alloc (.cells #[strV p0, strV p1, strV p2, strV p3, strV p4, strV p5] 30)).drew = w4 at *
    have x0 := HX4.out.cell (i := 0) (by simp)
    have x1 := HX4.out.cell (i := 1) (by simp)
    have x2 := HX4.out.cell (i := 2) (by simp)
    have x3 := HX4.out.cell (i := 3) (by simp)
    have x4 := HX4.out.cell (i := 4) (by simp)
    have x5 := HX4.out.cell (i := 5) (by simp)
    simp only [List.getElem_cons_succ, List.getElem_cons_zero] at x0 x1 x2 x3 x4 x5
    have HO5 : Hid (O = if showT (p0, p1, p2, p3, p4, p5) ≠ [] then some (tn, (p0, p1, p2, p3, p4, p5)) else none) := Lib.hid HO.out
    clear HO
    obtain ⟨T, hT⟩ : ∃ T, T = showT (p0, p1, p2, p3, p4, p5) := ⟨_, rfl⟩
    rw [← hT] at HSH HO5
    clear hT
    by_cases h0 : T = []
    · subst h0
      have HO2 : Hid (O = none) := Lib.hid (by rw [HO5.out, if_neg (fun h => h rfl)])
      go_wp2_with (go_at_call 20; refine (HSH.out _).mono ?_; rintro e w5 ⟨rfl, hb5⟩; have HZ5 := Lib.hid (HZ4.out.below hb5 HZ4.out.lt); have HB5 := Lib.hid (hop HB4.out hb5); obtain ⟨⟨z0, z1, z2, z3, z4, z5⟩, f0, f1, f2, f3, f4, f5⟩ := zeros_at w5 W.heap.size 30 HZ5.out; clear hb5)
      refine bodyPost_ret (v := .tuple #[.string ⟨#[]⟩, .agg #[.string ⟨#[]⟩, .string ⟨#[]⟩, .string ⟨#[]⟩, .string ⟨#[]⟩, .string ⟨#[]⟩, .string ⟨#[]⟩], .bool false]) (by simp [results, Try.results17, go_sem, z0, z1, z2, z3, z4, z5]) rfl ?_
      rw [HO2.out]
      exact ⟨rfl, (((((HB5.out.setCell (p := ⟨W.heap.size, 0, none⟩) (Nat.le_refl _) _).setCell (p := ⟨W.heap.size, 1, none⟩) (Nat.le_refl _) _).setCell (p := ⟨W.heap.size, 2, none⟩) (Nat.le_refl _) _).setCell (p := ⟨W.heap.size, 3, none⟩) (Nat.le_refl _) _).setCell (p := ⟨W.heap.size, 4, none⟩) (Nat.le_refl _) _).setCell (p := ⟨W.heap.size, 5, none⟩) (Nat.le_refl _) _⟩
    · have HO4 : Hid (O = some (tn, (p0, p1, p2, p3, p4, p5))) := Lib.hid (by rw [HO5.out, if_pos h0])
      have hne2 : List.isEmpty T = false := by cases T <;> simp_all
      go_wp2_with (go_at_call 20; refine (HSH.out _).mono ?_; rintro e w5 ⟨rfl, hb5⟩; have HZ5 := Lib.hid (HZ4.out.below hb5 HZ4.out.lt); have HB5 := Lib.hid (hop HB4.out hb5); obtain ⟨⟨z0, z1, z2, z3, z4, z5⟩, f0, f1, f2, f3, f4, f5⟩ := zeros_at w5 W.heap.size 30 HZ5.out; have HE0 := Lib.hid (HC4.out w5 hb5); have HX5 := Lib.hid (HX4.out.below hb5 HX4.out.lt); clear hb5 x0 x1 x2 x3 x4 x5)
      have hS5 : w5.drew.cell? ⟨g, off, none⟩ = some (strV tn) ∧ w5.drew.cell? ⟨w2.heap.size, 0, none⟩ = some (strV p0) ∧ w5.drew.cell? ⟨w2.heap.size, 1, none⟩ = some (strV p1) ∧ w5.drew.cell? ⟨w2.heap.size, 2, none⟩ = some (strV p2) ∧ w5.drew.cell? ⟨w2.heap.size, 3, none⟩ = some (strV p3) ∧ w5.drew.cell? ⟨w2.heap.size, 4, none⟩ = some (strV p4) ∧ w5.drew.cell? ⟨w2.heap.size, 5, none⟩ = some (strV p5) := ⟨HE0.out, HX5.out.cell (i := 0) (by simp), HX5.out.cell (i := 1) (by simp), HX5.out.cell (i := 2) (by simp), HX5.out.cell (i := 3) (by simp), HX5.out.cell (i := 4) (by simp), HX5.out.cell (i := 5) (by simp)⟩
      go_region_held_law (fun w' => w'.cell? ⟨g, off, none⟩ = some (strV tn) ∧ w'.cell? ⟨w2.heap.size, 0, none⟩ = some (strV p0) ∧ w'.cell? ⟨w2.heap.size, 1, none⟩ = some (strV p1) ∧ w'.cell? ⟨w2.heap.size, 2, none⟩ = some (strV p2) ∧ w'.cell? ⟨w2.heap.size, 3, none⟩ = some (strV p3) ∧ w'.cell? ⟨w2.heap.size, 4, none⟩ = some (strV p4) ∧ w'.cell? ⟨w2.heap.size, 5, none⟩ = some (strV p5))
        (first | with_reducible assumption | exact ⟨(six_other _ hgw.out _ _ _ _ _ _ _).trans HE0.out, (six_other _ HWW.out _ _ _ _ _ _ _).trans (HX5.out.cell (i := 0) (by simp)), (six_other _ HWW.out _ _ _ _ _ _ _).trans (HX5.out.cell (i := 1) (by simp)), (six_other _ HWW.out _ _ _ _ _ _ _).trans (HX5.out.cell (i := 2) (by simp)), (six_other _ HWW.out _ _ _ _ _ _ _).trans (HX5.out.cell (i := 3) (by simp)), (six_other _ HWW.out _ _ _ _ _ _ _).trans (HX5.out.cell (i := 4) (by simp)), (six_other _ HWW.out _ _ _ _ _ _ _).trans (HX5.out.cell (i := 5) (by simp))⟩)
        (first | fail)
      have HK9 := Lib.hid (((((((HZ5.out.set 0 (strV p0)).set 1 (strV p1)).set 2 (strV p2)).set 3 (strV p3)).set 4 (strV p4)).set 5 (strV p5)).drew)
      have HB9 : Hid (Below W.heap.size W ((((((w5.setCell ⟨W.heap.size, 0, none⟩ (strV p0)).setCell ⟨W.heap.size, 1, none⟩ (strV p1)).setCell ⟨W.heap.size, 2, none⟩ (strV p2)).setCell ⟨W.heap.size, 3, none⟩ (strV p3)).setCell ⟨W.heap.size, 4, none⟩ (strV p4)).setCell ⟨W.heap.size, 5, none⟩ (strV p5)).drew) := Lib.hid (Below.drew ((((((HB5.out.setCell (p := ⟨W.heap.size, 0, none⟩) (Nat.le_refl _) _).setCell (p := ⟨W.heap.size, 1, none⟩) (Nat.le_refl _) _).setCell (p := ⟨W.heap.size, 2, none⟩) (Nat.le_refl _) _).setCell (p := ⟨W.heap.size, 3, none⟩) (Nat.le_refl _) _).setCell (p := ⟨W.heap.size, 4, none⟩) (Nat.le_refl _) _).setCell (p := ⟨W.heap.size, 5, none⟩) (Nat.le_refl _) _))
      clear z0 z1 z2 z3 z4 z5 f0 f1 f2 f3 f4 f5 hS5 HE0
      generalize ((((((w5.setCell ⟨W.heap.size, 0, none⟩ (strV p0)).setCell ⟨W.heap.size, 1, none⟩ (strV p1)).setCell ⟨W.heap.size, 2, none⟩ (strV p2)).setCell ⟨W.heap.size, 3, none⟩ (strV p3)).setCell ⟨W.heap.size, 4, none⟩ (strV p4)).setCell ⟨W.heap.size, 5, none⟩ (strV p5)).drew = w9 at *
      simp only [List.set_cons_zero, List.set_cons_succ] at HK9
      have z0 := HK9.out.cell (i := 0) (by simp)
      have z1 := HK9.out.cell (i := 1) (by simp)
      have z2 := HK9.out.cell (i := 2) (by simp)
      have z3 := HK9.out.cell (i := 3) (by simp)
      have z4 := HK9.out.cell (i := 4) (by simp)
      have z5 := HK9.out.cell (i := 5) (by simp)
      simp only [List.getElem_cons_succ, List.getElem_cons_zero] at z0 z1 z2 z3 z4 z5
      clear HX5 HZ5 HX4 HZ4 HC4 HB4 HB5
      go_wp2_with fail
      refine bodyPost_ret (v := .tuple #[strV tn, .agg #[strV p0, strV p1, strV p2, strV p3, strV p4, strV p5], .bool true]) (by simp [results, Try.results17, go_sem, z0, z1, z2, z3, z4, z5]) rfl ?_
      rw [HO4.out]
      exact ⟨rfl, HB9.out⟩
set_option maxRecDepth 100000 in
set_option maxHeartbeats 4000000 in
theorem refPReadBack_any (b : List UInt8) (A : Option Addr) (c : Nat) (W : World) (hs : Seen W A b) (hb : b.length ≤ 1000000) :
    Calls Try.prog 19 #[.slice A b.length c] W (ReadP W (readO [114] mkR b)) := by
  have hb0 := (Below.refl W.heap.size W).alloc (Nat.le_refl _) (.cells #[.string ⟨#[]⟩, .string ⟨#[]⟩, .string ⟨#[]⟩, .string ⟨#[]⟩, .string ⟨#[]⟩, .string ⟨#[]⟩] 30)
  have HB0 := Lib.hid hb0
  have HZ := Lib.hid (Blk.new W [.string ⟨#[]⟩, .string ⟨#[]⟩, .string ⟨#[]⟩, .string ⟨#[]⟩, .string ⟨#[]⟩, .string ⟨#[]⟩] 30)
  have H := Lib.hid (refRead_any [114] b A c _ (hs.below hb0) hb)
  obtain ⟨O, hO⟩ : ∃ O, O = readO [114] mkR b := ⟨_, rfl⟩
  rw [← hO]
  rw [readO_seven] at hO
  unfold SevenP at H
  unfold ReadP
  clear hb0 hs
  cases hS : sevenO [114] b with
  | none =>
    rw [hS] at H hO
    have HO2 : Hid (O = none) := Lib.hid hO
    clear hO hS
    go_enter Try.func19, Try.ntmps19
    go_wp2_with (go_at_call 36; refine H.out.mono ?_; rintro e w2 ⟨A2, n2, c2, rfl, h7, hb2⟩; have HB2 := Lib.hid (HB0.out.trans (hb2.mono HB0.out.size)); have HZ2 := Lib.hid (HZ.out.below hb2 HZ.out.lt); obtain ⟨⟨z0, z1, z2, z3, z4, z5⟩, f0, f1, f2, f3, f4, f5⟩ := zeros_at w2 W.heap.size 30 HZ2.out; have hsome : (none : Option (List Txt)).isSome = false := rfl; clear hb2 h7)
    refine bodyPost_ret (v := .tuple #[.string ⟨#[]⟩, .agg #[.string ⟨#[]⟩, .string ⟨#[]⟩, .string ⟨#[]⟩, .string ⟨#[]⟩, .string ⟨#[]⟩, .string ⟨#[]⟩], .bool false]) (by simp [results, Try.results19, go_sem, z0, z1, z2, z3, z4, z5]) rfl ?_
    rw [HO2.out]
    exact ⟨rfl, (((((HB2.out.setCell (p := ⟨W.heap.size, 0, none⟩) (Nat.le_refl _) _).setCell (p := ⟨W.heap.size, 1, none⟩) (Nat.le_refl _) _).setCell (p := ⟨W.heap.size, 2, none⟩) (Nat.le_refl _) _).setCell (p := ⟨W.heap.size, 3, none⟩) (Nat.le_refl _) _).setCell (p := ⟨W.heap.size, 4, none⟩) (Nat.le_refl _) _).setCell (p := ⟨W.heap.size, 5, none⟩) (Nat.le_refl _) _⟩
  | some L =>
    obtain ⟨tn, p0, p1, p2, p3, p4, p5, rfl, hsm⟩ := seven_is hS hb
    rw [hS] at H hO
    dsimp only at hO
    have HO := Lib.hid hO
    have hSH := fun w => refShowTuple_any p3 p4 p5 p0 p1 p2 w (hsm _ (by simp)) (hsm _ (by simp)) (hsm _ (by simp)) (hsm _ (by simp)) (hsm _ (by simp)) (hsm _ (by simp))
    have HSH := Lib.hid hSH
    have HC : Hid (Calls Try.prog 36 #[.slice A b.length c, strV [114]] (W.alloc (.cells #[.string ⟨#[]⟩, .string ⟨#[]⟩, .string ⟨#[]⟩, .string ⟨#[]⟩, .string ⟨#[]⟩, .string ⟨#[]⟩] 30)) fun e w2 => ∃ g off c2, e = .returned (.tuple #[.slice (some ⟨g, off, none⟩) 7 c2, .bool true]) ∧ Hid (Below (W.alloc (.cells #[.string ⟨#[]⟩, .string ⟨#[]⟩, .string ⟨#[]⟩, .string ⟨#[]⟩, .string ⟨#[]⟩, .string ⟨#[]⟩] 30)).heap.size (W.alloc (.cells #[.string ⟨#[]⟩, .string ⟨#[]⟩, .string ⟨#[]⟩, .string ⟨#[]⟩, .string ⟨#[]⟩, .string ⟨#[]⟩] 30)) w2) ∧ Hid (g ≠ W.heap.size) ∧ Hid (∀ w', Below w2.heap.size w2 w' → w'.cell? ⟨g, off, none⟩ = some (strV tn) ∧ (w'.cell? ⟨g, off + 1, none⟩ = some (strV p0) ∧ w'.cell? ⟨g, off + 2, none⟩ = some (strV p1) ∧ w'.cell? ⟨g, off + 3, none⟩ = some (strV p2) ∧ w'.cell? ⟨g, off + 4, none⟩ = some (strV p3) ∧ w'.cell? ⟨g, off + 5, none⟩ = some (strV p4) ∧ w'.cell? ⟨g, off + 6, none⟩ = some (strV p5)))) := Lib.hid (H.out.mono (by
      rintro e w2 ⟨A2, n2, c2, rfl, h7, hb2⟩
      obtain ⟨rfl, _, g, off, rfl, ⟨hbg, hg⟩, hc⟩ := h7 _ rfl
      rw [World.size_alloc] at hbg
      refine ⟨g, off, c2, rfl, hb2, (by show g ≠ _; omega), fun w' hw => ?_⟩
      have e : ∀ j (h : j < [tn, p0, p1, p2, p3, p4, p5].length), w'.cell? ⟨g, off + j, none⟩ = some (strV [tn, p0, p1, p2, p3, p4, p5][j]) := fun j h => (hw.cell (p := ⟨g, off + j, none⟩) hg).trans (hc j h)
      exact ⟨e 0 (by simp), e 1 (by simp), e 2 (by simp), e 3 (by simp), e 4 (by simp), e 5 (by simp), e 6 (by simp)⟩))
    clear H hO hS hsm hSH
    go_enter Try.func19, Try.ntmps19
    go_wp2_with (go_at_call 36; refine HC.out.mono ?_; rintro e w2 ⟨g, off, c2, rfl, hb2, hgw, hcl⟩; have HB2 := Lib.hid (HB0.out.trans (hb2.out.mono HB0.out.size)); have HZ2 := Lib.hid (HZ.out.below hb2.out HZ.out.lt))
    have hS2 : (w2.drew.cell? ⟨g, off + 1, none⟩ = some (strV p0) ∧ w2.drew.cell? ⟨g, off + 2, none⟩ = some (strV p1) ∧ w2.drew.cell? ⟨g, off + 3, none⟩ = some (strV p2) ∧ w2.drew.cell? ⟨g, off + 4, none⟩ = some (strV p3) ∧ w2.drew.cell? ⟨g, off + 5, none⟩ = some (strV p4) ∧ w2.drew.cell? ⟨g, off + 6, none⟩ = some (strV p5)) := (hcl.out w2.drew ((Below.refl _ _).drew)).2
    go_region_held_law (fun w' => (w'.cell? ⟨g, off + 1, none⟩ = some (strV p0) ∧ w'.cell? ⟨g, off + 2, none⟩ = some (strV p1) ∧ w'.cell? ⟨g, off + 3, none⟩ = some (strV p2) ∧ w'.cell? ⟨g, off + 4, none⟩ = some (strV p3) ∧ w'.cell? ⟨g, off + 5, none⟩ = some (strV p4) ∧ w'.cell? ⟨g, off + 6, none⟩ = some (strV p5)))
      (first | with_reducible assumption | exact (hcl.out _ (((Below.refl _ _).drew).alloc (Nat.le_refl _) _)).2 | exact (hcl.out _ (((Below.refl _ _).alloc (Nat.le_refl _) _).drew)).2 | exact (hcl.out _ (((Below.refl _ _).alloc (Nat.le_refl _) _))).2 | go_keep)
      (first | fail)
    have HX4 := Lib.hid (Blk.new w2 [strV p3, strV p4, strV p5, strV p0, strV p1, strV p2] 30).drew
    have HC4 : Hid (∀ w', Below (w2.alloc (.cells #[strV p3, strV p4, strV p5, strV p0, strV p1, strV p2] 30)).drew.heap.size (w2.alloc (.cells #[strV p3, strV p4, strV p5, strV p0, strV p1, strV p2] 30)).drew w' → w'.cell? ⟨g, off, none⟩ = some (strV tn)) := Lib.hid (fun w' hw => (hcl.out w' ((((Below.refl w2.heap.size w2).alloc (Nat.le_refl _) _).drew).trans (hw.mono (by show w2.heap.size ≤ (w2.alloc _).heap.size; simp)))).1)
    have HZ4 := Lib.hid ((HZ2.out.alloc (.cells #[strV p3, strV p4, strV p5, strV p0, strV p1, strV p2] 30)).drew)
    have HB4 := Lib.hid ((HB2.out.alloc HB2.out.size (.cells #[strV p3, strV p4, strV p5, strV p0, strV p1, strV p2] 30)).drew)
    have hX4s : w2.heap.size < (w2.alloc (.cells #[strV p3, strV p4, strV p5, strV p0, strV p1, strV p2] 30)).drew.heap.size := by show w2.heap.size < (w2.alloc _).heap.size; simp
    have HXS := Lib.hid hX4s
    have hww : w2.heap.size ≠ W.heap.size := by have := HZ2.out.lt; omega
    have HWW := Lib.hid hww
    clear hX4s hS2 hcl HZ2 HB2 hb2 hww
    generalize (w2.alloc (.cells #[strV p3, strV p4, strV p5, strV p0, strV p1, strV p2] 30)).drew = w4 at *
    have x0 := HX4.out.cell (i := 0) (by simp)
    have x1 := HX4.out.cell (i := 1) (by simp)
    have x2 := HX4.out.cell (i := 2) (by simp)
    have x3 := HX4.out.cell (i := 3) (by simp)
    have x4 := HX4.out.cell (i := 4) (by simp)
    have x5 := HX4.out.cell (i := 5) (by simp)
    simp only [List.getElem_cons_succ, List.getElem_cons_zero] at x0 x1 x2 x3 x4 x5
    have HO5 : Hid (O = if showT (p3, p4, p5, p0, p1, p2) ≠ [] then some (tn, (p3, p4, p5, p0, p1, p2)) else none) := Lib.hid HO.out
    clear HO
    obtain ⟨T, hT⟩ : ∃ T, T = showT (p3, p4, p5, p0, p1, p2) := ⟨_, rfl⟩
    rw [← hT] at HSH HO5
    clear hT
    by_cases h0 : T = []
    · subst h0
      have HO2 : Hid (O = none) := Lib.hid (by rw [HO5.out, if_neg (fun h => h rfl)])
      go_wp2_with (go_at_call 20; refine (HSH.out _).mono ?_; rintro e w5 ⟨rfl, hb5⟩; have HZ5 := Lib.hid (HZ4.out.below hb5 HZ4.out.lt); have HB5 := Lib.hid (hop HB4.out hb5); obtain ⟨⟨z0, z1, z2, z3, z4, z5⟩, f0, f1, f2, f3, f4, f5⟩ := zeros_at w5 W.heap.size 30 HZ5.out; clear hb5)
      refine bodyPost_ret (v := .tuple #[.string ⟨#[]⟩, .agg #[.string ⟨#[]⟩, .string ⟨#[]⟩, .string ⟨#[]⟩, .string ⟨#[]⟩, .string ⟨#[]⟩, .string ⟨#[]⟩], .bool false]) (by simp [results, Try.results19, go_sem, z0, z1, z2, z3, z4, z5]) rfl ?_
      rw [HO2.out]
      exact ⟨rfl, (((((HB5.out.setCell (p := ⟨W.heap.size, 0, none⟩) (Nat.le_refl _) _).setCell (p := ⟨W.heap.size, 1, none⟩) (Nat.le_refl _) _).setCell (p := ⟨W.heap.size, 2, none⟩) (Nat.le_refl _) _).setCell (p := ⟨W.heap.size, 3, none⟩) (Nat.le_refl _) _).setCell (p := ⟨W.heap.size, 4, none⟩) (Nat.le_refl _) _).setCell (p := ⟨W.heap.size, 5, none⟩) (Nat.le_refl _) _⟩
    · have HO4 : Hid (O = some (tn, (p3, p4, p5, p0, p1, p2))) := Lib.hid (by rw [HO5.out, if_pos h0])
      have hne2 : List.isEmpty T = false := by cases T <;> simp_all
      go_wp2_with (go_at_call 20; refine (HSH.out _).mono ?_; rintro e w5 ⟨rfl, hb5⟩; have HZ5 := Lib.hid (HZ4.out.below hb5 HZ4.out.lt); have HB5 := Lib.hid (hop HB4.out hb5); obtain ⟨⟨z0, z1, z2, z3, z4, z5⟩, f0, f1, f2, f3, f4, f5⟩ := zeros_at w5 W.heap.size 30 HZ5.out; have HE0 := Lib.hid (HC4.out w5 hb5); have HX5 := Lib.hid (HX4.out.below hb5 HX4.out.lt); clear hb5 x0 x1 x2 x3 x4 x5)
      have hS5 : w5.drew.cell? ⟨g, off, none⟩ = some (strV tn) ∧ w5.drew.cell? ⟨w2.heap.size, 0, none⟩ = some (strV p3) ∧ w5.drew.cell? ⟨w2.heap.size, 1, none⟩ = some (strV p4) ∧ w5.drew.cell? ⟨w2.heap.size, 2, none⟩ = some (strV p5) ∧ w5.drew.cell? ⟨w2.heap.size, 3, none⟩ = some (strV p0) ∧ w5.drew.cell? ⟨w2.heap.size, 4, none⟩ = some (strV p1) ∧ w5.drew.cell? ⟨w2.heap.size, 5, none⟩ = some (strV p2) := ⟨HE0.out, HX5.out.cell (i := 0) (by simp), HX5.out.cell (i := 1) (by simp), HX5.out.cell (i := 2) (by simp), HX5.out.cell (i := 3) (by simp), HX5.out.cell (i := 4) (by simp), HX5.out.cell (i := 5) (by simp)⟩
      go_region_held_law (fun w' => w'.cell? ⟨g, off, none⟩ = some (strV tn) ∧ w'.cell? ⟨w2.heap.size, 0, none⟩ = some (strV p3) ∧ w'.cell? ⟨w2.heap.size, 1, none⟩ = some (strV p4) ∧ w'.cell? ⟨w2.heap.size, 2, none⟩ = some (strV p5) ∧ w'.cell? ⟨w2.heap.size, 3, none⟩ = some (strV p0) ∧ w'.cell? ⟨w2.heap.size, 4, none⟩ = some (strV p1) ∧ w'.cell? ⟨w2.heap.size, 5, none⟩ = some (strV p2))
        (first | with_reducible assumption | exact ⟨(six_other _ hgw.out _ _ _ _ _ _ _).trans HE0.out, (six_other _ HWW.out _ _ _ _ _ _ _).trans (HX5.out.cell (i := 0) (by simp)), (six_other _ HWW.out _ _ _ _ _ _ _).trans (HX5.out.cell (i := 1) (by simp)), (six_other _ HWW.out _ _ _ _ _ _ _).trans (HX5.out.cell (i := 2) (by simp)), (six_other _ HWW.out _ _ _ _ _ _ _).trans (HX5.out.cell (i := 3) (by simp)), (six_other _ HWW.out _ _ _ _ _ _ _).trans (HX5.out.cell (i := 4) (by simp)), (six_other _ HWW.out _ _ _ _ _ _ _).trans (HX5.out.cell (i := 5) (by simp))⟩)
        (first | fail)
      have HK9 := Lib.hid (((((((HZ5.out.set 0 (strV p3)).set 1 (strV p4)).set 2 (strV p5)).set 3 (strV p0)).set 4 (strV p1)).set 5 (strV p2)).drew)
      have HB9 : Hid (Below W.heap.size W ((((((w5.setCell ⟨W.heap.size, 0, none⟩ (strV p3)).setCell ⟨W.heap.size, 1, none⟩ (strV p4)).setCell ⟨W.heap.size, 2, none⟩ (strV p5)).setCell ⟨W.heap.size, 3, none⟩ (strV p0)).setCell ⟨W.heap.size, 4, none⟩ (strV p1)).setCell ⟨W.heap.size, 5, none⟩ (strV p2)).drew) := Lib.hid (Below.drew ((((((HB5.out.setCell (p := ⟨W.heap.size, 0, none⟩) (Nat.le_refl _) _).setCell (p := ⟨W.heap.size, 1, none⟩) (Nat.le_refl _) _).setCell (p := ⟨W.heap.size, 2, none⟩) (Nat.le_refl _) _).setCell (p := ⟨W.heap.size, 3, none⟩) (Nat.le_refl _) _).setCell (p := ⟨W.heap.size, 4, none⟩) (Nat.le_refl _) _).setCell (p := ⟨W.heap.size, 5, none⟩) (Nat.le_refl _) _))
      clear z0 z1 z2 z3 z4 z5 f0 f1 f2 f3 f4 f5 hS5 HE0
      generalize ((((((w5.setCell ⟨W.heap.size, 0, none⟩ (strV p3)).setCell ⟨W.heap.size, 1, none⟩ (strV p4)).setCell ⟨W.heap.size, 2, none⟩ (strV p5)).setCell ⟨W.heap.size, 3, none⟩ (strV p0)).setCell ⟨W.heap.size, 4, none⟩ (strV p1)).setCell ⟨W.heap.size, 5, none⟩ (strV p2)).drew = w9 at *
      simp only [List.set_cons_zero, List.set_cons_succ] at HK9
      have z0 := HK9.out.cell (i := 0) (by simp)
      have z1 := HK9.out.cell (i := 1) (by simp)
      have z2 := HK9.out.cell (i := 2) (by simp)
      have z3 := HK9.out.cell (i := 3) (by simp)
      have z4 := HK9.out.cell (i := 4) (by simp)
      have z5 := HK9.out.cell (i := 5) (by simp)
      simp only [List.getElem_cons_succ, List.getElem_cons_zero] at z0 z1 z2 z3 z4 z5
      clear HX5 HZ5 HX4 HZ4 HC4 HB4 HB5
      go_wp2_with fail
      refine bodyPost_ret (v := .tuple #[strV tn, .agg #[strV p3, strV p4, strV p5, strV p0, strV p1, strV p2], .bool true]) (by simp [results, Try.results19, go_sem, z0, z1, z2, z3, z4, z5]) rfl ?_
      rw [HO4.out]
      exact ⟨rfl, HB9.out⟩
end Go.Proofs.Ytehabjiacgibpaa
namespace Go.Proofs.Ytehabjiacgibpaa
open Go.RowKit
theorem ReadP.open {W : World} {O : Option (Txt × Tup)} {tn q0 q1 q2 q3 q4 q5 : Txt} {ok : Bool} (h1 : (O.getD noTup).1 = tn) (h2 : ((six (O.getD noTup).2).map strV).toArray = #[strV q0, strV q1, strV q2, strV q3, strV q4, strV q5]) (h3 : O.isSome = ok) {e : Ending} {w' : World} (h : ReadP W O e w') :
    e = .returned (.tuple #[strV tn, .agg #[strV q0, strV q1, strV q2, strV q3, strV q4, strV q5], .bool ok]) ∧ Below W.heap.size W w' := by
  unfold ReadP at h
  rw [h1, h2, h3] at h
  exact h
set_option maxRecDepth 100000 in
set_option maxHeartbeats 4000000 in
theorem tupleReads_walk (A : Option Addr) (b : List UInt8) (c : Nat) (W : World) (_ : b.length ≤ 140737488351232) (hs : Seen W A b) :
    Calls Try.prog 5 #[.slice A b.length c] W fun e w' => e = .returned (.bool true) ∧ Below W.heap.size W w' := by
  have HS : Hid (∀ w, Below W.heap.size W w → Seen w A b) := Lib.hid (fun w hw => hs.below hw)
  have HA := Lib.hid (awake_any W)
  clear hs
  obtain ⟨n, hn⟩ : ∃ n, n = b.length := ⟨_, rfl⟩
  rw [← hn]
  have HN := Lib.hid hn
  go_enter Try.func5, Try.ntmps5
  go_wp2_with fail
  refine HA.out.mono ?_
  rintro e w1 ⟨rfl, hb1⟩
  by_cases hn1 : 1000 < n
  · have hd : (1000 : Int) < (n : Int) := by omega
    have hdd : decide (1000 < n) = true := decide_eq_true hn1
    clear hn1
    go_wp2_with fail
    go_ret
    exact ⟨rfl, hb1⟩
  have hn2 : (n : Int) ≤ 1000 := by omega
  have hn3 : decide (1000 < n) = false := decide_eq_false hn1
  obtain ⟨q0, q1, q2, q3, q4, q5, hq, _⟩ := six_of ((readO [102] mkF b).getD noTup).2
  obtain ⟨p0, p1, p2, p3, p4, p5, hp, _⟩ := six_of ((readO [114] mkR b).getD noTup).2
  obtain ⟨tn, htn⟩ : ∃ tn, ((readO [102] mkF b).getD noTup).1 = tn := ⟨_, rfl⟩
  obtain ⟨un, hun⟩ : ∃ un, ((readO [114] mkR b).getD noTup).1 = un := ⟨_, rfl⟩
  obtain ⟨ok, hok⟩ : ∃ ok, (readO [102] mkF b).isSome = ok := ⟨_, rfl⟩
  obtain ⟨uk, huk⟩ : ∃ uk, (readO [114] mkR b).isSome = uk := ⟨_, rfl⟩
  have E1 : Hid (∀ w, Below W.heap.size W w → Calls Try.prog 16 #[.slice A n c] w fun e w' => e = .returned (.tuple #[strV tn, .agg #[strV q0, strV q1, strV q2, strV q3, strV q4, strV q5], .bool ok]) ∧ Below w.heap.size w w') := Lib.hid (fun w hw => by
    rw [HN.out]; exact (pread_any b A c w (HS.out w hw) (by omega)).mono (fun _ _ h => h.open htn hq hok))
  have E2 : Hid (∀ w, Below W.heap.size W w → Calls Try.prog 17 #[.slice A n c] w fun e w' => e = .returned (.tuple #[strV tn, .agg #[strV q0, strV q1, strV q2, strV q3, strV q4, strV q5], .bool ok]) ∧ Below w.heap.size w w') := Lib.hid (fun w hw => by
    rw [HN.out]; exact (refPRead_any b A c w (HS.out w hw) (by omega)).mono (fun _ _ h => h.open htn hq hok))
  have E3 : Hid (∀ w, Below W.heap.size W w → Calls Try.prog 18 #[.slice A n c] w fun e w' => e = .returned (.tuple #[strV un, .agg #[strV p0, strV p1, strV p2, strV p3, strV p4, strV p5], .bool uk]) ∧ Below w.heap.size w w') := Lib.hid (fun w hw => by
    rw [HN.out]; exact (preadBack_any b A c w (HS.out w hw) (by omega)).mono (fun _ _ h => h.open hun hp huk))
  have E4 : Hid (∀ w, Below W.heap.size W w → Calls Try.prog 19 #[.slice A n c] w fun e w' => e = .returned (.tuple #[strV un, .agg #[strV p0, strV p1, strV p2, strV p3, strV p4, strV p5], .bool uk]) ∧ Below w.heap.size w w') := Lib.hid (fun w hw => by
    rw [HN.out]; exact (refPReadBack_any b A c w (HS.out w hw) (by omega)).mono (fun _ _ h => h.open hun hp huk))
  have HB1 := Lib.hid hb1
  clear hq hp htn hun hok huk hn hn1 hb1 HS HA
  go_wp2_with fail
  refine (E1.out _ HB1.out).mono ?_
  rintro e w2 ⟨rfl, hb2⟩
  obtain ⟨u2, hu2⟩ : ∃ u, u = (w2.alloc (.cells #[strV q0, strV q1, strV q2, strV q3, strV q4, strV q5] 30)) := ⟨_, rfl⟩
  have hbu2 : Below w2.heap.size w2 u2 := by rw [hu2]; exact (Below.refl _ _).alloc (Nat.le_refl _) _
  have HK2 : Hid (Blk u2 w2.heap.size [strV q0, strV q1, strV q2, strV q3, strV q4, strV q5] 30) := by rw [hu2]; exact Lib.hid (Blk.new _ _ _)
  have HB2 := Lib.hid (hop (hop HB1.out hb2) hbu2)
  have HU2 := Lib.hid hu2
  clear hb2 hbu2 hu2
  go_wp2_with fail
  show Calls _ _ _ (w2.alloc (.cells #[strV q0, strV q1, strV q2, strV q3, strV q4, strV q5] 30)) _
  rw [← HU2.out]
  refine (E2.out _ HB2.out).mono ?_
  rintro e w3 ⟨rfl, hb3⟩
  obtain ⟨u3, hu3⟩ : ∃ u, u = (w3.alloc (.cells #[strV q0, strV q1, strV q2, strV q3, strV q4, strV q5] 30)) := ⟨_, rfl⟩
  have hbu3 : Below w3.heap.size w3 u3 := by rw [hu3]; exact (Below.refl _ _).alloc (Nat.le_refl _) _
  have HK3 : Hid (Blk u3 w3.heap.size [strV q0, strV q1, strV q2, strV q3, strV q4, strV q5] 30) := by rw [hu3]; exact Lib.hid (Blk.new _ _ _)
  have HB3 := Lib.hid (hop (hop HB2.out hb3) hbu3)
  have HS3 := Lib.hid (hop hb3 hbu3)
  have HU3 := Lib.hid hu3
  clear hb3 hbu3 hu3
  go_wp2_with fail
  show Calls _ _ _ (w3.alloc (.cells #[strV q0, strV q1, strV q2, strV q3, strV q4, strV q5] 30)) _
  rw [← HU3.out]
  refine (E3.out _ HB3.out).mono ?_
  rintro e w4 ⟨rfl, hb4⟩
  obtain ⟨u4, hu4⟩ : ∃ u, u = (w4.alloc (.cells #[strV p0, strV p1, strV p2, strV p3, strV p4, strV p5] 30)) := ⟨_, rfl⟩
  have hbu4 : Below w4.heap.size w4 u4 := by rw [hu4]; exact (Below.refl _ _).alloc (Nat.le_refl _) _
  have HK4 : Hid (Blk u4 w4.heap.size [strV p0, strV p1, strV p2, strV p3, strV p4, strV p5] 30) := by rw [hu4]; exact Lib.hid (Blk.new _ _ _)
  have HB4 := Lib.hid (hop (hop HB3.out hb4) hbu4)
  have HS4 := Lib.hid (hop hb4 hbu4)
  have HU4 := Lib.hid hu4
  clear hb4 hbu4 hu4
  go_wp2_with fail
  show Calls _ _ _ (w4.alloc (.cells #[strV p0, strV p1, strV p2, strV p3, strV p4, strV p5] 30)) _
  rw [← HU4.out]
  refine (E4.out _ HB4.out).mono ?_
  rintro e w5 ⟨rfl, hb5⟩
  obtain ⟨u5, hu5⟩ : ∃ u, u = (w5.alloc (.cells #[strV p0, strV p1, strV p2, strV p3, strV p4, strV p5] 30)) := ⟨_, rfl⟩
  have hbu5 : Below w5.heap.size w5 u5 := by rw [hu5]; exact (Below.refl _ _).alloc (Nat.le_refl _) _
  have HK5 : Hid (Blk u5 w5.heap.size [strV p0, strV p1, strV p2, strV p3, strV p4, strV p5] 30) := by rw [hu5]; exact Lib.hid (Blk.new _ _ _)
  have HB5 := Lib.hid (hop (hop HB4.out hb5) hbu5)
  have HS5 := Lib.hid (hop hb5 hbu5)
  have HU5 := Lib.hid hu5
  clear hb5 hbu5 hu5
  have k5 := box_of HK5.out
  have h4 := HK4.out.below HS5.out HK4.out.lt
  have k4 := box_of h4
  have h3 := (HK3.out.below HS4.out HK3.out.lt).below HS5.out (HK3.out.below HS4.out HK3.out.lt).lt
  have k3 := box_of h3
  have h2 := ((HK2.out.below HS3.out HK2.out.lt).below HS4.out (HK2.out.below HS3.out HK2.out.lt).lt).below HS5.out ((HK2.out.below HS3.out HK2.out.lt).below HS4.out (HK2.out.below HS3.out HK2.out.lt).lt).lt
  have k2 := box_of h2
  rw [HU5.out] at k2 k3 k4 k5
  obtain ⟨a0, a1, a2, a3, a4, a5⟩ := k2
  obtain ⟨b0, b1, b2, b3, b4, b5⟩ := k3
  obtain ⟨c0, c1, c2, c3, c4, c5⟩ := k4
  obtain ⟨d0, d1, d2, d3, d4, d5⟩ := k5
  have e1 : ∀ w, _ := tup_eql q0 q1 q2 q3 q4 q5 q0 q1 q2 q3 q4 q5
  have e2 : ∀ w, _ := tup_eql p0 p1 p2 p3 p4 p5 p0 p1 p2 p3 p4 p5
  rw [decide_eq_true rfl] at e1 e2
  have f1 : (tn == tn) = true := by simp
  have f2 : (un == un) = true := by simp
  have f3 : (ok == ok) = true := by simp
  have f4 : (uk == uk) = true := by simp
  clear h2 h3 h4
  go_wp2_with fail
  go_ret
  exact ⟨rfl, by have h := HB5.out; rw [HU5.out] at h; exact h⟩
end Go.Proofs.Ytehabjiacgibpaa
namespace Go.Proofs.Ytehabjiacgibpaa
open Go.ChangeShapes Go.WideShapes Go.ChangeAt Go.RowKit
section
variable {H : Type} {enc : TypeId × Value → H} {P : Program}
end
end Go.Proofs.Ytehabjiacgibpaa
