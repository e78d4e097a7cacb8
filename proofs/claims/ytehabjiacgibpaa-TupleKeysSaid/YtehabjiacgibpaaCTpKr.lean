/-
  The keys of a tuple, the document's Key and Back. Conditions: the tenant is of at most 1,000,000 bytes, no text of the tuple of more than 2^63-1.
-/
import Derived.Test.YtehabjiacgibpaaCLpAt
namespace Go.Proofs.Ytehabjiacgibpaa
open Go.RowKit
set_option maxRecDepth 100000 in
set_option maxHeartbeats 2000000 in
theorem refKey_any (tn : Txt) (t : Tup) (W : World) (htn : tn.length ≤ 1000000) (ht : ∀ x ∈ six t, x.length ≤ 9223372036854775807) :
    Calls Try.prog 13 #[strV tn, .agg ((six t).map strV).toArray] W (BytesP W (keyT tn t)) := by
  unfold BytesP
  obtain ⟨L, hL⟩ : ∃ L, L = keyT tn t := ⟨_, rfl⟩
  rw [← hL]
  unfold keyT at hL
  obtain ⟨a, b, r, d, f, g⟩ := t
  show Calls _ _ #[strV tn, .agg #[strV a, strV b, strV r, strV d, strV f, strV g]] _ _
  obtain ⟨W1, hW⟩ : ∃ W1, W1 = W.alloc (.cells #[strV a, strV b, strV r, strV d, strV f, strV g] 30) := ⟨_, rfl⟩
  have hKT : Blk W1 W.heap.size [strV a, strV b, strV r, strV d, strV f, strV g] 30 := by rw [hW]; exact Blk.new W _ _
  have hB0 : Below W.heap.size W W1 := by rw [hW]; exact (Below.refl _ _).alloc (Nat.le_refl _) _
  have HX : Hid (∀ w, Below W1.heap.size W1 w → w.cell? ⟨W.heap.size, 0, none⟩ = some (strV a) ∧ w.cell? ⟨W.heap.size, 1, none⟩ = some (strV b) ∧ w.cell? ⟨W.heap.size, 2, none⟩ = some (strV r) ∧ w.cell? ⟨W.heap.size, 3, none⟩ = some (strV d) ∧ w.cell? ⟨W.heap.size, 4, none⟩ = some (strV f) ∧ w.cell? ⟨W.heap.size, 5, none⟩ = some (strV g)) := Lib.hid (fun w hw => by
    have h2 := hKT.below hw hKT.lt
    exact ⟨h2.cell (i := 0) (by simp), h2.cell (i := 1) (by simp), h2.cell (i := 2) (by simp), h2.cell (i := 3) (by simp), h2.cell (i := 4) (by simp), h2.cell (i := 5) (by simp)⟩)
  have HI : Hid (Calls Try.prog 20 #[.agg #[strV a, strV b, strV r, strV d, strV f, strV g]] W1 fun e w' => e = .returned (strV (showT (a, b, r, d, f, g))) ∧ Below W1.heap.size W1 w') := Lib.hid (refShowTuple_any a b r d f g W1 (ht a (by simp [six])) (ht b (by simp [six])) (ht r (by simp [six])) (ht d (by simp [six])) (ht f (by simp [six])) (ht g (by simp [six])))
  have HB0 := Lib.hid hB0
  have HW := Lib.hid hW
  clear hKT hB0 hW ht
  by_cases h0 : showT (a, b, r, d, f, g) = []
  · have HL2 : Hid (L = []) := Lib.hid (by rw [hL, if_pos h0])
    rw [h0] at HI
    clear hL h0
    go_enter Try.func13, Try.ntmps13
    go_wp2_with (go_at_call 20; rw [← HW.out]; refine HI.out.mono ?_; rintro e w2 ⟨rfl, hb2⟩; have HB2 := Lib.hid hb2; clear hb2)
    go_ret
    exact ⟨none, 0, 0, rfl, by rw [HL2.out]; rfl, by rw [HL2.out]; exact Seen.nil _ _, HB0.out.trans (HB2.out.mono HB0.out.size)⟩
  obtain ⟨hk1, hk2⟩ := key_len (k := 102) (ts := [a, b, r, d, f, g]) htn rfl (fun x hx => show_len h0 x hx)
  have HL2 : Hid (L = encL ([102] :: tn :: [a, b, r, d, f, g])) := Lib.hid (by rw [hL, if_neg h0]; rfl)
  have HC : Hid (∀ w2 : World, Calls Try.prog 31 #[.slice (some ⟨w2.heap.size, 0, none⟩) 8 8] (w2.alloc (.cells #[strV [102], strV tn, strV a, strV b, strV r, strV d, strV f, strV g] 9)) fun e w' => ∃ A' n' c', e = .returned (.slice A' n' c') ∧ L.length = n' ∧ Seen w' A' L ∧ Below (w2.alloc (.cells #[strV [102], strV tn, strV a, strV b, strV r, strV d, strV f, strV g] 9)).heap.size (w2.alloc (.cells #[strV [102], strV tn, strV a, strV b, strV r, strV d, strV f, strV g] 9)) w') := Lib.hid (fun w2 => by
    have h := refTexts_any (some ⟨w2.heap.size, 0, none⟩) ([102] :: tn :: [a, b, r, d, f, g]) 8 (w2.alloc (.cells #[strV [102], strV tn, strV a, strV b, strV r, strV d, strV f, strV g] 9)) (seen_row w2 _ hk2) (by simp) hk1
    rw [← HL2.out] at h
    refine h.mono ?_
    rintro e w3 ⟨A3, n3, c3, h1, h2, h3, h5⟩
    exact ⟨A3, n3, c3, h1, h2, h3, h5⟩)
  obtain ⟨T, hTe⟩ : ∃ T, T = showT (a, b, r, d, f, g) := ⟨_, rfl⟩
  rw [← hTe] at HI
  have hne : ¬ T = [] := by rw [hTe]; exact h0
  have hne2 : List.isEmpty T = false := by cases T <;> simp_all
  clear hTe
  clear HL2 hL h0 hk1 hk2
  go_enter Try.func13, Try.ntmps13
  go_wp2_with (first
    | (go_at_call 20; rw [← HW.out]; refine HI.out.mono ?_; rintro e w2 ⟨rfl, hb2⟩; have HB2 := Lib.hid hb2; clear hb2; obtain ⟨y0, y1, y2, y3, y4, y5⟩ := HX.out w2 HB2.out)
    | (go_at_call 31; refine (HC.out _).mono ?_; rintro e w3 ⟨A3, n3, c3, rfl, hn3, hs3, hb3⟩; have HN3 := Lib.hid hn3; have HS3 := Lib.hid hs3; have HB3 := Lib.hid (hop (HB2.out.alloc HB2.out.size _) hb3); clear hb3 hn3 hs3))
  go_ret
  exact ⟨A3, n3, c3, rfl, HN3.out, HS3.out, HB0.out.trans (HB3.out.mono HB0.out.size)⟩
set_option maxRecDepth 100000 in
set_option maxHeartbeats 2000000 in
theorem refBack_any (tn : Txt) (t : Tup) (W : World) (htn : tn.length ≤ 1000000) (ht : ∀ x ∈ six t, x.length ≤ 9223372036854775807) :
    Calls Try.prog 15 #[strV tn, .agg ((six t).map strV).toArray] W (BytesP W (backT tn t)) := by
  unfold BytesP
  obtain ⟨L, hL⟩ : ∃ L, L = backT tn t := ⟨_, rfl⟩
  rw [← hL]
  unfold backT at hL
  obtain ⟨a, b, r, d, f, g⟩ := t
  show Calls _ _ #[strV tn, .agg #[strV a, strV b, strV r, strV d, strV f, strV g]] _ _
  obtain ⟨W1, hW⟩ : ∃ W1, W1 = W.alloc (.cells #[strV a, strV b, strV r, strV d, strV f, strV g] 30) := ⟨_, rfl⟩
  have hKT : Blk W1 W.heap.size [strV a, strV b, strV r, strV d, strV f, strV g] 30 := by rw [hW]; exact Blk.new W _ _
  have hB0 : Below W.heap.size W W1 := by rw [hW]; exact (Below.refl _ _).alloc (Nat.le_refl _) _
  have HX : Hid (∀ w, Below W1.heap.size W1 w → w.cell? ⟨W.heap.size, 0, none⟩ = some (strV a) ∧ w.cell? ⟨W.heap.size, 1, none⟩ = some (strV b) ∧ w.cell? ⟨W.heap.size, 2, none⟩ = some (strV r) ∧ w.cell? ⟨W.heap.size, 3, none⟩ = some (strV d) ∧ w.cell? ⟨W.heap.size, 4, none⟩ = some (strV f) ∧ w.cell? ⟨W.heap.size, 5, none⟩ = some (strV g)) := Lib.hid (fun w hw => by
    have h2 := hKT.below hw hKT.lt
    exact ⟨h2.cell (i := 0) (by simp), h2.cell (i := 1) (by simp), h2.cell (i := 2) (by simp), h2.cell (i := 3) (by simp), h2.cell (i := 4) (by simp), h2.cell (i := 5) (by simp)⟩)
  have HI : Hid (Calls Try.prog 20 #[.agg #[strV a, strV b, strV r, strV d, strV f, strV g]] W1 fun e w' => e = .returned (strV (showT (a, b, r, d, f, g))) ∧ Below W1.heap.size W1 w') := Lib.hid (refShowTuple_any a b r d f g W1 (ht a (by simp [six])) (ht b (by simp [six])) (ht r (by simp [six])) (ht d (by simp [six])) (ht f (by simp [six])) (ht g (by simp [six])))
  have HB0 := Lib.hid hB0
  have HW := Lib.hid hW
  clear hKT hB0 hW ht
  by_cases h0 : showT (a, b, r, d, f, g) = []
  · have HL2 : Hid (L = []) := Lib.hid (by rw [hL, if_pos h0])
    rw [h0] at HI
    clear hL h0
    go_enter Try.func15, Try.ntmps15
    go_wp2_with (go_at_call 20; rw [← HW.out]; refine HI.out.mono ?_; rintro e w2 ⟨rfl, hb2⟩; have HB2 := Lib.hid hb2; clear hb2)
    go_ret
    exact ⟨none, 0, 0, rfl, by rw [HL2.out]; rfl, by rw [HL2.out]; exact Seen.nil _ _, HB0.out.trans (HB2.out.mono HB0.out.size)⟩
  obtain ⟨hk1, hk2⟩ := key_len (k := 114) (ts := [d, f, g, a, b, r]) htn rfl (fun x hx => back_len h0 x hx)
  have HL2 : Hid (L = encL ([114] :: tn :: [d, f, g, a, b, r])) := Lib.hid (by rw [hL, if_neg h0]; rfl)
  have HC : Hid (∀ w2 : World, Calls Try.prog 31 #[.slice (some ⟨w2.heap.size, 0, none⟩) 8 8] (w2.alloc (.cells #[strV [114], strV tn, strV d, strV f, strV g, strV a, strV b, strV r] 9)) fun e w' => ∃ A' n' c', e = .returned (.slice A' n' c') ∧ L.length = n' ∧ Seen w' A' L ∧ Below (w2.alloc (.cells #[strV [114], strV tn, strV d, strV f, strV g, strV a, strV b, strV r] 9)).heap.size (w2.alloc (.cells #[strV [114], strV tn, strV d, strV f, strV g, strV a, strV b, strV r] 9)) w') := Lib.hid (fun w2 => by
    have h := refTexts_any (some ⟨w2.heap.size, 0, none⟩) ([114] :: tn :: [d, f, g, a, b, r]) 8 (w2.alloc (.cells #[strV [114], strV tn, strV d, strV f, strV g, strV a, strV b, strV r] 9)) (seen_row w2 _ hk2) (by simp) hk1
    rw [← HL2.out] at h
    refine h.mono ?_
    rintro e w3 ⟨A3, n3, c3, h1, h2, h3, h5⟩
    exact ⟨A3, n3, c3, h1, h2, h3, h5⟩)
  obtain ⟨T, hTe⟩ : ∃ T, T = showT (a, b, r, d, f, g) := ⟨_, rfl⟩
  rw [← hTe] at HI
  have hne : ¬ T = [] := by rw [hTe]; exact h0
  have hne2 : List.isEmpty T = false := by cases T <;> simp_all
  clear hTe
  clear HL2 hL h0 hk1 hk2
  go_enter Try.func15, Try.ntmps15
  go_wp2_with (first
    | (go_at_call 20; rw [← HW.out]; refine HI.out.mono ?_; rintro e w2 ⟨rfl, hb2⟩; have HB2 := Lib.hid hb2; clear hb2; obtain ⟨y0, y1, y2, y3, y4, y5⟩ := HX.out w2 HB2.out)
    | (go_at_call 31; refine (HC.out _).mono ?_; rintro e w3 ⟨A3, n3, c3, rfl, hn3, hs3, hb3⟩; have HN3 := Lib.hid hn3; have HS3 := Lib.hid hs3; have HB3 := Lib.hid (hop (HB2.out.alloc HB2.out.size _) hb3); clear hb3 hn3 hs3))
  go_ret
  exact ⟨A3, n3, c3, rfl, HN3.out, HS3.out, HB0.out.trans (HB3.out.mono HB0.out.size)⟩
end Go.Proofs.Ytehabjiacgibpaa
