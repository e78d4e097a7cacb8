/-
  What the program's Allowed comes to. Conditions: the schema is there, and can be copied; no text of the tuple is longer than 2^63-1 bytes.
  Composite keys as Lean functions of lists of bytes, and what is plain of them: the parts are read back, keys sort as the lists do, what begins with a prefix. No program is named here.
  Texts of objects, subjects and tuples: what is read is shown as it was, and what is shown is read as it was. No program is named.
  The keys of tuples as lists of bytes; the parts of a tuple that has a text are short. No program is named.
  The chapter's examples of layer 13, as lists. No program is named.
  A clone of bytes; a byte and a number. Condition: the bytes are at most 2^47.
  What the program's Encode and the document's come to: one Lean function of the parts. Condition: the key is at most 2^47 bytes.
  What the document's Encode comes to. Condition: the key is at most 2^47 bytes.
  What Texts comes to, the program's and the document's. Conditions: at most 2^40 texts; the key is at most 2^47 bytes.
  What the document's Texts comes to. Conditions: at most 2^40 texts; the key is at most 2^47 bytes.
-/
import Derived.Test.YtehabjiacgibpaaGreatCTpR
import Derived.Test.YtehabjiacgibpaaGreatCTpO
import Derived.Test.YtehabjiacgibpaaGreatCFlat
import Derived.Test.YtehabjiacgibpaaGreatCNmShow
import Derived.Test.YtehabjiacgibpaaGreatCTuE
import Derived.Test.YtehabjiacgibpaaGreatCRoCx
import Derived.Test.YtehabjiacgibpaaGreatChecked
import Derived.Lib.SliceRun
import Derived.Test.YtehabjiacgibpaaGreatCTrConT
import Derived.Deep.OwnRows
namespace Go.Proofs.YtehabjiacgibpaaGreat
open Go.RowKit
def allowN (s : Sc) (t : Tup) : Int :=
  if showT t = [] then 1 else if (findR s t.1 t.2.2.1).2 = false ∨ typN s t.2.2.2.1 < 0 then 6 else if (findR s t.1 t.2.2.1).1.refs.any (fun r => decide ((t.2.2.2.1, t.2.2.2.2.2) = r)) then 0 else 10
theorem atN_any' {α : Type} (p : α → Bool) : ∀ (l : List α) (i : Nat), decide (0 ≤ atN p l i) = l.any p
  | [], _ => rfl
  | x :: r, i => by
    rw [atN, List.any_cons]
    cases h : p x
    · rw [if_neg (by decide), atN_any' p r (i + 1)]; rfl
    · rw [if_pos rfl, decide_eq_true (by omega)]; rfl
set_option maxRecDepth 100000 in
set_option maxHeartbeats 1000000 in
theorem containsRef_any (x : Rf) (l : List Rf) (c : Nat) (W : World) (F : Nat → Prop) (A : Option Addr) (h : RowAt 2 RfAt W F A l) (hl : l.length ≤ 9223372036854775807) :
    Calls Tryz.prog 38 #[.slice A l.length c, .agg #[strV x.1, strV x.2]] W fun e w' => e = .returned (.bool (l.any (fun r => decide (x = r)))) ∧ Below W.heap.size W w' := by
  have hb := (Below.refl W.heap.size W).alloc (Nat.le_refl _) (.cells #[strV x.1, strV x.2] 85)
  have H := Lib.hid (indexRef_any x l c _ F A (h.moved (Spared.of_below hb F) (fun _ h => .inl h) (fun _ _ _ h => h)) hl)
  have HB := Lib.hid hb
  rw [← atN_any' (fun r => decide (x = r)) l 0]
  generalize atN (fun r => decide (x = r)) l 0 = v at *
  clear h hb
  go_enter Tryz.func38, Tryz.ntmps38
  go_wp2_with (go_at_call 60; refine H.out.mono ?_; rintro e w2 ⟨rfl, hb2⟩; have HB2 := Lib.hid (HB.out.trans (hb2.mono HB.out.size)); clear hb2)
  go_ret
  exact ⟨rfl, HB2.out⟩
set_option maxRecDepth 100000 in
set_option maxHeartbeats 4000000 in
theorem allowed_any (s : Sc) (t : Tup) (W : World) (F : Nat → Prop) (A : Option Addr) (c : Nat) (hs : ScAt W F A s) (hl : s.length ≤ 9223372036854775807) (hcp : cpS s) (ht : ∀ x ∈ six t, x.length ≤ 9223372036854775807) :
    Calls Tryz.prog 17 #[.agg #[.slice A s.length c], .agg ((six t).map strV).toArray] W fun e w' => e = .returned (.int .i64 (allowN s t)) ∧ Below W.heap.size W w' := by
  obtain ⟨v, hv⟩ : ∃ v, v = allowN s t := ⟨_, rfl⟩
  rw [← hv]
  unfold allowN at hv
  have hI := fun w => isTuple_any t w ht
  obtain ⟨a, b, r, d, f, g⟩ := t
  have hsa : small a := ht a (by simp [six])
  dsimp only at hv
  show Calls _ _ #[.agg #[.slice A s.length c], .agg #[strV a, strV b, strV r, strV d, strV f, strV g]] _ _
  obtain ⟨W1, hW⟩ : ∃ W1, W1 = (W.alloc (.cells #[.slice A s.length c] 39)).alloc (.cells #[strV a, strV b, strV r, strV d, strV f, strV g] 34) := ⟨_, rfl⟩
  have hKA : Blk W1 W.heap.size [.slice A s.length c] 39 := by rw [hW]; exact (Blk.new W _ _).alloc _
  have hKT : Blk W1 (W.heap.size + 1) [strV a, strV b, strV r, strV d, strV f, strV g] 34 := by
    rw [hW]
    have := Blk.new (W.alloc (.cells #[.slice A s.length c] 39)) [strV a, strV b, strV r, strV d, strV f, strV g] 34
    rw [World.size_alloc] at this
    exact this
  have hB0 : Below W.heap.size W W1 := by rw [hW]; exact ((Below.refl _ _).alloc (Nat.le_refl _) _).alloc (by simp) _
  have HB0 := Lib.hid hB0
  have HX : Hid (∀ w, Below W1.heap.size W1 w → w.cell? ⟨W.heap.size, 0, none⟩ = some (.slice A s.length c) ∧ w.cell? ⟨W.heap.size + 1, 0, none⟩ = some (strV a) ∧ w.cell? ⟨W.heap.size + 1, 1, none⟩ = some (strV b) ∧ w.cell? ⟨W.heap.size + 1, 2, none⟩ = some (strV r) ∧ w.cell? ⟨W.heap.size + 1, 3, none⟩ = some (strV d) ∧ w.cell? ⟨W.heap.size + 1, 4, none⟩ = some (strV f) ∧ w.cell? ⟨W.heap.size + 1, 5, none⟩ = some (strV g)) := Lib.hid (fun w hw => by
    have h1 := hKA.below hw hKA.lt
    have h2 := hKT.below hw hKT.lt
    exact ⟨h1.cell (i := 0) (by simp), h2.cell (i := 0) (by simp), h2.cell (i := 1) (by simp), h2.cell (i := 2) (by simp), h2.cell (i := 3) (by simp), h2.cell (i := 4) (by simp), h2.cell (i := 5) (by simp)⟩)
  have HI : Hid (Calls Tryz.prog 35 #[.agg #[strV a, strV b, strV r, strV d, strV f, strV g]] W1 fun e w' => e = .returned (.bool (decide (showT (a, b, r, d, f, g) ≠ []))) ∧ Below W1.heap.size W1 w') := Lib.hid (hI W1)
  have HR := Lib.hid (fun w (hw : Below W1.heap.size W1 w) => refsOf_any s a r w F A c (hs.below (hB0.trans (hw.mono hB0.size))) hl hcp hsa)
  have HT := Lib.hid (fun w (hw : Below W1.heap.size W1 w) => typeOf_any s d w F A c (hs.below (hB0.trans (hw.mono hB0.size))) hl)
  have HV := Lib.hid hv
  have HW := Lib.hid hW
  have HLT : Hid (W.heap.size + 1 < W1.heap.size) := Lib.hid hKT.lt
  clear hI hv hKA hKT hB0 hW hs hcp ht hsa
  unfold RefsP at HR
  unfold TypeP at HT
  by_cases h0 : showT (a, b, r, d, f, g) = []
  · have HV2 : Hid (v = 1) := Lib.hid (by rw [HV.out, if_pos h0])
    rw [decide_eq_false (fun h => h h0)] at HI
    clear HV h0
    go_enter Tryz.func17, Tryz.ntmps17
    go_wp2_with (go_at_call 35; rw [← HW.out]; refine HI.out.mono ?_; rintro e w2 ⟨rfl, hb2⟩; have HB2 := Lib.hid hb2; clear hb2)
    go_ret
    exact ⟨by rw [HV2.out]; rfl, HB0.out.trans (HB2.out.mono HB0.out.size)⟩
  have HV2 : Hid (v = if (findR s a r).2 = false ∨ typN s d < 0 then 6 else if (findR s a r).1.refs.any (fun r => decide ((d, g) = r)) then 0 else 10) := Lib.hid (by rw [HV.out, if_neg h0])
  rw [decide_eq_true h0] at HI
  clear HV h0
  have HTY : Hid (∀ w, Below W1.heap.size W1 w → Calls Tryz.prog 37 #[.agg #[.slice A s.length c], strV d] w fun e w' => ∃ (n : Txt) (B : Option Addr) (m k : Nat), e = .returned (.tuple #[.agg #[strV n, .slice B m k], .bool (decide (0 ≤ typN s d))]) ∧ Below w.heap.size w w') := Lib.hid (fun w hw => (HT.out w hw).mono (by
    rintro e w' ⟨B, k, rfl, _, hb⟩
    exact ⟨_, B, _, k, rfl, hb⟩))
  clear HT
  have HRF : Hid (∀ w, Below W1.heap.size W1 w → Calls Tryz.prog 36 #[.agg #[.slice A s.length c], strV a, strV r] w fun e w' => ∃ (B : Option Addr) (k : Nat), e = .returned (.tuple #[.slice B (findR s a r).1.refs.length k, .bool (findR s a r).2]) ∧ (RowAt 2 RfAt w' (fun _ => False) B (findR s a r).1.refs ∧ (findR s a r).1.refs.length ≤ 9223372036854775807) ∧ Below w.heap.size w w') := Lib.hid (fun w hw => (HR.out w hw).mono (by
    rintro e w' ⟨B, k, rfl, h1, h2, hb⟩
    exact ⟨B, k, rfl, ⟨h1, h2⟩, hb⟩))
  clear HR
  generalize findR s a r = R at *
  generalize typN s d = ty at *
  obtain ⟨⟨rn, rf, rx⟩, ok⟩ := R
  dsimp only at HRF HV2
  go_enter Tryz.func17, Tryz.ntmps17
  cases ok with
  | false =>
    have HV3 : Hid (v = 6) := Lib.hid (by rw [HV2.out, if_pos (.inl rfl)])
    clear HV2
    go_wp2_with (first
      | (go_at_call 35; rw [← HW.out]; refine HI.out.mono ?_; rintro e w2 ⟨rfl, hb2⟩; have HB2 := Lib.hid hb2; clear hb2; obtain ⟨x0, y0, y1, y2, y3, y4, y5⟩ := HX.out w2 HB2.out)
      | (go_at_call 36; refine (HRF.out w2 HB2.out).mono ?_; rintro e w3 ⟨B3, k3, rfl, hr3, hb3⟩; have HR3 := Lib.hid hr3; have HB3 := Lib.hid (hop HB2.out hb3); clear hb3 hr3 x0 y0 y1 y2 y3 y4 y5; obtain ⟨x0, y0, y1, y2, y3, y4, y5⟩ := HX.out w3 HB3.out)
      | (go_at_call 37; refine (HTY.out w3 HB3.out).mono ?_; rintro e w4 ⟨n4, B4, m4, k4, rfl, hb4⟩; have HB4 := Lib.hid (hop HB3.out hb4); have HZ4 := Lib.hid hb4; clear hb4 x0 y0 y1 y2 y3 y4 y5; obtain ⟨x0, y0, y1, y2, y3, y4, y5⟩ := HX.out w4 HB4.out; have hlt4 : W.heap.size + 1 < w4.heap.size := Nat.lt_of_lt_of_le HLT.out HB4.out.size))
    go_ret
    exact ⟨by rw [HV3.out]; rfl, (HB0.out.trans (HB4.out.mono HB0.out.size)).alloc (Nat.le_trans HB0.out.size HB4.out.size) _⟩
  | true =>
    by_cases hty : ty < 0
    · have HV3 : Hid (v = 6) := Lib.hid (by rw [HV2.out, if_pos (.inr hty)])
      rw [show decide (0 ≤ ty) = false from decide_eq_false (by omega)] at HTY
      clear HV2
      go_wp2_with (first
        | (go_at_call 35; rw [← HW.out]; refine HI.out.mono ?_; rintro e w2 ⟨rfl, hb2⟩; have HB2 := Lib.hid hb2; clear hb2; obtain ⟨x0, y0, y1, y2, y3, y4, y5⟩ := HX.out w2 HB2.out)
        | (go_at_call 36; refine (HRF.out w2 HB2.out).mono ?_; rintro e w3 ⟨B3, k3, rfl, hr3, hb3⟩; have HR3 := Lib.hid hr3; have HB3 := Lib.hid (hop HB2.out hb3); clear hb3 hr3 x0 y0 y1 y2 y3 y4 y5; obtain ⟨x0, y0, y1, y2, y3, y4, y5⟩ := HX.out w3 HB3.out)
        | (go_at_call 37; refine (HTY.out w3 HB3.out).mono ?_; rintro e w4 ⟨n4, B4, m4, k4, rfl, hb4⟩; have HB4 := Lib.hid (hop HB3.out hb4); have HZ4 := Lib.hid hb4; clear hb4 x0 y0 y1 y2 y3 y4 y5; obtain ⟨x0, y0, y1, y2, y3, y4, y5⟩ := HX.out w4 HB4.out; have hlt4 : W.heap.size + 1 < w4.heap.size := Nat.lt_of_lt_of_le HLT.out HB4.out.size))
      go_ret
      exact ⟨by rw [HV3.out]; rfl, (HB0.out.trans (HB4.out.mono HB0.out.size)).alloc (Nat.le_trans HB0.out.size HB4.out.size) _⟩
    · rw [show decide (0 ≤ ty) = true from decide_eq_true (by omega)] at HTY
      have HV3 : Hid (v = if rf.any (fun r => decide ((d, g) = r)) then 0 else 10) := Lib.hid (by rw [HV2.out, if_neg (by rintro (h | h); cases h; exact hty h)])
      have HC : Hid (∀ (B : Option Addr) (k : Nat) (w w' : World), (RowAt 2 RfAt w (fun _ => False) B rf ∧ rf.length ≤ 9223372036854775807) → Below w.heap.size w w' → Calls Tryz.prog 38 #[.slice B rf.length k, .agg #[strV d, strV g]] w' fun e w2 => e = .returned (.bool (rf.any (fun r => decide ((d, g) = r)))) ∧ Below w'.heap.size w' w2) := Lib.hid (fun B k w w' h hb => containsRef_any (d, g) rf k w' _ B (h.1.moved (Spared.of_below hb _) (fun _ h => .inl h) (fun _ _ _ h => h)) h.2)
      clear HV2 hty
      cases hq : rf.any (fun r => decide ((d, g) = r)) with
      | true =>
        rw [hq] at HC HV3
        clear hq
        go_wp2_with (first
          | (go_at_call 35; rw [← HW.out]; refine HI.out.mono ?_; rintro e w2 ⟨rfl, hb2⟩; have HB2 := Lib.hid hb2; clear hb2; obtain ⟨x0, y0, y1, y2, y3, y4, y5⟩ := HX.out w2 HB2.out)
          | (go_at_call 36; refine (HRF.out w2 HB2.out).mono ?_; rintro e w3 ⟨B3, k3, rfl, hr3, hb3⟩; have HR3 := Lib.hid hr3; have HB3 := Lib.hid (hop HB2.out hb3); clear hb3 hr3 x0 y0 y1 y2 y3 y4 y5; obtain ⟨x0, y0, y1, y2, y3, y4, y5⟩ := HX.out w3 HB3.out)
          | (go_at_call 37; refine (HTY.out w3 HB3.out).mono ?_; rintro e w4 ⟨n4, B4, m4, k4, rfl, hb4⟩; have HB4 := Lib.hid (hop HB3.out hb4); have HZ4 := Lib.hid hb4; clear hb4 x0 y0 y1 y2 y3 y4 y5; obtain ⟨x0, y0, y1, y2, y3, y4, y5⟩ := HX.out w4 HB4.out; have hlt4 : W.heap.size + 1 < w4.heap.size := Nat.lt_of_lt_of_le HLT.out HB4.out.size)
          | (go_at_call 38; refine (HC.out _ _ _ _ HR3.out (HZ4.out.alloc HZ4.out.size _)).mono ?_; rintro e w5 ⟨rfl, hb5⟩; have HB5 := Lib.hid (hop (HB4.out.alloc HB4.out.size _) hb5); clear hb5))
        go_ret
        exact ⟨by rw [HV3.out]; rfl, HB0.out.trans (HB5.out.mono HB0.out.size)⟩
      | false =>
        rw [hq] at HC HV3
        clear hq
        go_wp2_with (first
          | (go_at_call 35; rw [← HW.out]; refine HI.out.mono ?_; rintro e w2 ⟨rfl, hb2⟩; have HB2 := Lib.hid hb2; clear hb2; obtain ⟨x0, y0, y1, y2, y3, y4, y5⟩ := HX.out w2 HB2.out)
          | (go_at_call 36; refine (HRF.out w2 HB2.out).mono ?_; rintro e w3 ⟨B3, k3, rfl, hr3, hb3⟩; have HR3 := Lib.hid hr3; have HB3 := Lib.hid (hop HB2.out hb3); clear hb3 hr3 x0 y0 y1 y2 y3 y4 y5; obtain ⟨x0, y0, y1, y2, y3, y4, y5⟩ := HX.out w3 HB3.out)
          | (go_at_call 37; refine (HTY.out w3 HB3.out).mono ?_; rintro e w4 ⟨n4, B4, m4, k4, rfl, hb4⟩; have HB4 := Lib.hid (hop HB3.out hb4); have HZ4 := Lib.hid hb4; clear hb4 x0 y0 y1 y2 y3 y4 y5; obtain ⟨x0, y0, y1, y2, y3, y4, y5⟩ := HX.out w4 HB4.out; have hlt4 : W.heap.size + 1 < w4.heap.size := Nat.lt_of_lt_of_le HLT.out HB4.out.size)
          | (go_at_call 38; refine (HC.out _ _ _ _ HR3.out (HZ4.out.alloc HZ4.out.size _)).mono ?_; rintro e w5 ⟨rfl, hb5⟩; have HB5 := Lib.hid (hop (HB4.out.alloc HB4.out.size _) hb5); clear hb5))
        go_ret
        exact ⟨by rw [HV3.out]; rfl, HB0.out.trans (HB5.out.mono HB0.out.size)⟩
end Go.Proofs.YtehabjiacgibpaaGreat
namespace Go.Proofs.YtehabjiacgibpaaGreat
def escL (p : List UInt8) : List UInt8 := p.flatMap fun c => if c = 0 then [0, 255] else [c]
def partL (p : List UInt8) : List UInt8 := escL p ++ [0, 1]
def encL (ps : List (List UInt8)) : List UInt8 := ps.flatMap partL
@[simp] theorem escL_nil : escL [] = [] := rfl
theorem escL_cons (c : UInt8) (p : List UInt8) : escL (c :: p) = (if c = 0 then [0, 255] else [c]) ++ escL p := rfl
theorem escL_append (p q : List UInt8) : escL (p ++ q) = escL p ++ escL q := List.flatMap_append
theorem encL_cons (p : List UInt8) (ps : List (List UInt8)) : encL (p :: ps) = partL p ++ encL ps := rfl
theorem encL_append (a b : List (List UInt8)) : encL (a ++ b) = encL a ++ encL b := List.flatMap_append
theorem escL_one (c : UInt8) : escL [c] = if c = 0 then [0, 255] else [c] := by simp [escL]
theorem length_escL (p : List UInt8) : (escL p).length ≤ 2 * p.length := by
  induction p with
  | nil => simp
  | cons c p ih => rw [escL_cons]; split <;> simp <;> omega
theorem length_partL (p : List UInt8) : (partL p).length ≤ 2 * p.length + 2 := by
  have := length_escL p
  simp [partL]; omega
theorem length_encL {m : Nat} : ∀ (ps : List (List UInt8)), (∀ p ∈ ps, p.length ≤ m) → (encL ps).length ≤ ps.length * (2 * m + 2)
  | [], _ => by simp [encL]
  | p :: ps, h => by
    have h1 := length_encL ps (fun q hq => h q (by simp [hq]))
    have h2 := length_partL p
    have h3 := h p (by simp)
    rw [encL_cons, List.length_append, List.length_cons, Nat.add_mul]
    omega
end Go.Proofs.YtehabjiacgibpaaGreat
namespace Go.Proofs.YtehabjiacgibpaaGreat
open Go.RowKit
theorem showO_ne {a b : Txt} (h : showO a b ≠ []) : nameL a = true ∧ idL b = true := by
  unfold showO at h
  by_cases hc : (nameL a && idL b) = true
  · simpa using hc
  · rw [if_neg hc] at h; exact absurd rfl h
theorem showS_ne {a b r : Txt} (h : showS a b r ≠ []) : nameL a = true ∧ idL b = true ∧ (r = [] ∨ nameL r = true) := by
  unfold showS at h
  by_cases hc : showO a b = [] ∨ r = []
  · rw [if_pos hc] at h
    obtain ⟨h1, h2⟩ := showO_ne h
    exact ⟨h1, h2, .inl (hc.resolve_left h)⟩
  · rw [if_neg hc] at h
    by_cases h3 : nameL r = true
    · obtain ⟨h1, h2⟩ := showO_ne (fun e => hc (.inl e))
      exact ⟨h1, h2, .inr h3⟩
    · rw [if_neg h3] at h; exact absurd rfl h
theorem showT_ne {t : Tup} (h : showT t ≠ []) : nameL t.1 = true ∧ idL t.2.1 = true ∧ nameL t.2.2.1 = true ∧ showS t.2.2.2.1 t.2.2.2.2.1 t.2.2.2.2.2 ≠ [] := by
  unfold showT at h
  by_cases hc : showO t.1 t.2.1 = [] ∨ showS t.2.2.2.1 t.2.2.2.2.1 t.2.2.2.2.2 = [] ∨ nameL t.2.2.1 = false
  · rw [if_pos hc] at h; exact absurd rfl h
  · obtain ⟨h1, h2⟩ := showO_ne (fun e => hc (.inl e))
    refine ⟨h1, h2, ?_, fun e => hc (.inr (.inl e))⟩
    cases h3 : nameL t.2.2.1
    · exact absurd (.inr (.inr h3)) hc
    · rfl
end Go.Proofs.YtehabjiacgibpaaGreat
namespace Go.Proofs.YtehabjiacgibpaaGreat
open Go.RowKit
def keyT (tn : Txt) (t : Tup) : List UInt8 := if showT t = [] then [] else encL ([102] :: tn :: six t)
theorem sub_len {a b r : Txt} (h : showS a b r ≠ []) : a.length ≤ 16 ∧ b.length ≤ 24 ∧ r.length ≤ 16 := by
  obtain ⟨h1, h2, h3⟩ := showS_ne h
  refine ⟨(nameL_len h1).2, (idL_len h2).2, ?_⟩
  rcases h3 with rfl | h3
  · simp
  · exact (nameL_len h3).2
theorem show_len {t : Tup} (h : showT t ≠ []) : ∀ x ∈ six t, x.length ≤ 24 := by
  obtain ⟨h1, h2, h3, h4⟩ := showT_ne h
  obtain ⟨h5, h6, h7⟩ := sub_len h4
  have h1 := (nameL_len h1).2
  have h2 := (idL_len h2).2
  have h3 := (nameL_len h3).2
  intro x hx
  simp only [six, List.mem_cons, List.not_mem_nil, or_false] at hx
  rcases hx with rfl | rfl | rfl | rfl | rfl | rfl <;> omega
theorem key_len {tn : Txt} {k : UInt8} {ts : List Txt} (ht : tn.length ≤ 1000000) (hl : ts.length = 6) (h : ∀ x ∈ ts, x.length ≤ 24) : (encL ([k] :: tn :: ts)).length ≤ 140737488355328 ∧ ∀ x ∈ ([k] :: tn :: ts), x.length ≤ 140737488351232 := by
  have hm : ∀ x ∈ ([k] :: tn :: ts), x.length ≤ 1000000 := fun x hx => by
    rcases List.mem_cons.1 hx with rfl | hx
    · simp
    rcases List.mem_cons.1 hx with rfl | hx
    · exact ht
    · exact Nat.le_trans (h x hx) (by decide)
  have := length_encL _ hm
  simp only [List.length_cons, hl] at this
  exact ⟨by omega, fun x hx => Nat.le_trans (hm x hx) (by decide)⟩
end Go.Proofs.YtehabjiacgibpaaGreat
namespace Go.Proofs.YtehabjiacgibpaaGreat
open Go.RowKit
def tpT : Txt := [116, 121, 112, 101, 32, 117, 115, 101, 114, 32, 116, 121, 112, 101, 32, 100, 111, 99, 32, 114, 101, 108, 97, 116, 105, 111, 110, 32, 111, 119, 110, 101, 114, 58, 32, 117, 115, 101, 114]
def tpS : Sc := [⟨[117, 115, 101, 114], []⟩, ⟨[100, 111, 99], [⟨[111, 119, 110, 101, 114], [([117, 115, 101, 114], [])], noEx⟩]⟩]
theorem tp_parse : parseT tpT = (tpS, (0, 0, 0)) := by
  unfold parseT
  rw [← tokF_eq 100 tpT 1 1 (by decide), if_neg (by decide)]
  have h : wholeP (tokF 100 tpT 1 1) = .ok tpS [([], 1, 40)] := by kernel_rfl
  rw [h]
def tpE0 : Txt := [100, 111, 99, 58, 49, 35, 111, 119, 110, 101, 114, 64, 117, 115, 101, 114, 58, 97]
def tpU0 : Tup := ([100, 111, 99], [49], [111, 119, 110, 101, 114], [117, 115, 101, 114], [97], [])
theorem tp_read0 : tupL tpE0 = some tpU0 := by kernel_rfl
theorem tp_allow0 : allowN tpS tpU0 = 0 := by kernel_rfl
def tpE1 : Txt := [100, 111, 99, 58, 49, 35, 111, 119, 110, 101, 114, 64, 100, 111, 99, 58, 50]
def tpU1 : Tup := ([100, 111, 99], [49], [111, 119, 110, 101, 114], [100, 111, 99], [50], [])
theorem tp_read1 : tupL tpE1 = some tpU1 := by kernel_rfl
theorem tp_allow1 : allowN tpS tpU1 = 10 := by kernel_rfl
def tpE2 : Txt := [100, 111, 99, 58, 49, 35, 99, 97, 110, 64, 117, 115, 101, 114, 58, 97]
def tpU2 : Tup := ([100, 111, 99], [49], [99, 97, 110], [117, 115, 101, 114], [97], [])
theorem tp_read2 : tupL tpE2 = some tpU2 := by kernel_rfl
theorem tp_allow2 : allowN tpS tpU2 = 6 := by kernel_rfl
theorem tp_key : (keyT [116] tpU0).length = 32 := by kernel_rfl
theorem tp_cp : cpS tpS := by
  intro t ht
  simp only [tpS, List.mem_cons, List.not_mem_nil, or_false] at ht
  rcases ht with rfl | rfl
  · exact ⟨by simp, fun r hr => by simp at hr⟩
  · refine ⟨by simp, fun r hr => ?_⟩
    simp only [List.mem_cons, List.not_mem_nil, or_false] at hr
    subst hr
    refine ⟨⟨by decide, by decide⟩, fun f hf => ?_⟩
    simp only [List.mem_cons, List.not_mem_nil, or_false] at hf
    subst hf
    exact ⟨by decide, by decide⟩
theorem tp_small0 : ∀ x ∈ six tpU0, x.length ≤ 9223372036854775807 := by decide
theorem tp_small1 : ∀ x ∈ six tpU1, x.length ≤ 9223372036854775807 := by decide
theorem tp_small2 : ∀ x ∈ six tpU2, x.length ≤ 9223372036854775807 := by decide
end Go.Proofs.YtehabjiacgibpaaGreat
namespace Go.Proofs.YtehabjiacgibpaaGreat
open Go.RowKit
theorem infoByte : (Tryz.prog.info? 5).map (fun i => (i.zero, i.size, i.bytes)) = some (some (.int .u8 0), 1, 1) := by kernel_rfl
end Go.Proofs.YtehabjiacgibpaaGreat
namespace Go.Proofs.YtehabjiacgibpaaGreat
open Go.RowKit
theorem Seen.byte {w : World} {A : Option Addr} {l : List UInt8} (h : Seen w A l) (k : Nat) (hk : k < l.length) : ∃ b off, A = some ⟨b, off, none⟩ ∧ w.cell? ⟨b, off + k, none⟩ = some (.int .u8 (l[k].toNat : Int)) := by
  obtain ⟨b, off, h1, _, h2⟩ := h.at_ hk
  exact ⟨b, off, h1, h2⟩
def MadeN (e : TypeId) (w0 : World) (l : List UInt8) (A : Option Addr) (n c : Nat) (w : World) : Prop := l.length = n ∧ Made e w0 l (.slice A n c) w
def AP (w0 : World) (d p : List UInt8) (s i : Value) (wr : World) : Prop :=
  ∃ (k : Nat) (A : Option Addr) (n c : Nat), k ≤ p.length ∧ i = .int .i64 k ∧ s = .slice A n c ∧ MadeN 5 w0 (d ++ escL (p.take k)) A n c wr
theorem esc_next {p : List UInt8} {k : Nat} (h : k < p.length) : escL (p.take (k + 1)) = escL (p.take k) ++ (if p[k] = 0 then [0, 255] else [p[k]]) := by
  rw [List.take_succ_eq_append_getElem h, escL_append, escL_one]
theorem esc_fits {p : List UInt8} (k : Nat) : (escL (p.take k)).length ≤ (escL p).length := by
  rw [← List.take_append_drop k p, escL_append, List.length_append]
  rw [List.take_append_drop]
  omega
set_option maxRecDepth 100000 in
set_option maxHeartbeats 1000000 in
theorem appendPart_any (w0 w : World) (A : Option Addr) (d : List UInt8) (n c : Nat) (B : Option Addr) (p : List UInt8) (c' : Nat) (H : MadeN 5 w0 d A n c w) (hs : Seen w0 B p) (hb : n + (partL p).length ≤ 140737488355328) :
    Calls Tryz.prog 97 #[.slice A n c, .slice B p.length c'] w fun e w' => ∃ A' n' c', e = .returned (.slice A' n' c') ∧ MadeN 5 w0 (d ++ partL p) A' n' c' w' := by
  obtain ⟨i0, hi, hz0, hz1, hz2⟩ := info_parts infoByte
  have HS := Lib.hid hs
  have HH := Lib.hid H
  have HPL : Hid ((partL p).length = (escL p).length + 2) := by show _ = _; simp [partL]
  have HLP : Hid (p.length ≤ (escL p).length) := by
    show _ ≤ _
    clear HPL hb hs HS
    induction p with
    | nil => simp
    | cons c p ih => rw [escL_cons]; split <;> simp <;> omega
  have HD := Lib.hid H.1
  clear hs H
  have hlen : p.length ≤ 140737488355328 := by have := HPL.out; have := HLP.out; omega
  go_enter Tryz.func97, Tryz.ntmps97
  go_wp2_with fail
  go_loopw [0, 9] (fun s i wr => AP w0 d p s i wr) (fun _ i _ => p.length - (intOf i).toNat)
  case atStart => exact ⟨0, A, n, c, by omega, rfl, rfl, by simpa using HH.out⟩
  case round =>
    clear HH
    obtain ⟨k, A1, n1, c1, hk, rfl, rfl, hm⟩ := hrel
    obtain ⟨D, hD⟩ : ∃ D, D = d ++ escL (p.take k) := ⟨_, rfl⟩
    rw [← hD] at hm
    have ED := Lib.hid hD
    have HM := Lib.hid hm
    clear hm hD
    by_cases hlt : k < p.length
    · obtain ⟨b, off, hB, hc⟩ := (HS.out.below HM.out.2.2).byte k hlt
      subst hB
      have HN : Hid (d ++ escL (p.take (k + 1)) = D ++ (if p[k] = 0 then [0, 255] else [p[k]])) := by show _ = _; rw [esc_next hlt, ED.out, List.append_assoc]
      have HF := Lib.hid (esc_fits (p := p) (k + 1))
      generalize p[k] = y at *
      have hy := y.toNat_lt
      have L1 : Hid (D.length = n1) := HM.out.1
      have hnb : Hid (n1 + (if y = 0 then 2 else 1) ≤ 140737488355328) := by
        have h1 := L1.out
        have h2 := HF.out
        have h3 := HPL.out
        have h5 := HD.out
        have h6 := congrArg List.length HN.out
        have h4 : (if y = 0 then [0, 255] else [y] : List UInt8).length = if y = 0 then 2 else 1 := by split <;> rfl
        rw [List.length_append, List.length_append, h4] at h6
        show _ ≤ _
        omega
      obtain ⟨D2, hD2⟩ : ∃ D2, D2 = D ++ [y] := ⟨_, rfl⟩
      have E2 := Lib.hid hD2
      have L2 : Hid (D2.length = n1 + 1) := by show _ = _; rw [hD2, List.length_append, L1.out, List.length_singleton]
      clear hD2
      by_cases h0 : y = 0
      · have t1 : ((y.toNat : Int) == 0) = true := by rw [h0]; rfl
        rw [if_pos h0] at HN hnb
        have hnb' := hnb.out
        have HZ := Lib.hid h0
        clear h0 hnb
        go_wp2_with (at_builtin; refine wpList_append_one wr rfl (.tmp 13) (.tmp 15) 47 rfl 5 i0 (.int .u8 0) Tryz.underlying47 hi hz0 hz1 hz2 rfl w0 A1 n1 c1 _ _ y rfl rfl HM.out.2 L1.out rfl (by omega) ?_)
        intro A2 c2 w2 HM2
        have H2 : Hid (Made 5 w0 D2 (.slice A2 (n1 + 1) c2) w2) := by show Made _ _ _ _ _; rw [E2.out]; exact HM2
        clear HM2
        go_wp2_with (at_builtin; refine wpList_append_one w2 rfl (.tmp 19) (.tmp 20) 47 rfl 5 i0 (.int .u8 0) Tryz.underlying47 hi hz0 hz1 hz2 rfl w0 A2 (n1 + 1) c2 _ 255 255 rfl rfl H2.out L2.out rfl (by omega) ?_)
        intro A3 c3 w3 HM3
        have H3 : Hid (MadeN 5 w0 (d ++ escL (p.take (k + 1))) A3 (n1 + 2) c3 w3) := by
          have e : d ++ escL (p.take (k + 1)) = D2 ++ [255] := by rw [HN.out, E2.out, HZ.out, List.append_assoc]; rfl
          refine ⟨by rw [e, List.length_append, L2.out]; rfl, ?_⟩
          rw [e]; exact HM3
        clear HM3
        go_wp2_with fail
        go_roundw
        case rel => exact ⟨k + 1, A3, n1 + 2, c3, by omega, by go_num, rfl, H3.out⟩
        case measure => simp [intOf]; omega
      · have t1 : ((y.toNat : Int) == 0) = false := by
          have : y.toNat ≠ 0 := fun e => h0 (UInt8.toNat_inj.1 e)
          rw [beq_eq_false_iff_ne]; omega
        rw [if_neg h0] at HN hnb
        have hnb' := hnb.out
        clear h0 hnb
        go_wp2_with (at_builtin; refine wpList_append_one wr rfl (.tmp 13) (.tmp 15) 47 rfl 5 i0 (.int .u8 0) Tryz.underlying47 hi hz0 hz1 hz2 rfl w0 A1 n1 c1 _ _ y rfl rfl HM.out.2 L1.out rfl (by omega) ?_)
        intro A2 c2 w2 HM2
        have H2 : Hid (MadeN 5 w0 (d ++ escL (p.take (k + 1))) A2 (n1 + 1) c2 w2) := by
          refine ⟨by rw [HN.out, ← E2.out]; exact L2.out, ?_⟩
          rw [HN.out]; exact HM2
        clear HM2
        go_wp2_with fail
        go_roundw
        case rel => exact ⟨k + 1, A2, n1 + 1, c2, by omega, by go_num, rfl, H2.out⟩
        case measure => simp [intOf]; omega
    · obtain rfl : k = p.length := by omega
      have L1 : Hid (D.length = n1) := HM.out.1
      have hnb : n1 + 2 ≤ 140737488355328 := by
        have h1 := L1.out
        have h3 := HPL.out
        have h5 := HD.out
        have h6 := congrArg List.length ED.out
        rw [List.take_length, List.length_append] at h6
        omega
      have EP : Hid (d ++ partL p = D ++ [0, 1]) := by show _ = _; rw [partL, ← List.append_assoc, ED.out, List.take_length]
      go_wp2_with (at_builtin; refine wpList_append_laid wr rfl (.tmp 23) (.tmp 24) 47 rfl 5 i0 (.int .u8 0) Tryz.underlying47 hi hz0 hz1 hz2 rfl w0 A1 n1 c1 _ [0, 1] 2 _ rfl rfl HM.out.2 L1.out rfl rfl hnb ?_)
      intro A2 c2 w2 HM2
      have H2 : Hid (MadeN 5 w0 (d ++ partL p) A2 (n1 + 2) c2 w2) := by
        refine ⟨by rw [EP.out, List.length_append, L1.out]; rfl, ?_⟩
        rw [EP.out]; exact HM2
      clear HM2
      go_wp2_with fail
      go_ret
      exact ⟨A2, n1 + 2, c2, rfl, H2.out⟩
def EP (w : World) (ps : List Piece) (s i : Value) (wr : World) : Prop :=
  ∃ (k : Nat) (A : Option Addr) (n c : Nat), k ≤ ps.length ∧ i = .int .i64 k ∧ s = .slice A n c ∧ MadeN 5 w (encL (bytesOf (ps.take k))) A n c wr
theorem enc_next {ps : List Piece} {k : Nat} (h : k < ps.length) : encL (bytesOf (ps.take (k + 1))) = encL (bytesOf (ps.take k)) ++ partL ps[k].2.1 := by
  rw [List.take_succ_eq_append_getElem h, bytesOf, List.map_append, encL_append]
  simp [encL, bytesOf]
theorem enc_fits {ps : List Piece} (k : Nat) : (encL (bytesOf (ps.take k))).length ≤ (encL (bytesOf ps)).length := by
  have h := encL_append (bytesOf (ps.take k)) (bytesOf (ps.drop k))
  rw [show bytesOf (ps.take k) ++ bytesOf (ps.drop k) = bytesOf ps by rw [bytesOf, bytesOf, ← List.map_append, List.take_append_drop]; rfl] at h
  rw [h, List.length_append]
  omega
set_option maxRecDepth 100000 in
set_option maxHeartbeats 1000000 in
theorem encode_any (A : Option Addr) (ps : List Piece) (c : Nat) (w : World) (hs : SeenAll w A ps) (hn : ps.length ≤ 9223372036854775807) (hb : (encL (bytesOf ps)).length ≤ 140737488355328) :
    Calls Tryz.prog 64 #[.slice A ps.length c] w fun e w' => ∃ A' n' c', e = .returned (.slice A' n' c') ∧ MadeN 5 w (encL (bytesOf ps)) A' n' c' w' := by
  have HS := Lib.hid hs
  have HB := Lib.hid hb
  clear hs hb
  go_enter Tryz.func64, Tryz.ntmps64
  go_wp2_with fail
  go_loopw [3, 8] (fun s i wr => EP w ps s i wr) (fun _ i _ => ps.length - (intOf i).toNat)
  case atStart => exact ⟨0, none, 0, 0, by omega, rfl, rfl, rfl, Made.nil _ _⟩
  case round =>
    obtain ⟨k, A1, n1, c1, hk, rfl, rfl, hm⟩ := hrel
    have HM := Lib.hid hm
    clear hm
    by_cases hlt : k < ps.length
    · obtain ⟨b, off, hA, hbw, hc, hsk, hck, hmk⟩ := HS.out.at_ k hlt
      subst hA
      have hc' : wr.cell? ⟨b, off + k, none⟩ = some (.slice ps[k].1 ps[k].2.1.length ps[k].2.2) := (HM.out.2.2.cell (p := ⟨b, off + k, none⟩) hbw).trans hc
      have HN := Lib.hid (enc_next hlt)
      have hfit := enc_fits (ps := ps) (k + 1)
      rw [HN.out, List.length_append, HM.out.1] at hfit
      have HF := Lib.hid (Nat.le_trans hfit HB.out)
      clear hc hfit
      generalize ps[k].1 = Ak at *
      generalize ps[k].2.1 = lk at *
      generalize ps[k].2.2 = ck at *
      have HSK := Lib.hid hsk
      clear hsk
      go_wp2_with fail
      refine (appendPart_any w wr A1 _ n1 c1 Ak lk ck HM.out HSK.out HF.out).mono ?_
      rintro e w2 ⟨A2, n2, c2, rfl, hm2⟩
      have H2 : Hid (MadeN 5 w (encL (bytesOf (ps.take (k + 1)))) A2 n2 c2 w2) := by show MadeN _ _ _ _ _ _ _; rw [HN.out]; exact hm2
      clear hm2
      go_wp2_with fail
      go_roundw
      case rel => exact ⟨k + 1, A2, n2, c2, by omega, by go_num, rfl, H2.out⟩
      case measure => simp [intOf]; omega
    · obtain rfl : k = ps.length := by omega
      have H2 : Hid (MadeN 5 w (encL (bytesOf ps)) A1 n1 c1 wr) := by have h := HM.out; rw [List.take_length] at h; exact h
      clear HM
      go_wp2_with fail
      go_ret
      exact ⟨A1, n1, c1, rfl, H2.out⟩
end Go.Proofs.YtehabjiacgibpaaGreat
namespace Go.Proofs.YtehabjiacgibpaaGreat
open Go.RowKit
end Go.Proofs.YtehabjiacgibpaaGreat
namespace Go.Proofs.YtehabjiacgibpaaGreat
open Go.RowKit
theorem infoPart : (Tryz.prog.info? 47).map (fun i => (i.zero, i.size, i.bytes)) = some (some (.slice none 0 0), 1, 24) := by kernel_rfl
def SeenT (w : World) (A : Option Addr) (ts : List (List UInt8)) : Prop :=
  ts = [] ∨ ∃ b off, A = some ⟨b, off, none⟩ ∧ b < w.heap.size ∧ ∀ j (h : j < ts.length), w.cell? ⟨b, off + j, none⟩ = some (.string ⟨(ts[j]).toArray⟩) ∧ ts[j].length ≤ 140737488351232
theorem SeenT.at_ {w : World} {A : Option Addr} {ts : List (List UInt8)} (h : SeenT w A ts) (k : Nat) (hk : k < ts.length) :
    ∃ b off, A = some ⟨b, off, none⟩ ∧ b < w.heap.size ∧ w.cell? ⟨b, off + k, none⟩ = some (.string ⟨(ts[k]).toArray⟩) ∧ ts[k].length ≤ 140737488351232 := by
  rcases h with rfl | ⟨b, off, rfl, hb, hc⟩
  · simp at hk
  · exact ⟨b, off, rfl, hb, hc k hk⟩
theorem bytes_of_text (w : World) (l : List UInt8) : ∃ (c : Nat) (w' : World), (convert 9 47 (.string ⟨l.toArray⟩)).run Tryz.prog w = .ok (.slice (some ⟨w.heap.size, 0, none⟩) l.length c) w' ∧
    Seen w' (some ⟨w.heap.size, 0, none⟩) l ∧ l.length ≤ c ∧ Below w.heap.size w w' ∧ w.heap.size < w'.heap.size := by
  have hr := run_bytes_of_string (P := Tryz.prog) w 9 47 5 ⟨l.toArray⟩ Tryz.underlying9 Tryz.underlying47 Tryz.underlying5
  have hsz : (⟨l.toArray⟩ : ByteArray).size = l.length := by simp [ByteArray.size]
  rw [hsz] at hr
  refine ⟨_, _, hr, .inr ⟨w.heap.size, 0, rfl, by simp, fun j hj => ?_⟩, grownCap_ge w l.length 0 _, ((Below.refl _ _).drew).alloc (Nat.le_refl _) _, by simp⟩
  have h := bytesRow_at ⟨l.toArray⟩ (grownCap w l.length 0 5) j (by simpa using hj)
  rw [Nat.zero_add]
  have e := World.cell?_alloc_mark w.drew (bytesRow ⟨l.toArray⟩ (grownCap w l.length 0 5)) 5 ((bytesRow ⟨l.toArray⟩ (grownCap w l.length 0 5)).size, (bytesRow ⟨l.toArray⟩ (grownCap w l.length 0 5)).size + 1) j
  refine Eq.trans e (h.trans ?_)
  simp
theorem made_row (w : World) (n : Nat) : Blk (w.alloc (.cells (madeCells #[.slice none 0 0] n) 47)) w.heap.size (([] : List Piece).map pv ++ List.replicate (n - 0) (.slice none 0 0)) 47 := by
  have e : madeCells #[Value.slice none 0 0] n = (([] : List Piece).map pv ++ List.replicate (n - 0) (Value.slice none 0 0)).toArray := by
    apply Array.ext
    · simp [madeCells]
    · intro i h1 h2
      simp [madeCells, Nat.mod_one]
  rw [e]
  exact Blk.new w _ _
def TX (w : World) (g : Nat) (ts : List (List UInt8)) (i : Value) (wr : World) : Prop :=
  ∃ (k : Nat) (ps : List Piece), k ≤ ts.length ∧ i = .int .i64 k ∧ ps.length = k ∧ bytesOf ps = ts.take k ∧ Blk wr g (ps.map pv ++ List.replicate (ts.length - k) (.slice none 0 0)) 47 ∧ (∀ q ∈ ps, Free wr (some g) (some g) q) ∧ Below w.heap.size w wr
theorem tx_set {ps : List Piece} {n k : Nat} (hk : ps.length = k) (hn : k < n) (q : Piece) : (ps.map pv ++ List.replicate (n - k) (Value.slice none 0 0)).set k (pv q) = (ps ++ [q]).map pv ++ List.replicate (n - (k + 1)) (Value.slice none 0 0) := by
  obtain ⟨m, rfl⟩ : ∃ m, n = k + (m + 1) := ⟨n - k - 1, by omega⟩
  rw [List.set_append_right _ _ (by simp; omega), List.length_map, hk, Nat.sub_self, show k + (m + 1) - k = m + 1 by omega, show k + (m + 1) - (k + 1) = m by omega, List.replicate_succ, List.set_cons_zero]
  simp
theorem tx_take {ps : List Piece} {ts : List (List UInt8)} {k : Nat} (h : bytesOf ps = ts.take k) (hk : k < ts.length) (q : Piece) (hq : q.2.1 = ts[k]) : bytesOf (ps ++ [q]) = ts.take (k + 1) := by
  rw [bytesOf, List.map_append, ← bytesOf, h, List.take_succ_eq_append_getElem hk]
  simp [hq]
theorem TX.shown {wr : World} {g : Nat} {ps : List Piece} {n : Nat} (hb : Blk wr g (ps.map pv ++ List.replicate (n - n) (.slice none 0 0)) 47) (hf : ∀ q ∈ ps, Free wr (some g) (some g) q) : SeenAll wr (some ⟨g, 0, none⟩) ps := by
  refine .inr ⟨g, 0, rfl, hb.lt, fun j hj => ?_⟩
  obtain ⟨h1, h2, h3⟩ := hf ps[j] (List.getElem_mem hj)
  rw [Nat.sub_self, List.replicate_zero, List.append_nil] at hb
  have hc := hb.cell (i := j) (by simpa using hj)
  rw [List.getElem_map] at hc
  rw [Nat.zero_add]
  refine ⟨hc, ?_, h2, h3⟩
  rcases h1 with h1 | ⟨b, off, hA, hb', _, _, hc⟩
  · exact .inl h1
  · exact .inr ⟨b, off, hA, hb', hc⟩
set_option maxRecDepth 100000 in
set_option maxHeartbeats 1000000 in
theorem texts_any (A : Option Addr) (ts : List (List UInt8)) (c : Nat) (w : World) (hs : SeenT w A ts) (hn : ts.length ≤ 1099511627776) (hb : (encL ts).length ≤ 140737488355328) :
    Calls Tryz.prog 40 #[.slice A ts.length c] w fun e w' => ∃ A' n' c', e = .returned (.slice A' n' c') ∧ (encL ts).length = n' ∧ Seen w' A' (encL ts) ∧ n' ≤ c' ∧ Below w.heap.size w w' := by
  have HS := Lib.hid hs
  have HB := Lib.hid hb
  have hmk := run_make_row' (P := Tryz.prog) 124 47 (.slice none 0 0) 24 Tryz.underlying124 infoPart rfl .i64 .i64 ts.length (by omega) (by omega)
  clear hs hb
  go_enter Tryz.func40, Tryz.ntmps40
  go_wp2_with fail
  go_loopw [11] (fun i wr => TX w w.heap.size ts i wr) (fun i _ => ts.length - (intOf i).toNat)
  case atStart => exact ⟨0, [], by omega, rfl, rfl, rfl, made_row w ts.length, (fun q hq => by simp at hq), (Below.refl _ _).alloc (Nat.le_refl _) _⟩
  case round =>
    clear hmk
    obtain ⟨k, ps, hk, rfl, hps, hbo, hblk, hfr, hbel⟩ := hrel
    have HP := Lib.hid hps
    have HO := Lib.hid hbo
    have HK := Lib.hid hblk
    have HF := Lib.hid hfr
    have BW := Lib.hid hbel
    clear hps hbo hblk hfr hbel
    by_cases hlt : k < ts.length
    · obtain ⟨b, off, hA, hbw, hc, hmax⟩ := HS.out.at_ k hlt
      subst hA
      have hc' := (BW.out.cell (p := ⟨b, off + k, none⟩) hbw).trans hc
      have HT : Hid (∀ q : Piece, q.2.1 = ts[k] → bytesOf (ps ++ [q]) = ts.take (k + 1)) := fun q hq => tx_take HO.out hlt q hq
      clear hc
      obtain ⟨l, hl⟩ : ∃ l, l = ts[k] := ⟨_, rfl⟩
      rw [← hl] at hc' hmax HT
      clear hl
      obtain ⟨cc, w2, hrun, hs2, hcc, hb2, hz2⟩ := bytes_of_text wr l
      have hlt1 : w.heap.size < wr.heap.size := HK.out.lt
      have HK2 := Lib.hid (HK.out.below hb2 hlt1)
      have hcell : w2.cell? ⟨w.heap.size, k, none⟩ = some (.slice none 0 0) := by
        have h := HK2.out.cell (i := k) (by simp [HP.out]; omega)
        rw [h, List.getElem_append_right (by simp [HP.out])]
        simp
      have hfz := HK2.out.free k
      obtain ⟨g2, hg2⟩ : ∃ g2, g2 = wr.heap.size := ⟨_, rfl⟩
      rw [← hg2] at hrun hs2
      have HQ : Hid (Free w2 (some w.heap.size) (some w.heap.size) (some ⟨g2, 0, none⟩, l, cc)) := by
        refine ⟨?_, hcc, by show l.length ≤ _; omega⟩
        rcases hs2 with h0 | ⟨b', off', hA, hb', hc'⟩
        · exact .inl h0
        · injection hA with hA
          injection hA with e1 e2 _
          subst e1 e2
          exact .inr ⟨g2, 0, rfl, hb', (by intro e; injection e; omega), (by intro e; injection e; omega), hc'⟩
      have HE : Hid (∀ q ∈ ps ++ [((some ⟨g2, 0, none⟩, l, cc) : Piece)], Free (w2.setCell ⟨w.heap.size, k, none⟩ (.slice (some ⟨g2, 0, none⟩) l.length cc)) (some w.heap.size) (some w.heap.size) q) := by
        have hgr : w2.grownBy (w2.setCell ⟨w.heap.size, k, none⟩ (.slice (some ⟨g2, 0, none⟩) l.length cc)) (some w.heap.size) := only_setCell (World.grownBy.refl w2 _) k _
        intro q hq
        rcases List.mem_append.1 hq with hq | hq
        · exact ((HF.out q hq).turn (only_of_below hb2 none) (.inl rfl) (.inl rfl) (.inl rfl)).turn hgr (.inr (.inl rfl)) (.inl rfl) (.inl rfl)
        · simp at hq
          subst hq
          exact HQ.out.turn hgr (.inr (.inl rfl)) (.inl rfl) (.inl rfl)
      have HR : Hid (Blk (w2.setCell ⟨w.heap.size, k, none⟩ (.slice (some ⟨g2, 0, none⟩) l.length cc)) w.heap.size ((ps ++ [((some ⟨g2, 0, none⟩, l, cc) : Piece)]).map pv ++ List.replicate (ts.length - (k + 1)) (.slice none 0 0)) 47) := by
        have h := HK2.out.set k (pv (some ⟨g2, 0, none⟩, l, cc))
        rw [tx_set HP.out hlt] at h
        exact h
      have HB2 : Hid (Below w.heap.size w (w2.setCell ⟨w.heap.size, k, none⟩ (.slice (some ⟨g2, 0, none⟩) l.length cc))) := (hop BW.out hb2).setCell (Nat.le_refl _) _
      clear hs2 hb2 HK HK2 HF HQ hg2 hz2
      generalize (⟨l.toArray⟩ : ByteArray) = tl at *
      go_wp2_with fail
      go_roundw
      case rel => exact ⟨k + 1, ps ++ [(some ⟨g2, 0, none⟩, l, cc)], by omega, by go_num, by rw [List.length_append, HP.out]; rfl, HT.out _ rfl, HR.out, HE.out, HB2.out⟩
      case measure => simp [intOf]; omega
    · obtain rfl : k = ts.length := by omega
      have hall : bytesOf ps = ts := by rw [HO.out, List.take_length]
      have HA := Lib.hid hall
      have HV := Lib.hid (TX.shown HK.out HF.out)
      clear hall HK HF
      have HC : Hid (Calls Tryz.prog 64 #[.slice (some ⟨w.heap.size, 0, none⟩) ts.length ts.length] wr fun e w' => ∃ A' n' c', e = .returned (.slice A' n' c') ∧ MadeN 5 wr (encL ts) A' n' c' w') := by
        have h := encode_any (some ⟨w.heap.size, 0, none⟩) ps ts.length wr HV.out (by rw [HP.out]; omega) (by rw [HA.out]; exact HB.out)
        rw [HP.out, HA.out] at h
        exact h
      go_wp2_with fail
      refine HC.out.mono ?_
      rintro e w3 ⟨A3, n3, c3, rfl, hm3⟩
      have H3 := Lib.hid hm3
      clear hm3
      go_wp2_with fail
      go_ret
      exact ⟨A3, n3, c3, rfl, H3.out.1, H3.out.2.at_len.2, (own_len H3.out.2.1).2, hop BW.out H3.out.2.2⟩
end Go.Proofs.YtehabjiacgibpaaGreat
namespace Go.Proofs.YtehabjiacgibpaaGreat
open Go.RowKit
end Go.Proofs.YtehabjiacgibpaaGreat
