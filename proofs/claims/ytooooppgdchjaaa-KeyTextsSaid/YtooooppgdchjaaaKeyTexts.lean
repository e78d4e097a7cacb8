/-
  The statement KeyTexts: any texts are the key that the document says, and that of their bytes. Condition: the row's own.
-/
import Derived.Test.YtooooppgdchjaaaKeyWake
import Derived.Test.YtooooppgdchjaaaRefTexts
namespace Go.Proofs.Ytooooppgdchjaaa
open Go.RowKit

/-- the bytes of a text -/
def lob (a : ByteArray) : List UInt8 := a.data.toList
theorem lob_back (a : ByteArray) : (⟨(lob a).toArray⟩ : ByteArray) = a := by cases a; simp [lob]
theorem length_lob (a : ByteArray) : (lob a).length = a.size := by cases a; simp [lob, ByteArray.size]

theorem bytes_of_string (w : World) (a : ByteArray) : ∃ (c : Nat) (w' : World), (convert 9 23 (.string a)).run Try.prog w = .ok (.slice (some ⟨w.heap.size, 0, none⟩) a.size c) w' ∧
    Seen w' (some ⟨w.heap.size, 0, none⟩) (lob a) ∧ a.size ≤ c ∧ Below w.heap.size w w' := by
  obtain ⟨c, w', h1, h2, h3, h4, _⟩ := bytes_of_text w (lob a)
  rw [lob_back, length_lob] at h1
  rw [length_lob] at h3
  exact ⟨c, w', h1, h2, h3, h4⟩

section
variable (a b c : ByteArray)
def key3 : List UInt8 := encL [lob a, lob b, lob c]
theorem length_key3 {a b c : ByteArray} (ha : a.size ≤ 1000) (hb : b.size ≤ 1000) (hc : c.size ≤ 1000) : (key3 a b c).length ≤ 6006 := by
  have := length_encL (m := 1000) [lob a, lob b, lob c] (by
    intro p hp
    simp at hp
    rcases hp with rfl | rfl | rfl <;> rw [length_lob] <;> assumption)
  simpa [key3] using this
theorem texts3 (w : World) (ha : a.size ≤ 1000) (hb : b.size ≤ 1000) (hc : c.size ≤ 1000) (m : Nat) (hm : (key3 a b c).length = m) :
    Calls Try.prog 17 #[.slice (some ⟨w.heap.size, 0, none⟩) 3 3] (w.alloc (.cells #[.string a, .string b, .string c] 9)) fun e w' => ∃ A' c', e = .returned (.slice A' m c') ∧ Seen w' A' (key3 a b c) ∧ Below w.heap.size w w' := by
  subst hm
  have hs : SeenT (w.alloc (.cells #[.string a, .string b, .string c] 9)) (some ⟨w.heap.size, 0, none⟩) [lob a, lob b, lob c] := seenT_new w 9 [a, b, c] (by
    intro t ht
    simp at ht
    rcases ht with rfl | rfl | rfl <;> omega)
  refine (texts_any _ [lob a, lob b, lob c] 3 _ hs (by simp) (by have := length_key3 ha hb hc; unfold key3 at this; omega)).mono ?_
  rintro e w' ⟨A, n, c', rfl, hl, hs, _, hb⟩
  subst hl
  exact ⟨A, c', rfl, hs, hop ((Below.refl _ _).alloc (Nat.le_refl _) _) hb⟩
theorem refTexts3 (w : World) (ha : a.size ≤ 1000) (hb : b.size ≤ 1000) (hc : c.size ≤ 1000) (m : Nat) (hm : (key3 a b c).length = m) :
    Calls Try.prog 18 #[.slice (some ⟨w.heap.size, 0, none⟩) 3 3] (w.alloc (.cells #[.string a, .string b, .string c] 9)) fun e w' => ∃ A' c', e = .returned (.slice A' m c') ∧ Seen w' A' (key3 a b c) ∧ Below w.heap.size w w' := by
  subst hm
  have hs : SeenT (w.alloc (.cells #[.string a, .string b, .string c] 9)) (some ⟨w.heap.size, 0, none⟩) [lob a, lob b, lob c] := seenT_new w 9 [a, b, c] (by
    intro t ht
    simp at ht
    rcases ht with rfl | rfl | rfl <;> omega)
  refine (refTexts_any _ [lob a, lob b, lob c] 3 _ hs (by simp) (by have := length_key3 ha hb hc; unfold key3 at this; omega)).mono ?_
  rintro e w' ⟨A, n, c', rfl, hl, hs, hb⟩
  subst hl
  exact ⟨A, c', rfl, hs, hop ((Below.refl _ _).alloc (Nat.le_refl _) _) hb⟩
theorem enc3 (w : World) (A B C : Option Addr) (x y z : Nat) (sa : Seen w A (lob a)) (sb : Seen w B (lob b)) (sc : Seen w C (lob c)) (hx : a.size ≤ x) (hy : b.size ≤ y) (hz : c.size ≤ z) (ha : a.size ≤ 1000) (hb : b.size ≤ 1000) (hc : c.size ≤ 1000) (m : Nat) (hm : (key3 a b c).length = m) :
    Calls Try.prog 15 #[.slice (some ⟨w.heap.size, 0, none⟩) 3 3] (w.alloc (.cells #[.slice A a.size x, .slice B b.size y, .slice C c.size z] 23)) fun e w' => ∃ A' c', e = .returned (.slice A' m c') ∧ Seen w' A' (key3 a b c) ∧ Below w.heap.size w w' := by
  subst hm
  have hs := seenAll_new w 23 [(A, lob a, x), (B, lob b, y), (C, lob c, z)] (by
    intro q hq
    simp at hq
    rcases hq with rfl | rfl | rfl
    · exact ⟨sa, by show (lob a).length ≤ _; rw [length_lob]; exact hx, by show (lob a).length ≤ _; rw [length_lob]; omega⟩
    · exact ⟨sb, by show (lob b).length ≤ _; rw [length_lob]; exact hy, by show (lob b).length ≤ _; rw [length_lob]; omega⟩
    · exact ⟨sc, by show (lob c).length ≤ _; rw [length_lob]; exact hz, by show (lob c).length ≤ _; rw [length_lob]; omega⟩)
  rw [show ([(A, lob a, x), (B, lob b, y), (C, lob c, z)] : List Piece).map pv = [.slice A a.size x, .slice B b.size y, .slice C c.size z] by simp [pv, length_lob]] at hs
  refine (encode_any _ [(A, lob a, x), (B, lob b, y), (C, lob c, z)] 3 _ hs (by simp) (by have := length_key3 ha hb hc; unfold key3 at this; show (encL [lob a, lob b, lob c]).length ≤ _; omega)).mono ?_
  rintro e w' ⟨A', n, c', rfl, hl, hm⟩
  subst hl
  exact ⟨A', c', rfl, hm.at_len.2, hop ((Below.refl _ _).alloc (Nat.le_refl _) _) hm.2⟩
end
theorem texts0 (w : World) : Calls Try.prog 17 #[.slice none 0 0] w fun e w' => ∃ A' c', e = .returned (.slice A' 0 c') ∧ Below w.heap.size w w' := by
  refine (texts_any none [] 0 w (.inl rfl) (by simp) (by decide)).mono ?_
  rintro e w' ⟨A, n, c', rfl, hl, hs, _, hb⟩
  obtain rfl : 0 = n := hl
  exact ⟨A, c', rfl, hb⟩

set_option maxRecDepth 100000 in
set_option maxHeartbeats 1000000 in
theorem keyTexts_long (a b c : ByteArray) (w : World) (h : 1000 < a.size ∨ 1000 < b.size ∨ 1000 < c.size) (ha : a.size ≤ 140737488351232) (hb : b.size ≤ 140737488351232) (hc : c.size ≤ 140737488351232) :
    Calls Try.prog 4 #[.string a, .string b, .string c] w fun e w' => e = .returned (.bool true) ∧ Below w.heap.size w w' := by
  by_cases h1 : 1000 < a.size
  · go_enter Try.func4, Try.ntmps4
    go_wp2_with fail
    refine (awake_any _).mono ?_
    rintro e w1 ⟨rfl, hb1⟩
    have B1 := Lib.hid hb1
    clear hb1
    go_wp2_with fail
    go_ret
    exact ⟨rfl, B1.out⟩
  · by_cases h2 : 1000 < b.size
    · go_enter Try.func4, Try.ntmps4
      go_wp2_with fail
      refine (awake_any _).mono ?_
      rintro e w1 ⟨rfl, hb1⟩
      have B1 := Lib.hid hb1
      clear hb1
      go_wp2_with fail
      go_ret
      exact ⟨rfl, B1.out⟩
    · have h3 : 1000 < c.size := by omega
      go_enter Try.func4, Try.ntmps4
      go_wp2_with fail
      refine (awake_any _).mono ?_
      rintro e w1 ⟨rfl, hb1⟩
      have B1 := Lib.hid hb1
      clear hb1
      go_wp2_with fail
      go_ret
      exact ⟨rfl, B1.out⟩

set_option maxRecDepth 100000 in
set_option maxHeartbeats 1000000 in
theorem keyTexts_short (a b c : ByteArray) (w : World) (ha : a.size ≤ 1000) (hb : b.size ≤ 1000) (hc : c.size ≤ 1000) :
    Calls Try.prog 4 #[.string a, .string b, .string c] w fun e w' => e = .returned (.bool true) ∧ Below w.heap.size w w' := by
  obtain ⟨m, hm⟩ : ∃ m, (key3 a b c).length = m := ⟨_, rfl⟩
  have H3 := Lib.hid (fun w => texts3 a b c w ha hb hc m hm)
  have HR := Lib.hid (fun w => refTexts3 a b c w ha hb hc m hm)
  have HE := Lib.hid (fun w A B C x y z sa sb sc hx hy hz => enc3 a b c w A B C x y z sa sb sc hx hy hz ha hb hc m hm)
  obtain ⟨L, hL⟩ : ∃ L, L = key3 a b c := ⟨_, rfl⟩
  rw [← hL] at H3 HR HE hm
  obtain ⟨T, hT⟩ : ∃ T : ByteArray, T = ⟨L.toArray⟩ := ⟨_, rfl⟩
  have HU : Hid (∀ w' A' c', Seen w' A' L → (convert 23 9 (.slice A' m c')).run Try.prog w' = .ok (.string T) w') := by
    intro w' A' c' hs; rw [hT]; exact text_on hs m c' hm _ (Below.refl _ _)
  clear hL hT hm
  go_enter Try.func4, Try.ntmps4
  go_wp2_with fail
  refine (awake_any _).mono ?_
  rintro e w1 ⟨rfl, hb1⟩
  have B1 := Lib.hid hb1
  clear hb1
  go_wp2_with fail
  refine (H3.out w1).mono ?_
  rintro e w2 ⟨A2, c2, rfl, hs2, hb2⟩
  have u2 := HU.out _ _ c2 hs2
  have B2 := Lib.hid (hop B1.out hb2)
  clear hs2 hb2 H3 B1
  go_wp2_with fail
  refine (HR.out w2).mono ?_
  rintro e w3 ⟨A3, c3, rfl, hs3, hb3⟩
  have u3 := HU.out _ _ c3 hs3
  have B3 := Lib.hid (hop B2.out hb3)
  clear hs3 hb3 HR u2 B2
  obtain ⟨x, w4, k4, s4, hx, b4⟩ := bytes_of_string w3 a
  obtain ⟨y, w5, k5, s5, hy, b5⟩ := bytes_of_string w4 b
  obtain ⟨z, w6, k6, s6, hz, b6⟩ := bytes_of_string w5 c
  have H6 := Lib.hid (HE.out w6 _ _ _ x y z ((s4.below b5).below b6) (s5.below b6) s6 hx hy hz)
  have B6 := Lib.hid (hop B3.out (hop b4 (hop b5 b6)))
  clear s4 s5 s6 b4 b5 b6 HE B3 hx hy hz
  go_wp2_with fail
  refine H6.out.mono ?_
  rintro e w7 ⟨A7, c7, rfl, hs7, hb7⟩
  have u7 := HU.out _ _ c7 hs7
  have B7 := Lib.hid (hop B6.out hb7)
  clear hs7 hb7 H6 B6 u3 k4 k5 k6
  go_wp2_with fail
  refine (texts0 _).mono ?_
  rintro e w8 ⟨A8, c8, rfl, hb8⟩
  have u8 := text_on (Seen.nil w8 A8) 0 c8 rfl _ (Below.refl _ _)
  have B8 := Lib.hid (hop B7.out hb8)
  clear hb8 B7 u7
  go_wp2_with fail
  go_ret
  exact ⟨rfl, B8.out⟩

theorem keyTexts_walk (a b c : ByteArray) (w : World) (ha : a.size ≤ 140737488351232) (hb : b.size ≤ 140737488351232) (hc : c.size ≤ 140737488351232) :
    Calls Try.prog 4 #[.string a, .string b, .string c] w fun e w' => e = .returned (.bool true) ∧ Below w.heap.size w w' := by
  by_cases h : 1000 < a.size ∨ 1000 < b.size ∨ 1000 < c.size
  · exact keyTexts_long a b c w h ha hb hc
  · exact keyTexts_short a b c w (by omega) (by omega) (by omega)
end Go.Proofs.Ytooooppgdchjaaa
