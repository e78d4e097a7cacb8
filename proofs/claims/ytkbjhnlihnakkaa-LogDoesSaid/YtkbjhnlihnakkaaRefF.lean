/-
  What the document's May, Size, sum and Encode come to. Condition: the data are at most 2^46 bytes.
-/
import Derived.Test.YtkbjhnlihnakkaaFEncode
namespace Go.Proofs.Ytkbjhnlihnakkaa
open Go.RowKit

theorem refPut_made (A : Option Addr) (l : List UInt8) (n c m : Nat) (w : World) (hn : l.length = n) (hl : n ≤ 140737488351232) (hm : m ≤ 9223372036854775807) (hs : Seen w A l) :
    Calls Try.prog 69 #[.slice A n c, .int .i64 (m : Int)] w fun e w' => ∃ A' k c', e = .returned (.slice A' k c') ∧ MadeN 5 w (l ++ putL m) A' k c' w' := by
  subst hn
  refine (refPut_any A l c m w hl hm hs).mono ?_
  rintro e w' ⟨v, rfl, hm⟩
  exact hm.named.elim fun A ⟨m, c, h1, h2⟩ => ⟨A, m, c, by rw [h1], h2⟩
theorem refCrc_made (A : Option Addr) (l : List UInt8) (n c : Nat) (w : World) (hn : l.length = n) (hl : n ≤ 9223372036854775807) (hs : Seen w A l) :
    Calls Try.prog 79 #[.slice A n c] w fun e w' => e = .returned (.int .u32 (crcOf l : Nat)) ∧ w = w' := by
  subst hn
  exact refCrc_any A l c w hl hs

theorem refSize_any (n : Int) (w : World) (h0 : -9223372036854775808 ≤ n) (h1 : n ≤ 9223372036854775807) :
    Calls Try.prog 62 #[.int .i64 n] w fun e w' => e = .returned (.int .i64 (sizeL n)) ∧ Below w.heap.size w w' := by
  by_cases hn : n < 0
  · have HE : Hid (sizeL n = 0) := if_pos (.inl hn)
    go_enter Try.func62, Try.ntmps62
    go_wp2_with fail
    go_ret
    exact ⟨ret_int HE.out.symm, Below.refl _ _⟩
  · by_cases hb : 65536 < n
    · have HE : Hid (sizeL n = 0) := if_pos (.inr hb)
      have hn' : 0 ≤ n := by omega
      clear hn
      go_enter Try.func62, Try.ntmps62
      go_wp2_with fail
      go_ret
      exact ⟨ret_int HE.out.symm, Below.refl _ _⟩
    · obtain ⟨m, rfl⟩ := Int.eq_ofNat_of_zero_le (show 0 ≤ n by omega)
      have HE : Hid (sizeL (m : Int) = ((putL m).length : Int) + m + 21) := by show _ = _; rw [sizeL, if_neg (by omega)]; rfl
      have hm : m ≤ 65536 := by omega
      have h3 := putL3 hm
      have HL : Hid ((putL m).length ≤ 3) := h3
      clear hn hb h3
      go_enter Try.func62, Try.ntmps62
      go_wp2_with fail
      refine (refPut_made none [] 0 0 m _ rfl (by omega) (by omega) (.inl rfl)).mono ?_
      rintro e w1 ⟨A, k, c, rfl, hk⟩
      have HK : Hid ((putL m).length = k) := hk.1
      have HB := Lib.hid hk.2.2
      have hk3 : k ≤ 3 := by have := HL.out; have := HK.out; omega
      clear hk
      go_wp2_with fail
      go_ret
      refine ⟨ret_int ?_, HB.out⟩
      rw [HE.out, HK.out]

set_option maxHeartbeats 400000 in
theorem refMay_any (g s : Int) (A : Option Addr) (n c : Nat) (w : World) (hl : n ≤ 9223372036854775807) (g0 : -9223372036854775808 ≤ g) (g1 : g ≤ 9223372036854775807) (s0 : -9223372036854775808 ≤ s) (s1 : s ≤ 9223372036854775807) :
    Calls Try.prog 65 #[.agg #[.int .i64 g, .int .i64 s, .slice A n c]] w fun e w' => e = .returned (.bool (mayB g s n)) ∧ Below w.heap.size w w' := by
  by_cases h1 : 0 ≤ g
  · by_cases h2 : g ≤ 1152921504606846976
    · by_cases h3 : 0 ≤ s
      · by_cases h4 : s ≤ 1152921504606846976
        · by_cases h5 : n ≤ 65536
          · have HE : Hid (mayB g s n = true) := decide_eq_true ⟨h1, h2, h3, h4, h5⟩
            go_enter Try.func65, Try.ntmps65
            go_wp2_with fail
            go_ret
            exact ⟨ret_bool (show decide ((n : Int) ≤ 65536) = mayB g s n from by rw [HE.out]; exact decide_eq_true (by omega)), (Below.refl _ _).alloc (Nat.le_refl _) _⟩
          · have HE : Hid (mayB g s n = false) := decide_eq_false (by omega)
            go_enter Try.func65, Try.ntmps65
            go_wp2_with fail
            go_ret
            exact ⟨ret_bool (show decide ((n : Int) ≤ 65536) = mayB g s n from by rw [HE.out]; exact decide_eq_false (by omega)), (Below.refl _ _).alloc (Nat.le_refl _) _⟩
        · have HE : Hid (mayB g s n = false) := decide_eq_false (by omega)
          go_enter Try.func65, Try.ntmps65
          go_wp2_with fail
          go_ret
          exact ⟨ret_bool HE.out.symm, (Below.refl _ _).alloc (Nat.le_refl _) _⟩
      · have HE : Hid (mayB g s n = false) := decide_eq_false (by omega)
        go_enter Try.func65, Try.ntmps65
        go_wp2_with fail
        go_ret
        exact ⟨ret_bool HE.out.symm, (Below.refl _ _).alloc (Nat.le_refl _) _⟩
    · have HE : Hid (mayB g s n = false) := decide_eq_false (by omega)
      go_enter Try.func65, Try.ntmps65
      go_wp2_with fail
      go_ret
      exact ⟨ret_bool HE.out.symm, (Below.refl _ _).alloc (Nat.le_refl _) _⟩
  · have HE : Hid (mayB g s n = false) := decide_eq_false (by omega)
    go_enter Try.func65, Try.ntmps65
    go_wp2_with fail
    go_ret
    exact ⟨ret_bool HE.out.symm, (Below.refl _ _).alloc (Nat.le_refl _) _⟩

set_option maxHeartbeats 400000 in
theorem refSum_any (A : Option Addr) (l : List UInt8) (n c : Nat) (w : World) (hn : l.length = n) (hl : n ≤ 9223372036854775807) (hs : Seen w A l) :
    Calls Try.prog 64 #[.slice A n c] w fun e w' => ∃ A', e = .returned (.slice A' 4 4) ∧ Seen w' A' (sumOf l) ∧ Below w.heap.size w w' := by
  have HN := Lib.hid hn
  have HS := Lib.hid hs
  clear hn hs
  go_enter Try.func64, Try.ntmps64
  go_wp2_with fail
  refine (refCrc_made A l n c _ HN.out hl HS.out).mono ?_
  rintro e w1 ⟨rfl, rfl⟩
  have hxl := crcOf_lt l
  have HX := Lib.hid (sum4_cells (crcOf l) hxl)
  have HE : Hid (sumOf l = sum4 (crcOf l)) := rfl
  generalize crcOf l = X at *
  go_wp2_with fail
  go_ret
  refine ⟨_, rfl, ?_, (Below.refl _ _).alloc (Nat.le_refl _) _⟩
  rw [HE.out, ← HX.out]
  exact seen_mark _ _ _ (0, 0)

set_option maxRecDepth 100000 in
set_option maxHeartbeats 2000000 in
theorem refEncode_any (g s : Int) (A : Option Addr) (d : List UInt8) (n c : Nat) (w : World) (hs : Seen w A d) (hn : d.length = n) (hl : n ≤ 9223372036854775807) (g0 : -9223372036854775808 ≤ g) (g1 : g ≤ 9223372036854775807) (s0 : -9223372036854775808 ≤ s) (s1 : s ≤ 9223372036854775807) :
    Calls Try.prog 54 #[.agg #[.int .i64 g, .int .i64 s, .slice A n c]] w fun e w' => ∃ A' n' c', e = .returned (.slice A' n' c') ∧ MadeN 5 w (encF g s d) A' n' c' w' := by
  obtain ⟨i0, hi, hz0, hz1, hz2⟩ := info_parts info8p
  have HN := Lib.hid hn
  have HS := Lib.hid (hs.below (boxed_below w g s (.slice A n c)))
  have HBX := Lib.hid (boxed_below w g s (.slice A n c))
  have HCELL : Hid (∀ W, Below (boxed w g s (.slice A n c)).heap.size (boxed w g s (.slice A n c)) W → W.cell? ⟨w.heap.size, 0, none⟩ = some (.int .i64 g) ∧ W.cell? ⟨w.heap.size, 1, none⟩ = some (.int .i64 s) ∧ W.cell? ⟨w.heap.size, 2, none⟩ = some (.slice A n c)) := fun W hb => boxed_cells hb
  obtain ⟨W0, hW0⟩ : ∃ W0, W0 = boxed w g s (.slice A n c) := ⟨_, rfl⟩
  rw [← hW0] at HS HBX HCELL
  have HW0 : Hid (W0 = w.alloc (.cells #[.int .i64 g, .int .i64 s, .slice A n c] 77)) := hW0
  have HMAY := Lib.hid (fun W => refMay_any g s A n c W hl g0 g1 s0 s1)
  clear hs hW0
  by_cases hm : mayB g s d.length = true
  · have HE := Lib.hid (encF_may hm)
    rw [← HN.out] at HMAY
    rw [hm] at HMAY
    rw [HN.out] at HMAY
    have n1 := (mayB_true hm).2.2.2.2
    have hn65 : n ≤ 65536 := by omega
    clear hm hn
    go_enter Try.func54, Try.ntmps54
    go_wp2_with fail
    rw [← HW0.out]
    refine (HMAY.out W0).mono ?_
    rintro e w1 ⟨rfl, hb1⟩
    have HB1 := Lib.hid hb1
    have HS245 : Hid (Seen (w1.alloc (.cells #[.int .u8 245] 5)) (some ⟨w1.heap.size, 0, none⟩) [245]) := seen_mark w1 5 [245] (0, 0)
    have HB1' : Hid (Below W0.heap.size W0 (w1.alloc (.cells #[.int .u8 245] 5))) := hb1.alloc hb1.size _
    obtain ⟨p0, p1, p2⟩ := HCELL.out _ HB1'.out
    clear hb1
    go_wp2_with fail
    refine (refPut_made (some ⟨w1.heap.size, 0, none⟩) [245] 1 1 n _ rfl (by omega) (by omega) HS245.out).mono ?_
    rintro e w3 ⟨A3, N3, c3, rfl, hm3⟩
    have HM3 : Hid (MadeN 5 W0 ([245] ++ putL n) A3 N3 c3 w3) := ⟨hm3.1, hm3.2.since HB1'.out⟩
    have hN3 : N3 ≤ 4 := by
      have h1 := hm3.1
      have h2 := putL3 hn65
      rw [List.length_append] at h1
      simp only [List.length_cons, List.length_nil] at h1
      omega
    obtain ⟨q0, q1, q2⟩ := HCELL.out w3 HM3.out.2.2
    clear hm3 p0 p1 p2
    go_wp2_with fail
    refine (refWide_any g w3).mono ?_
    rintro e w4 ⟨A4, rfl, hs4, hb4⟩
    have HS4 : Hid (Seen w4 A4 (wideI g)) := hs4
    have HM4 := Lib.hid (HM3.out.below hb4)
    have L8 : Hid ((wideI g).length = 8) := wideI_length g
    clear hs4 hb4 q0 q1 q2 HM3
    obtain ⟨D3, hD3⟩ : ∃ D : List UInt8, D = [245] ++ putL n := ⟨_, rfl⟩
    rw [← hD3] at HM4
    obtain ⟨D5, hD5⟩ : ∃ D : List UInt8, D = D3 ++ wideI g := ⟨_, rfl⟩
    obtain ⟨N5, hN5⟩ : ∃ N : Nat, N = N3 + 8 := ⟨_, rfl⟩
    have ED3 := Lib.hid hD3
    have ED5 := Lib.hid hD5
    have EN5 := Lib.hid hN5
    clear hD3 hD5 hN5
    go_wp2_with (at_builtin; refine wpList_append_to w4 rfl (.tmp 15) (.tmp 18) 22 rfl 5 i0 (.int .u8 0) Try.underlying22 hi hz0 hz1 hz2 rfl W0 A3 N3 c3 D3 A4 8 8 (wideI g) D5 N5 rfl rfl HM4 HS4 L8 ED5 EN5 (by omega) ?_)
    intro A5 c5 w5 HM5 _
    obtain ⟨p0, p1, p2⟩ := HCELL.out w5 HM5.out.2.2
    clear HM4 HS4
    go_wp2_with fail
    refine (refWide_any s w5).mono ?_
    rintro e w6 ⟨A6, rfl, hs6, hb6⟩
    have HS6 : Hid (Seen w6 A6 (wideI s)) := hs6
    have HM6 := Lib.hid (HM5.out.below hb6)
    have L8' : Hid ((wideI s).length = 8) := wideI_length s
    clear hs6 hb6 p0 p1 p2 HM5
    obtain ⟨D7, hD7⟩ : ∃ D : List UInt8, D = D5 ++ wideI s := ⟨_, rfl⟩
    obtain ⟨N7, hN7⟩ : ∃ N : Nat, N = N5 + 8 := ⟨_, rfl⟩
    have ED7 := Lib.hid hD7
    have EN7 := Lib.hid hN7
    clear hD7 hN7
    have hN5 : N5 ≤ 18 := by have := EN5.out; omega
    go_wp2_with (at_builtin; refine wpList_append_to w6 rfl (.tmp 20) (.tmp 23) 22 rfl 5 i0 (.int .u8 0) Try.underlying22 hi hz0 hz1 hz2 rfl W0 A5 N5 c5 D5 A6 8 8 (wideI s) D7 N7 rfl rfl HM6 HS6 L8' ED7 EN7 (by omega) ?_)
    intro A7 c7 w7 HM7 _
    obtain ⟨p0, p1, p2⟩ := HCELL.out w7 HM7.out.2.2
    clear HM6 HS6
    have HSD := Lib.hid (HS.out.below HM7.out.2.2)
    obtain ⟨D8, hD8⟩ : ∃ D : List UInt8, D = D7 ++ d := ⟨_, rfl⟩
    obtain ⟨N8, hN8⟩ : ∃ N : Nat, N = N7 + n := ⟨_, rfl⟩
    have ED8 := Lib.hid hD8
    have EN8 := Lib.hid hN8
    clear hD8 hN8
    have hN7 : N7 ≤ 26 := by have := EN7.out; omega
    go_wp2_with (at_builtin; refine wpList_append_to w7 rfl (.tmp 25) (.tmp 27) 22 rfl 5 i0 (.int .u8 0) Try.underlying22 hi hz0 hz1 hz2 rfl W0 A7 N7 c7 D7 A n c d D8 N8 rfl rfl HM7 HSD HN ED8 EN8 (by omega) ?_)
    intro A8 c8 w8 HM8 _
    clear HM7 HSD p0 p1 p2
    have hN8 : N8 ≤ 70000 := by have := EN8.out; omega
    go_wp2_with fail
    refine (refSum_any A8 D8 N8 c8 w8 HM8.out.1 (by omega) HM8.out.seen).mono ?_
    rintro e w9 ⟨A9, rfl, hs9, hb9⟩
    have HS9 := Lib.hid hs9
    have HM9 := Lib.hid (HM8.out.below hb9)
    have L4 : Hid ((sumOf D8).length = 4) := rfl
    clear hs9 hb9 HM8
    obtain ⟨D9, hD9⟩ : ∃ D : List UInt8, D = D8 ++ sumOf D8 := ⟨_, rfl⟩
    obtain ⟨N9, hN9⟩ : ∃ N : Nat, N = N8 + 4 := ⟨_, rfl⟩
    have ED9 := Lib.hid hD9
    have EN9 := Lib.hid hN9
    clear hD9 hN9
    go_wp2_with (at_builtin; refine wpList_append_to w9 rfl (.tmp 31) (.tmp 32) 22 rfl 5 i0 (.int .u8 0) Try.underlying22 hi hz0 hz1 hz2 rfl W0 A8 N8 c8 D8 A9 4 4 (sumOf D8) D9 N9 rfl rfl HM9 HS9 L4 ED9 EN9 (by omega) ?_)
    intro A10 c10 w10 HM10 _
    go_wp2_with fail
    go_ret
    have hD : D9 = encF g s d := by
      have h8 : D8 = headL g s d := by
        rw [ED8.out, ED7.out, ED5.out, ED3.out, headL, HN.out]
        simp
      rw [HE.out, ED9.out, h8, frameL]
    have h9 := HM10.out
    rw [hD] at h9
    exact ⟨A10, N9, c10, rfl, h9.1, h9.2.since HBX.out⟩
  · have hm : mayB g s d.length = false := by simpa using hm
    have HE := Lib.hid (encF_not hm)
    rw [← HN.out] at HMAY
    rw [hm] at HMAY
    rw [HN.out] at HMAY
    clear hm hn
    go_enter Try.func54, Try.ntmps54
    go_wp2_with fail
    rw [← HW0.out]
    refine (HMAY.out W0).mono ?_
    rintro e w1 ⟨rfl, hb1⟩
    have HB1 := Lib.hid hb1
    clear hb1
    go_wp2_with fail
    go_ret
    refine ⟨none, 0, 0, rfl, by rw [HE.out]; rfl, ?_⟩
    rw [HE.out]
    exact ⟨World.ownsRow_nil _ _ _ _, HBX.out.trans (HB1.out.mono HBX.out.size)⟩
end Go.Proofs.Ytkbjhnlihnakkaa
