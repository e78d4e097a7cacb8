/-
  The statement FrameBack, the stage's theorem: what was encoded is decoded, whatever stands behind it. Condition: the row's own.
-/
import Derived.Test.YtmngcfmlmdhpbaaFAwake
import Derived.Test.YtmngcfmlmdhpbaaRefF
import Derived.Test.YtmngcfmlmdhpbaaFDec
import Derived.Test.YtmngcfmlmdhpbaaLawL
namespace Go.Proofs.Ytmngcfmlmdhpbaa
open Go.RowKit

theorem decode_made (A : Option Addr) (b : List UInt8) (n c : Nat) (w : World) (hn : b.length = n) (hs : Seen w A b) (hc : n ≤ c) (hb : n ≤ 140737488351232) :
    Calls Try.prog 14 #[.slice A n c] w (DecodeOut w (decF b)) := by
  subst hn
  exact decode_any A b c w hs hc hb

set_option maxRecDepth 100000 in
set_option maxHeartbeats 2000000 in
theorem frameBack_walk (g s : Int) (A : Option Addr) (d : List UInt8) (c : Nat) (B : Option Addr) (t : List UInt8) (e : Nat) (w : World) (g0 : -9223372036854775808 ≤ g) (g1 : g ≤ 9223372036854775807) (s0 : -9223372036854775808 ≤ s) (s1 : s ≤ 9223372036854775807) (hl : d.length ≤ 9223372036854775807) (hs : Seen w A d)
    (ht : t.length ≤ 140737488351232) (hs' : Seen w B t) :
    Calls Try.prog 5 #[.agg #[.int .i64 g, .int .i64 s, .slice A d.length c], .slice B t.length e] w fun e w' => e = .returned (.bool true) ∧ Below w.heap.size w w' := by
  obtain ⟨i0, hi, hz0, hz1, hz2⟩ := info_parts info8p
  obtain ⟨n, hn⟩ : ∃ n, n = d.length := ⟨_, rfl⟩
  obtain ⟨m, hm⟩ : ∃ m, m = t.length := ⟨_, rfl⟩
  rw [← hn] at hl ⊢
  rw [← hm] at ht ⊢
  have HN : Hid (d.length = n) := hn.symm
  have HM : Hid (t.length = m) := hm.symm
  have HBX := Lib.hid (boxed_below w g s (.slice A n c))
  have HCELL : Hid (∀ W, Below (boxed w g s (.slice A n c)).heap.size (boxed w g s (.slice A n c)) W → W.cell? ⟨w.heap.size, 0, none⟩ = some (.int .i64 g) ∧ W.cell? ⟨w.heap.size, 1, none⟩ = some (.int .i64 s) ∧ W.cell? ⟨w.heap.size, 2, none⟩ = some (.slice A n c)) := fun W hb => boxed_cells hb
  have HS := Lib.hid (hs.below HBX.out)
  have HS' := Lib.hid (hs'.below HBX.out)
  obtain ⟨W0, hW0⟩ : ∃ W0, W0 = boxed w g s (.slice A n c) := ⟨_, rfl⟩
  rw [← hW0] at HBX HCELL HS HS'
  have HW0 : Hid (W0 = w.alloc (.cells #[.int .i64 g, .int .i64 s, .slice A n c] 24)) := hW0
  clear hs hs' hn hm hW0
  by_cases hlong : 70000 < n ∨ 1000 < m
  · go_enter Try.func5, Try.ntmps5
    go_wp2_with fail
    rw [← HW0.out]
    refine (awake_any W0).mono ?_
    rintro e w1 ⟨rfl, hb1⟩
    obtain ⟨c0, c1, c2⟩ := HCELL.out w1 hb1
    have HB1 := Lib.hid (hop HBX.out hb1)
    clear hb1
    rcases hlong with h | h
    · go_wp2_with fail
      go_ret
      exact ⟨rfl, HB1.out⟩
    · by_cases h7 : 70000 < n
      · go_wp2_with fail
        go_ret
        exact ⟨rfl, HB1.out⟩
      · go_wp2_with fail
        go_ret
        exact ⟨rfl, HB1.out⟩
  · have h7 : ¬ 70000 < n := fun h => hlong (.inl h)
    have h1000 : ¬ 1000 < m := fun h => hlong (.inr h)
    have HENC := Lib.hid (fun W (hb : Below W0.heap.size W0 W) => encode_any g s A d n c W (HS.out.below hb) HN.out hl g0 g1 s0 s1)
    have HMAY := Lib.hid (fun W => refMay_any g s A n c W hl g0 g1 s0 s1)
    clear hlong
    by_cases hmay : mayB g s n = true
    · have hmay' : mayB g s d.length = true := by rw [HN.out]; exact hmay
      have HENCF := Lib.hid (encF_may hmay')
      have HD := Lib.hid (dec_enc hmay' t)
      have HSZ := Lib.hid (sizeL_frame hmay')
      have hfit := encF_fits g s d
      rw [encF_may hmay'] at hfit
      rw [hmay] at HMAY
      obtain ⟨L, hL⟩ : ∃ L, L = frameL g s d := ⟨_, rfl⟩
      obtain ⟨k, hk⟩ : ∃ k, k = L.length := ⟨_, rfl⟩
      have HL := Lib.hid hL
      have HK : Hid (L.length = k) := hk.symm
      have hk6 : k ≤ 65560 := by rw [hk, hL]; exact hfit
      clear hmay hmay' hfit hL hk
      go_enter Try.func5, Try.ntmps5
      go_wp2_with fail
      rw [← HW0.out]
      refine (awake_any W0).mono ?_
      rintro e w1 ⟨rfl, hb1⟩
      obtain ⟨c0, c1, c2⟩ := HCELL.out w1 hb1
      have HB1 := Lib.hid hb1
      clear hb1
      go_wp2_with fail
      refine (HENC.out w1 HB1.out).mono ?_
      rintro e w2 ⟨A2, n2, d2, rfl, hm2⟩
      rw [HENCF.out, ← HL.out] at hm2
      obtain rfl : n2 = k := by rw [← hm2.1, HK.out]
      have HS2 := Lib.hid hm2.seen
      have HB2 := Lib.hid (hop HB1.out hm2.2.2)
      obtain ⟨x0, x1, x2⟩ := HCELL.out w2 HB2.out
      clear hm2 c0 c1 c2
      go_wp2_with fail
      refine (HMAY.out w2).mono ?_
      rintro e w3 ⟨rfl, hb3⟩
      have HS3 := Lib.hid (HS2.out.below hb3)
      have HB3 := Lib.hid (hop HB2.out hb3)
      clear hb3 x0 x1 x2 HS2
      have HM0 : Hid (MadeN 5 w3 [] none 0 0 w3) := ⟨rfl, Made.nil _ _⟩
      have E0 : Hid (L = [] ++ L) := by show _ = _; simp
      have E1 : Hid (n2 = 0 + n2) := by show _ = _; omega
      go_wp2_with (at_builtin; refine wpList_append_to w3 rfl (.const (.slice none 0 0)) (.tmp 34) 22 rfl 5 i0 (.int .u8 0) Try.underlying22 hi hz0 hz1 hz2 rfl w3 none 0 0 [] A2 n2 d2 L L n2 rfl rfl HM0 HS3 HK E0 E1 (by omega) ?_)
      intro A4 c4 w4 HM4 _
      have HT4 : Hid (Seen w4 B t) := HS'.out.below (hop HB3.out HM4.out.2.2)
      obtain ⟨D5, hD5⟩ : ∃ D5, D5 = L ++ t := ⟨_, rfl⟩
      obtain ⟨N5, hN5⟩ : ∃ N5, N5 = n2 + m := ⟨_, rfl⟩
      have ED5 := Lib.hid hD5
      have EN5 := Lib.hid hN5
      have hN5' : N5 ≤ 70000 := by omega
      clear hD5 hN5
      go_wp2_with (at_builtin; refine wpList_append_to w4 rfl (.tmp 35) (.tmp 36) 22 rfl 5 i0 (.int .u8 0) Try.underlying22 hi hz0 hz1 hz2 rfl w3 A4 n2 c4 L B m e t D5 N5 rfl rfl HM4 HT4 HM ED5 EN5 (by omega) ?_)
      intro A5 c5 w5 HM5 _
      have hc5 : N5 ≤ c5 := by have := cap_of HM5.out.2; rw [HM5.out.1] at this; exact this
      have HD5 : Hid (decF D5 = some (g, s, d)) := by show _ = _; rw [ED5.out, HL.out]; exact HD.out
      go_wp2_with fail
      refine (decode_made A5 D5 N5 c5 w5 HM5.out.1 HM5.out.seen hc5 (by omega)).mono ?_
      rintro e w6 ⟨A6, n6, c6, rfl, hm6⟩
      rw [HD5.out] at hm6 ⊢
      have e1 : outF (some (g, s, d)) = (g, s, d) := rfl
      have e2 : sizeF (some (g, s, d)) = n2 := by show (frameL g s d).length = n2; rw [← HL.out, HK.out]
      rw [e1] at hm6 ⊢
      rw [e2]
      simp only at hm6
      obtain rfl : n6 = n := by rw [← hm6.1, HN.out]
      have HM6 := Lib.hid hm6
      have HB6 := Lib.hid (hop (hop HB3.out HM5.out.2.2) hm6.2.2)
      obtain ⟨c0, c1, c2⟩ := HCELL.out w6 HB6.out
      have HSA := Lib.hid (HS.out.below HB6.out)
      have hz6 : w.heap.size < w6.heap.size := by
        have h1 := HBX.out.size
        have h2 := HB6.out.size
        have h3 : W0.heap.size = w.heap.size + 1 := by rw [HW0.out]; simp
        omega
      have hne6 : ¬ w.heap.size = w6.heap.size := by omega
      have hne6' : ¬ w6.heap.size = w.heap.size := by omega
      clear hm6 e1 e2
      have hal : Below w6.heap.size w6 (w6.alloc (.cells #[.int .i64 g, .int .i64 s, .slice A6 n6 c6] 24)) := (Below.refl _ _).alloc (Nat.le_refl _) _
      go_wp2_with fail
      refine (frames_same g s A6 A d n6 c6 n6 c _ HN.out HN.out (HM6.out.seen.below hal) (HSA.out.below hal)).mono ?_
      rintro e w7 ⟨rfl, hb7⟩
      have HB7 := Lib.hid (hop HB6.out (hop hal hb7))
      obtain ⟨x0, x1, x2⟩ := HCELL.out w7 HB7.out
      clear hal hb7 c0 c1 c2
      have hsz : sizeL (n6 : Int) = (n2 : Int) := by rw [← HN.out, HSZ.out, ← HL.out, HK.out]
      have HSIZE := Lib.hid (fun W => size_any (n6 : Int) W (by omega) (by omega))
      rw [hsz] at HSIZE
      clear hsz
      go_wp2_with fail
      refine (HSIZE.out w7).mono ?_
      rintro e w8 ⟨rfl, hb8⟩
      have HB8 := Lib.hid (hop HBX.out (hop HB7.out hb8))
      clear hb8
      go_wp2_with fail
      go_ret
      exact ⟨ret_bool (by simp), HB8.out⟩
    · have hmf : mayB g s n = false := by simpa using hmay
      have hmf' : mayB g s d.length = false := by rw [HN.out]; exact hmf
      have HENCF := Lib.hid (encF_not hmf')
      rw [hmf] at HMAY
      clear hmay hmf hmf'
      go_enter Try.func5, Try.ntmps5
      go_wp2_with fail
      rw [← HW0.out]
      refine (awake_any W0).mono ?_
      rintro e w1 ⟨rfl, hb1⟩
      obtain ⟨c0, c1, c2⟩ := HCELL.out w1 hb1
      have HB1 := Lib.hid hb1
      clear hb1
      go_wp2_with fail
      refine (HENC.out w1 HB1.out).mono ?_
      rintro e w2 ⟨A2, n2, d2, rfl, hm2⟩
      rw [HENCF.out] at hm2
      obtain rfl : n2 = 0 := hm2.1.symm
      have HB2 := Lib.hid (hop HB1.out hm2.2.2)
      obtain ⟨x0, x1, x2⟩ := HCELL.out w2 HB2.out
      clear hm2 c0 c1 c2
      go_wp2_with fail
      refine (HMAY.out w2).mono ?_
      rintro e w3 ⟨rfl, hb3⟩
      have HB3 := Lib.hid (hop HBX.out (hop HB2.out hb3))
      clear hb3 x0 x1 x2
      go_wp2_with fail
      go_ret
      exact ⟨rfl, HB3.out⟩
end Go.Proofs.Ytmngcfmlmdhpbaa
