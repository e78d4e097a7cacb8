/-
  The statement FrameEncodes: any frame is the bytes that the document says, or none; so is its size. Condition: the row's own.
-/
import Derived.Test.YtmngcfmlmdhpbaaFAwake
import Derived.Test.YtmngcfmlmdhpbaaRefF
import Derived.Deep.RegionHeldLaw
namespace Go.Proofs.Ytmngcfmlmdhpbaa
open Go.RowKit

set_option maxRecDepth 100000 in
set_option maxHeartbeats 2000000 in
theorem frameEncodes_walk (g s : Int) (A : Option Addr) (d : List UInt8) (c : Nat) (k : Int) (w : World) (g0 : -9223372036854775808 ≤ g) (g1 : g ≤ 9223372036854775807) (s0 : -9223372036854775808 ≤ s) (s1 : s ≤ 9223372036854775807) (hl : d.length ≤ 9223372036854775807) (hs : Seen w A d)
    (k0 : -9223372036854775808 ≤ k) (k1 : k ≤ 9223372036854775807) :
    Calls Try.prog 3 #[.agg #[.int .i64 g, .int .i64 s, .slice A d.length c], .int .i64 k] w fun e w' => e = .returned (.bool true) ∧ Below w.heap.size w w' := by
  obtain ⟨n, hn⟩ : ∃ n, n = d.length := ⟨_, rfl⟩
  rw [← hn] at hl ⊢
  have HN : Hid (d.length = n) := hn.symm
  have HBX := Lib.hid (boxed_below w g s (.slice A n c))
  have HCELL : Hid (∀ W, Below (boxed w g s (.slice A n c)).heap.size (boxed w g s (.slice A n c)) W → W.cell? ⟨w.heap.size, 0, none⟩ = some (.int .i64 g) ∧ W.cell? ⟨w.heap.size, 1, none⟩ = some (.int .i64 s) ∧ W.cell? ⟨w.heap.size, 2, none⟩ = some (.slice A n c)) := fun W hb => boxed_cells hb
  have HS := Lib.hid (hs.below HBX.out)
  obtain ⟨W0, hW0⟩ : ∃ W0, W0 = boxed w g s (.slice A n c) := ⟨_, rfl⟩
  rw [← hW0] at HBX HCELL HS
  have HW0 : Hid (W0 = w.alloc (.cells #[.int .i64 g, .int .i64 s, .slice A n c] 24)) := hW0
  clear hs hn hW0
  by_cases hlong : 70000 < n
  · go_enter Try.func3, Try.ntmps3
    go_wp2_with fail
    rw [← HW0.out]
    refine (awake_any W0).mono ?_
    rintro e w1 ⟨rfl, hb1⟩
    obtain ⟨c0, c1, c2⟩ := HCELL.out w1 hb1
    have HB1 := Lib.hid (hop HBX.out hb1)
    clear hb1
    go_wp2_with fail
    go_ret
    exact ⟨rfl, HB1.out⟩
  · obtain ⟨L, hL⟩ : ∃ L, L = encF g s d := ⟨_, rfl⟩
    obtain ⟨m, hm⟩ : ∃ m, m = L.length := ⟨_, rfl⟩
    have HL := Lib.hid hL
    have HM : Hid (L.length = m) := hm.symm
    obtain ⟨z, hz⟩ : ∃ z, z = sizeL k := ⟨_, rfl⟩
    have HZ := Lib.hid hz
    obtain ⟨T, hT⟩ : ∃ T : ByteArray, T = ⟨L.toArray⟩ := ⟨_, rfl⟩
    have HT : Hid (∀ w A c, Seen w A L → ∀ w', Below w.heap.size w w' → (convert 22 9 (.slice A m c)).run Try.prog w' = .ok (.string T) w') := by
      intro w A c hs w' hb
      rw [hT]
      exact text_on hs m c HM.out w' hb
    clear hL hm hz hT
    go_enter Try.func3, Try.ntmps3
    go_wp2_with fail
    rw [← HW0.out]
    refine (awake_any W0).mono ?_
    rintro e w1 ⟨rfl, hb1⟩
    obtain ⟨c0, c1, c2⟩ := HCELL.out w1 hb1
    have HB1 := Lib.hid (hop HBX.out hb1)
    have HS1 := Lib.hid (HS.out.below hb1)
    have HK : Hid (∀ W, Below w1.heap.size w1 W → Below w1.heap.size w1 W ∧ W.cell? ⟨w.heap.size, 0, none⟩ = some (.int .i64 g) ∧ W.cell? ⟨w.heap.size, 1, none⟩ = some (.int .i64 s) ∧ W.cell? ⟨w.heap.size, 2, none⟩ = some (.slice A n c)) := fun W hb => ⟨hb, HCELL.out W (hop hb1 hb)⟩
    have HE1 : Hid (∀ w', Below w1.heap.size w1 w' → Calls Try.prog 10 #[.agg #[.int .i64 g, .int .i64 s, .slice A n c]] w' fun e w'' => ∃ A' c', e = .returned (.slice A' m c') ∧ Seen w'' A' L ∧ Below w'.heap.size w' w'') := fun w' hb => by
      refine (encode_any g s A d n c w' (HS1.out.below hb) HN.out hl g0 g1 s0 s1).mono ?_
      rintro e w'' ⟨A', n', c', rfl, hm'⟩
      rw [← HL.out] at hm'
      obtain rfl : n' = m := by rw [← hm'.1, HM.out]
      exact ⟨A', c', rfl, hm'.seen, hm'.2.2⟩
    have HE2 : Hid (∀ w', Below w1.heap.size w1 w' → Calls Try.prog 11 #[.agg #[.int .i64 g, .int .i64 s, .slice A n c]] w' fun e w'' => ∃ A' c', e = .returned (.slice A' m c') ∧ Seen w'' A' L ∧ Below w'.heap.size w' w'') := fun w' hb => by
      refine (refEncode_any g s A d n c w' (HS1.out.below hb) HN.out hl g0 g1 s0 s1).mono ?_
      rintro e w'' ⟨A', n', c', rfl, hm'⟩
      rw [← HL.out] at hm'
      obtain rfl : n' = m := by rw [← hm'.1, HM.out]
      exact ⟨A', c', rfl, hm'.seen, hm'.2.2⟩
    have HZ1 : Hid (∀ w', Calls Try.prog 12 #[.int .i64 k] w' fun e w'' => e = .returned (.int .i64 z) ∧ Below w'.heap.size w' w'') := fun w' => by rw [HZ.out]; exact size_any k w' k0 k1
    have HZ2 : Hid (∀ w', Calls Try.prog 13 #[.int .i64 k] w' fun e w'' => e = .returned (.int .i64 z) ∧ Below w'.heap.size w' w'') := fun w' => by rw [HZ.out]; exact refSize_any k w' k0 k1
    have bd : Below w1.heap.size w1 w1.drew := (Below.refl _ _).drew
    clear hb1
    go_wp2_with fail
    go_region_held_law (fun w' => Below w1.heap.size w1 w' ∧ w'.cell? ⟨w.heap.size, 0, none⟩ = some (.int .i64 g) ∧ w'.cell? ⟨w.heap.size, 1, none⟩ = some (.int .i64 s) ∧ w'.cell? ⟨w.heap.size, 2, none⟩ = some (.slice A n c))
      (first | exact HK.out _ bd | assumption | (exact HK.out _ (by assumption)) | (exact HK.out _ (hop bd (by assumption))) | (exact HK.out _ (hop (hop bd (by assumption)) (by assumption))) | (exact HK.out _ (hop (hop (hop bd (by assumption)) (by assumption)) (by assumption))))
      (first
        | (go_at_call 10; refine (HE1.out _ bd).mono ?_; rintro e w6 ⟨A6, c6, rfl, hs6, hb6⟩; have bd6 := hop bd hb6; have HU6 := Lib.hid (HT.out _ _ c6 hs6); have hv6 := HU6.out _ (Below.refl _ _); (try have hv67 := HU7.out _ hb6); clear hs6)
        | (go_at_call 11; refine (HE2.out _ bd6).mono ?_; rintro e w7 ⟨A7, c7, rfl, hs7, hb7⟩; have bd7 := hop bd6 hb7; have HU7 := Lib.hid (HT.out _ _ c7 hs7); have hv7 := HU7.out _ (Below.refl _ _); (try have hv76 := HU6.out _ hb7); clear hs7)
        | (go_at_call 12; refine (HZ1.out _).mono ?_; rintro e w8 ⟨rfl, hb8⟩; have bd8 := hop bd7 hb8)
        | (go_at_call 13; refine (HZ2.out _).mono ?_; rintro e w9 ⟨rfl, hb9⟩; have bd9 := hop bd8 hb9))
    all_goals go_wp2_with fail
    all_goals go_ret
    all_goals exact ⟨rfl, hop HB1.out bd9⟩
end Go.Proofs.Ytmngcfmlmdhpbaa
