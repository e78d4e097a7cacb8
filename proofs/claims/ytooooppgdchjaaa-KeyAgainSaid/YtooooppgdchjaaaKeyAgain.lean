/-
  The statement KeyAgain: bytes that are a key's are the key of the parts that they are. Condition: the row's own.
-/
import Derived.Test.YtooooppgdchjaaaKeyBack
import Derived.Deep.RegionHeldLaw
import Derived.Deep.DrawnRows
namespace Go.Proofs.Ytooooppgdchjaaa
open Go.RowKit
attribute [local go_sem ↓] Go.wp_at_zero Go.wp_at_succ

/-- Encode of parts whose key is known -/
theorem encode_known (A : Option Addr) (ps : List Piece) (n c : Nat) (w : World) (hn : ps.length = n) (hs : SeenAll w A ps) (L : List UInt8) (m : Nat) (hL : encL (bytesOf ps) = L) (hm : L.length = m) (hn' : n ≤ 9223372036854775807) (hb : m ≤ 140737488355328) :
    Calls Try.prog 15 #[.slice A n c] w fun e w' => ∃ A' c', e = .returned (.slice A' m c') ∧ Seen w' A' L ∧ m ≤ c' ∧ Below w.heap.size w w' := by
  subst hn hL hm
  refine (encode_any A ps c w hs hn' hb).mono ?_
  rintro e w' ⟨A', n', c', rfl, hl, hm⟩
  subst hl
  exact ⟨A', c', rfl, hm.at_len.2, (own_len hm.1).2, hm.2⟩

set_option maxRecDepth 100000 in
set_option maxHeartbeats 1000000 in
theorem keyAgain_walk (A : Option Addr) (b : List UInt8) (c : Nat) (w : World) (hl : b.length ≤ 140737488351232) (hs : Seen w A b) :
    Calls Try.prog 6 #[.slice A b.length c] w fun e w' => e = .returned (.bool true) ∧ Below w.heap.size w w' := by
  have HS := Lib.hid hs
  clear hs
  by_cases hlong : 10000 < b.length
  · go_enter Try.func6, Try.ntmps6
    go_wp2_with fail
    refine (awake_any _).mono ?_
    rintro e w1 ⟨rfl, hb1⟩
    have B1 := Lib.hid hb1
    clear hb1
    go_wp2_with fail
    go_ret
    exact ⟨rfl, B1.out⟩
  · have HD := Lib.hid (fun w' h => decode_any A b c w' h (by omega))
    obtain ⟨D, hD⟩ : ∃ D, D = decL b [] [] := ⟨_, rfl⟩
    rw [← hD] at HD
    rcases D with _ | L
    · clear hD
      have he : errOf none = 3 := rfl
      go_enter Try.func6, Try.ntmps6
      go_wp2_with fail
      refine (awake_any _).mono ?_
      rintro e w1 ⟨rfl, hb1⟩
      have B1 := Lib.hid hb1
      clear hb1
      go_wp2_with fail
      refine (HD.out _ (HS.out.below B1.out)).mono ?_
      rintro e w2 ⟨A2, qs, n2, c2, rfl, _, _, _, hb2⟩
      have B2 := Lib.hid (hop B1.out hb2)
      clear hb2
      go_wp2_with fail
      go_region
      go_wp2_with fail
      go_ret
      exact ⟨rfl, B2.out.drew⟩
    · have HL := Lib.hid (enc_dec hD.symm)
      have HQ := Lib.hid (dec_length b [] [] L hD.symm)
      clear hD
      have he : errOf (some L) = 0 := rfl
      go_enter Try.func6, Try.ntmps6
      go_wp2_with fail
      refine (awake_any _).mono ?_
      rintro e w1 ⟨rfl, hb1⟩
      have B1 := Lib.hid hb1
      clear hb1
      go_wp2_with fail
      refine (HD.out _ (HS.out.below B1.out)).mono ?_
      rintro e w2 ⟨A2, qs, n2, c2, rfl, hn2, hs2, hq2, hb2⟩
      have B2 := Lib.hid (hop B1.out hb2)
      have hle : n2 ≤ 10000 := by
        have h := congrArg List.length hq2
        rw [length_bytesOf, hn2] at h
        have h2 := HQ.out.1
        simp at h h2
        omega
      have HE : Hid (∀ w', Below w2.heap.size w2 w' → Calls Try.prog 15 #[.slice A2 n2 c2] w' fun e w'' => ∃ A' c', e = .returned (.slice A' b.length c') ∧ Seen w'' A' b ∧ b.length ≤ c' ∧ Below w'.heap.size w' w'') :=
        fun w' hb => encode_known A2 qs n2 c2 w' hn2 (hs2.below hb) b b.length (by rw [hq2]; exact HL.out) rfl (by omega) (by omega)
      have UB := text_on (HS.out.below B2.out) b.length c rfl
      clear hs2 hb2 hq2 hn2 HD
      obtain ⟨T, hT⟩ : ∃ T : ByteArray, T = ⟨b.toArray⟩ := ⟨_, rfl⟩
      rw [← hT] at UB
      have HT := Lib.hid hT
      clear hT
      have bd : Below w2.heap.size w2 w2.drew := (Below.refl _ _).drew
      go_wp2_with fail
      go_region_held_law (fun w' => Below w2.heap.size w2 w') (first | exact (Below.refl _ _).drew | assumption | (exact hop ‹Below w2.heap.size w2 _› (by assumption)))
        (first
          | (go_at_call 15; refine (HE.out _ ?_).mono ?_; (assumption); rintro e w5 ⟨A5, c5, rfl, hs5, _, hb5⟩; have hu5 := text_on hs5 b.length c5 rfl _ (Below.refl _ _); rw [← HT.out] at hu5; clear hs5))
      all_goals go_wp2_with fail
      all_goals go_ret
      all_goals exact ⟨rfl, hop B2.out (by assumption)⟩
end Go.Proofs.Ytooooppgdchjaaa
