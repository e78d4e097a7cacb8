/-
  The statement KeyEncodes: any parts are the key, and any bytes are the parts, or none, that the document says. Condition: the row's own.
-/
import Derived.Test.YtooooppgdchjaaaKeyAgain
import Derived.Test.YtooooppgdchjaaaRefEnc
import Derived.Test.YtooooppgdchjaaaRefDec
namespace Go.Proofs.Ytooooppgdchjaaa
open Go.RowKit
attribute [local go_sem ↓] Go.wp_at_zero Go.wp_at_succ

theorem refEncode_known (A : Option Addr) (ps : List Piece) (n c : Nat) (w : World) (hn : ps.length = n) (hs : SeenAll w A ps) (L : List UInt8) (m : Nat) (hL : encL (bytesOf ps) = L) (hm : L.length = m) (hn' : n ≤ 9223372036854775807) (hb : m ≤ 140737488355328) :
    Calls Try.prog 16 #[.slice A n c] w fun e w' => ∃ A' c', e = .returned (.slice A' m c') ∧ Seen w' A' L ∧ m ≤ c' ∧ Below w.heap.size w w' := by
  subst hn hL hm
  refine (refEncode_any A ps c w hs hn' hb).mono ?_
  rintro e w' ⟨A', n', c', rfl, hl, hm⟩
  subst hl
  exact ⟨A', c', rfl, hm.at_len.2, (own_len hm.1).2, hm.2⟩
theorem dec_few {b : List UInt8} {D : Option (List (List UInt8))} (h : D = decL b [] []) : (D.getD []).length ≤ b.length := by
  rcases D with _ | L
  · simp
  · have := (dec_length b [] [] L h.symm).1
    simpa using this

set_option maxRecDepth 100000 in
set_option maxHeartbeats 1000000 in
theorem keyEncodes_walk (A : Option Addr) (ps : List Piece) (c : Nat) (B : Option Addr) (b : List UInt8) (d : Nat) (w : World) (hn : ps.length ≤ 9223372036854775807) (hs : SeenAll w A ps) (hl : b.length ≤ 140737488351232) (hs' : Seen w B b) :
    Calls Try.prog 3 #[.slice A ps.length c, .slice B b.length d] w fun e w' => e = .returned (.bool true) ∧ Below w.heap.size w w' := by
  have HS := Lib.hid hs
  have HS' := Lib.hid hs'
  clear hs hs'
  have HFW := Lib.hid (fun w hs => few_any A ps c w hs hn)
  obtain ⟨v, hv⟩ : ∃ v, v = fewB ps := ⟨_, rfl⟩
  rw [← hv] at HFW
  rcases v with _ | _
  · clear hv
    go_enter Try.func3, Try.ntmps3
    go_wp2_with fail
    refine (awake_any _).mono ?_
    rintro e w1 ⟨rfl, hb1⟩
    have B1 := Lib.hid hb1
    clear hb1
    go_wp2_with fail
    refine (HFW.out _ (HS.out.below B1.out)).mono ?_
    rintro e w2 ⟨rfl, rfl⟩
    go_wp2_with fail
    go_ret
    exact ⟨rfl, B1.out⟩
  · by_cases hlong : 10000 < b.length
    · clear hv
      go_enter Try.func3, Try.ntmps3
      go_wp2_with fail
      refine (awake_any _).mono ?_
      rintro e w1 ⟨rfl, hb1⟩
      have B1 := Lib.hid hb1
      clear hb1
      go_wp2_with fail
      refine (HFW.out _ (HS.out.below B1.out)).mono ?_
      rintro e w2 ⟨rfl, rfl⟩
      go_wp2_with fail
      go_ret
      exact ⟨rfl, B1.out⟩
    · obtain ⟨hn60, _, hlen⟩ := few_bounds hv.symm
      obtain ⟨L, hL⟩ : ∃ L, L = encL (bytesOf ps) := ⟨_, rfl⟩
      obtain ⟨m, hm⟩ : ∃ m, m = L.length := ⟨_, rfl⟩
      rw [← hL, ← hm] at hlen
      have HL := Lib.hid hL
      have HM := Lib.hid hm
      obtain ⟨n, hn'⟩ : ∃ n, n = ps.length := ⟨_, rfl⟩
      rw [← hn'] at HFW hn60 ⊢
      have HN := Lib.hid hn'.symm
      have HD1 := Lib.hid (fun w' h => decode_any B b d w' h (by omega))
      have HD2 := Lib.hid (fun w' h => refDecode_any B b d w' h (by omega))
      obtain ⟨D, hD⟩ : ∃ D, D = decL b [] [] := ⟨_, rfl⟩
      rw [← hD] at HD1 HD2
      have HF := Lib.hid (dec_few hD)
      obtain ⟨er, her⟩ : ∃ er, er = errOf D := ⟨_, rfl⟩
      have HER := Lib.hid her.symm
      clear hv hL hm hn' hD her hn
      go_enter Try.func3, Try.ntmps3
      go_wp2_with fail
      refine (awake_any _).mono ?_
      rintro e w1 ⟨rfl, hb1⟩
      have B1 := Lib.hid hb1
      clear hb1
      go_wp2_with fail
      refine (HFW.out _ (HS.out.below B1.out)).mono ?_
      rintro e w2 ⟨rfl, rfl⟩
      clear HFW
      go_wp2_with fail
      refine (HD1.out _ (HS'.out.below B1.out)).mono ?_
      rintro e w3 ⟨A3, q3, n3, c3, rfl, hn3, hs3, hq3, hb3⟩
      rw [HER.out]
      have B3 := Lib.hid (hop B1.out hb3)
      have S3 := Lib.hid hs3
      have N3 := Lib.hid hn3
      have Q3 := Lib.hid hq3
      clear hs3 hb3 hn3 hq3 HD1
      go_wp2_with fail
      refine (HD2.out _ (HS'.out.below B3.out)).mono ?_
      rintro e w4 ⟨A4, q4, n4, c4, rfl, hn4, hs4, hq4, hb4⟩
      rw [HER.out]
      have B4 := Lib.hid (hop B3.out hb4)
      have S4 := Lib.hid hs4
      have S34 := Lib.hid (S3.out.below hb4)
      have HV : Hid (decide (bytesOf q3 = bytesOf q4) = true) := decide_eq_true (Q3.out.trans hq4.symm)
      have hn34 : n4 ≤ b.length ∧ n3 ≤ b.length := by
        have h1 := congrArg List.length Q3.out
        have h2 := congrArg List.length hq4
        rw [length_bytesOf, N3.out] at h1
        rw [length_bytesOf, hn4] at h2
        have := HF.out
        omega
      have N4 := Lib.hid hn4
      clear hs4 hb4 hn4 hq4 HD2
      go_wp2_with fail
      refine (lists_any A3 q3 n3 c3 A4 q4 n4 c4 _ N3.out N4.out S34.out S4.out (by omega) (by omega)).mono ?_
      rintro e w5 ⟨rfl, hb5⟩
      rw [HV.out]
      have B5 := Lib.hid (hop B4.out hb5)
      have S5 := Lib.hid (HS.out.below B5.out)
      clear hb5 S3 S4 S34 HV
      have HE1 : Hid (∀ w', Below w5.heap.size w5 w' → Calls Try.prog 15 #[.slice A n c] w' fun e w'' => ∃ A' c', e = .returned (.slice A' m c') ∧ Seen w'' A' L ∧ m ≤ c' ∧ Below w'.heap.size w' w'') :=
        fun w' hb => encode_known A ps n c w' HN.out (S5.out.below hb) L m HL.out.symm HM.out.symm (by omega) (by omega)
      have HE2 : Hid (∀ w', Below w5.heap.size w5 w' → Calls Try.prog 16 #[.slice A n c] w' fun e w'' => ∃ A' c', e = .returned (.slice A' m c') ∧ Seen w'' A' L ∧ m ≤ c' ∧ Below w'.heap.size w' w'') :=
        fun w' hb => refEncode_known A ps n c w' HN.out (S5.out.below hb) L m HL.out.symm HM.out.symm (by omega) (by omega)
      obtain ⟨T, hT⟩ : ∃ T : ByteArray, T = ⟨L.toArray⟩ := ⟨_, rfl⟩
      have HT : Hid (∀ w A c, Seen w A L → ∀ w', Below w.heap.size w w' → (convert 23 9 (.slice A m c)).run Try.prog w' = .ok (.string T) w') := by
        intro w A c hs w' hb
        rw [hT]
        exact text_on hs m c HM.out.symm w' hb
      clear hT
      have bd : Below w5.heap.size w5 w5.drew := (Below.refl _ _).drew
      go_wp2_with fail
      go_region_held_law (fun w' => Below w5.heap.size w5 w') (first | exact (Below.refl _ _).drew | assumption | (exact hop ‹Below w5.heap.size w5 _› (by assumption)))
        (first
          | (go_at_call 15; refine (HE1.out _ ?_).mono ?_; (assumption); rintro e w6 ⟨A6, c6, rfl, hs6, _, hb6⟩; have HU6 := Lib.hid (HT.out _ _ c6 hs6); have hv6 := HU6.out _ (Below.refl _ _); (try have hv67 := HU7.out _ hb6); clear hs6)
          | (go_at_call 16; refine (HE2.out _ ?_).mono ?_; (assumption); rintro e w7 ⟨A7, c7, rfl, hs7, _, hb7⟩; have HU7 := Lib.hid (HT.out _ _ c7 hs7); have hv7 := HU7.out _ (Below.refl _ _); (try have hv76 := HU6.out _ hb7); clear hs7))
      all_goals go_wp2_with fail
      all_goals go_ret
      all_goals exact ⟨rfl, hop B5.out (by assumption)⟩
end Go.Proofs.Ytooooppgdchjaaa
