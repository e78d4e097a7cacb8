/-
  The statement KeyBack, the stage's theorem: the parts of a key are those that were put into it. Condition: the row's own.
-/
import Derived.Test.YtooooppgdchjaaaKeyWake
import Derived.Test.YtooooppgdchjaaaFew
import Derived.Test.YtooooppgdchjaaaDec
namespace Go.Proofs.Ytooooppgdchjaaa
open Go.RowKit

theorem few_bounds {ps : List Piece} (h : fewB ps = true) : ps.length ≤ 60 ∧ (∀ q ∈ ps, q.2.1.length ≤ 1000) ∧ (encL (bytesOf ps)).length ≤ 120120 := by
  have h' := of_decide_eq_true h
  refine ⟨h'.1, h'.2, ?_⟩
  have := length_encL (m := 1000) (bytesOf ps) (by
    intro p hp
    obtain ⟨q, hq, rfl⟩ := List.mem_map.1 hp
    exact h'.2 q hq)
  rw [length_bytesOf] at this
  have h2 := h'.1
  omega

set_option maxRecDepth 100000 in
set_option maxHeartbeats 1000000 in
theorem keyBack_walk (A : Option Addr) (ps : List Piece) (c : Nat) (w : World) (hn : ps.length ≤ 9223372036854775807) (hs : SeenAll w A ps) :
    Calls Try.prog 5 #[.slice A ps.length c] w fun e w' => e = .returned (.bool true) ∧ Below w.heap.size w w' := by
  have HS := Lib.hid hs
  clear hs
  have HF := fun w hs => few_any A ps c w hs hn
  have HFW := Lib.hid HF
  clear HF
  obtain ⟨v, hv⟩ : ∃ v, v = fewB ps := ⟨_, rfl⟩
  rw [← hv] at HFW
  rcases v with _ | _
  · clear hv
    go_enter Try.func5, Try.ntmps5
    go_wp2_with fail
    refine (awake_any _).mono ?_
    rintro e w1 ⟨rfl, hb1⟩
    have B1 := Lib.hid hb1
    clear hb1
    go_wp2_with fail
    refine (HFW.out _ (HS.out.below B1.out)).mono ?_
    rintro e w2 ⟨rfl, rfl⟩
    go_wp2_with fail
    go_ret
    exact ⟨rfl, B1.out⟩
  · obtain ⟨hn60, _, hlen⟩ := few_bounds hv.symm
    have HL := Lib.hid hlen
    obtain ⟨n, hn'⟩ : ∃ n, n = ps.length := ⟨_, rfl⟩
    rw [← hn'] at HFW hn60 ⊢
    have HN := Lib.hid hn'.symm
    have HE : Hid (∀ w', SeenAll w' A ps → Calls Try.prog 15 #[.slice A n c] w' fun e w'' => ∃ A' n' c', e = .returned (.slice A' n' c') ∧ MadeN 5 w' (encL (bytesOf ps)) A' n' c' w'') := by
      intro w' hs'
      have h := encode_any A ps c w' hs' hn (by have := HL.out; omega)
      rw [← hn'] at h
      exact h
    clear hv hlen hn hn'
    go_enter Try.func5, Try.ntmps5
    go_wp2_with fail
    refine (awake_any _).mono ?_
    rintro e w1 ⟨rfl, hb1⟩
    have B1 := Lib.hid hb1
    clear hb1
    go_wp2_with fail
    refine (HFW.out _ (HS.out.below B1.out)).mono ?_
    rintro e w2 ⟨rfl, rfl⟩
    go_wp2_with fail
    refine (HE.out _ (HS.out.below B1.out)).mono ?_
    rintro e w3 ⟨A3, n3, c3, rfl, hm3⟩
    have H3 := Lib.hid hm3
    have B3 := Lib.hid (hop B1.out hm3.2.2)
    have HD : Hid (Calls Try.prog 12 #[.slice A3 n3 c3] w3 fun e w' => DecOut w3 (some (bytesOf ps)) e w') := by
      have h := decode_any A3 (encL (bytesOf ps)) c3 w3 H3.out.2.at_len.2 (by have := HL.out; omega)
      rw [dec_enc, H3.out.1] at h
      exact h
    clear hm3 HE HFW
    go_wp2_with fail
    refine HD.out.mono ?_
    rintro e w4 ⟨A4, qs, n4, c4, rfl, hn4, hs4, hb4, hbel4⟩
    have H4 := Lib.hid hs4
    have B4 := Lib.hid (hop B3.out hbel4)
    have HV : Hid (decide (bytesOf qs = bytesOf ps) = true) := decide_eq_true hb4
    have hl4 : n4 = n := by
      have h := congrArg List.length hb4
      rw [length_bytesOf, hn4] at h
      rw [h]
      show (bytesOf ps).length = n
      rw [length_bytesOf, HN.out]
    have HN4 := Lib.hid hn4
    clear hs4 hbel4 hb4 HD hn4
    subst hl4
    have he : errOf (some (bytesOf ps)) = 0 := rfl
    go_wp2_with fail
    refine (lists_any A4 qs n4 c4 A ps n4 c _ HN4.out HN.out H4.out (HS.out.below B4.out) (by omega) (by omega)).mono ?_
    rintro e w5 ⟨rfl, hb5⟩
    rw [HV.out]
    have B5 := Lib.hid (hop B4.out hb5)
    clear hb5
    go_wp2_with fail
    go_ret
    exact ⟨rfl, B5.out⟩
end Go.Proofs.Ytooooppgdchjaaa
