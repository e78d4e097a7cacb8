/-
  The statement FrameBatches: any puts are the bytes, and any bytes are the puts, or none, that the document says. Condition: the row's own.
-/
import Derived.Test.YtmngcfmlmdhpbaaFramePuts
import Derived.Test.YtmngcfmlmdhpbaaRefPutsAll
import Derived.Test.YtmngcfmlmdhpbaaRefBatch
import Derived.Deep.RegionHeldLaw
namespace Go.Proofs.Ytmngcfmlmdhpbaa
open Go.RowKit

theorem batch_known (A : Option Addr) (ps : List PPut) (n c : Nat) (w : World) (hn : ps.length = n) (hs : PutsSeen w A ps) (L : List UInt8) (m : Nat) (hL : batchL (valsOf ps) = L) (hm : L.length = m) (hn' : n ≤ 9223372036854775807) (hb : m ≤ 140737488000000) :
    Calls Try.prog 22 #[.slice A n c] w fun e w' => ∃ A' c', e = .returned (.slice A' m c') ∧ Seen w' A' L ∧ Below w.heap.size w w' := by
  subst hL hm
  refine (batch_any A ps n c w hn hs hn' hb).mono ?_
  rintro e w' ⟨A', n', c', rfl, hm⟩
  rw [hm.1]
  exact ⟨A', c', rfl, hm.seen, hm.2.2⟩
theorem refBatch_known (A : Option Addr) (ps : List PPut) (n c : Nat) (w : World) (hn : ps.length = n) (hs : PutsSeen w A ps) (L : List UInt8) (m : Nat) (hL : batchL (valsOf ps) = L) (hm : L.length = m) (hn' : n ≤ 9223372036854775807) (hb : m ≤ 140737488000000) :
    Calls Try.prog 23 #[.slice A n c] w fun e w' => ∃ A' c', e = .returned (.slice A' m c') ∧ Seen w' A' L ∧ Below w.heap.size w w' := by
  subst hL hm
  refine (refBatch_any A ps n c w hn hs hn' hb).mono ?_
  rintro e w' ⟨A', n', c', rfl, hm⟩
  rw [hm.1]
  exact ⟨A', c', rfl, hm.seen, hm.2.2⟩

theorem readN_few : ∀ (n : Nat) (r : List UInt8) (acc l : List PutV), readN n r acc = some l → l.length = acc.length + n ∧ n ≤ r.length
  | 0, r, acc, l, h => by
    rw [readN] at h
    split at h
    · injection h with h; subst h; simp
    · cases h
  | n + 1, r, acc, l, h => by
    rw [readN] at h
    split at h
    · cases h
    · rename_i p u hp
      have h1 := oneL_less hp
      have h2 := readN_few n u _ l h
      rw [List.length_append, List.length_singleton] at h2
      omega
theorem puts_few {b : List UInt8} {D : Option (List PutV)} (h : D = putsL b) : (D.getD []).length ≤ b.length := by
  subst h
  rcases hd : putsL b with _ | l
  · simp
  · unfold putsL at hd
    split at hd
    · cases hd
    · have := readN_few _ _ _ _ hd
      rw [List.length_drop] at this
      simp at this ⊢
      omega

set_option maxRecDepth 100000 in
set_option maxHeartbeats 2000000 in
theorem frameBatches_walk (A : Option Addr) (ps : List PPut) (c : Nat) (B : Option Addr) (b : List UInt8) (d : Nat) (w : World) (hn : ps.length ≤ 9223372036854775807) (hs : PutsSeen w A ps) (hl : b.length ≤ 140737488351232) (hs' : Seen w B b) (hd : b.length ≤ d) :
    Calls Try.prog 6 #[.slice A ps.length c, .slice B b.length d] w fun e w' => e = .returned (.bool true) ∧ Below w.heap.size w w' := by
  obtain ⟨n, hn'⟩ : ∃ n, n = ps.length := ⟨_, rfl⟩
  obtain ⟨k, hk'⟩ : ∃ k, k = b.length := ⟨_, rfl⟩
  rw [← hn'] at hn ⊢
  rw [← hk'] at hl hd ⊢
  have HN : Hid (ps.length = n) := hn'.symm
  have HKB : Hid (b.length = k) := hk'.symm
  have HS := Lib.hid hs
  have HS' := Lib.hid hs'
  have HFW := Lib.hid (fun w hs => few_any A ps n c w HN.out hn hs)
  clear hs hs' hn' hk'
  cases hf : fewB ps with
  | false =>
    rw [hf] at HFW
    clear hf
    go_enter Try.func6, Try.ntmps6
    go_wp2_with fail
    refine (awake_any w).mono ?_
    rintro e w1 ⟨rfl, hb1⟩
    have HB1 := Lib.hid hb1
    clear hb1
    go_wp2_with fail
    refine (HFW.out w1 (HS.out.below HB1.out)).mono ?_
    rintro e w2 ⟨rfl, rfl⟩
    go_wp2_with fail
    go_ret
    exact ⟨rfl, HB1.out⟩
  | true =>
    rw [hf] at HFW
    by_cases hlong : 70000 < k
    · clear hf
      go_enter Try.func6, Try.ntmps6
      go_wp2_with fail
      refine (awake_any w).mono ?_
      rintro e w1 ⟨rfl, hb1⟩
      have HB1 := Lib.hid hb1
      clear hb1
      go_wp2_with fail
      refine (HFW.out w1 (HS.out.below HB1.out)).mono ?_
      rintro e w2 ⟨rfl, rfl⟩
      go_wp2_with fail
      go_ret
      exact ⟨rfl, HB1.out⟩
    · have hfit := few_batch hf
      obtain ⟨L, hL⟩ : ∃ L, L = batchL (valsOf ps) := ⟨_, rfl⟩
      rw [← hL] at hfit
      have HL : Hid (batchL (valsOf ps) = L) := hL.symm
      obtain ⟨m, hm⟩ : ∃ m, m = L.length := ⟨_, rfl⟩
      rw [← hm] at hfit
      have HM : Hid (L.length = m) := hm.symm
      have HD1 := Lib.hid (fun w' h => fputs_made B b k d w' HKB.out h hd (by omega))
      have HD2 := Lib.hid (fun w' h => refPuts_any B b k d w' HKB.out h hd (by omega))
      obtain ⟨D, hD⟩ : ∃ D, D = putsL b := ⟨_, rfl⟩
      rw [← hD] at HD1 HD2
      have HF := Lib.hid (puts_few hD)
      obtain ⟨er, her⟩ : ∃ er, er = errOf D := ⟨_, rfl⟩
      have HER := Lib.hid her.symm
      obtain ⟨T, hT⟩ : ∃ T : ByteArray, T = ⟨L.toArray⟩ := ⟨_, rfl⟩
      have HT : Hid (∀ w A c, Seen w A L → ∀ w', Below w.heap.size w w' → (convert 22 9 (.slice A m c)).run Try.prog w' = .ok (.string T) w') := by
        intro w A c hs w' hb
        rw [hT]
        exact text_on hs m c HM.out w' hb
      clear hf hL hm hD her hT
      go_enter Try.func6, Try.ntmps6
      go_wp2_with fail
      refine (awake_any w).mono ?_
      rintro e w1 ⟨rfl, hb1⟩
      have HB1 := Lib.hid hb1
      clear hb1
      go_wp2_with fail
      refine (HFW.out w1 (HS.out.below HB1.out)).mono ?_
      rintro e w2 ⟨rfl, rfl⟩
      go_wp2_with fail
      refine (HD1.out w1 (HS'.out.below HB1.out)).mono ?_
      rintro e w3 ⟨A3, n3, c3, q3, rfl, hn3, hs3, hv3, hb3⟩
      rw [HER.out]
      have HN3 := Lib.hid hn3
      have HV3 := Lib.hid hv3
      have HB3 := Lib.hid (hop HB1.out hb3)
      have HS3 := Lib.hid hs3
      clear hn3 hs3 hv3 hb3
      go_wp2_with fail
      refine (HD2.out w3 (HS'.out.below HB3.out)).mono ?_
      rintro e w4 ⟨A4, n4, c4, q4, rfl, hn4, hs4, hv4, hb4⟩
      rw [HER.out]
      have HN4 := Lib.hid hn4
      have hnn : n4 = n3 := by
        have h1 := congrArg List.length (hv4.trans HV3.out.symm)
        rw [valsOf_length, valsOf_length, HN3.out, hn4] at h1
        exact h1
      subst hnn
      have hnk : n4 ≤ 9223372036854775807 := by
        have h1 := congrArg List.length hv4
        rw [valsOf_length, hn4] at h1
        have := HF.out
        have := HKB.out
        omega
      have HV : Hid (sameV (valsOf q3) (valsOf q4) = true) := by show _ = _; rw [HV3.out, ← hv4]; exact same_self _
      have HB4 := Lib.hid (hop HB3.out hb4)
      have HS34 := Lib.hid (HS3.out.below hb4)
      have HS4 := Lib.hid hs4
      clear hn4 hs4 hv4 hb4
      go_wp2_with fail
      refine (same_any A3 A4 q3 q4 n4 c3 n4 c4 w4 HN3.out HN4.out hnk hnk HS34.out HS4.out).mono ?_
      rintro e w5 ⟨rfl, hb5⟩
      rw [HV.out]
      have HB5 := Lib.hid (hop HB4.out hb5)
      have S5 := Lib.hid (HS.out.below HB5.out)
      clear hb5
      have HE1 : Hid (∀ w', Below w5.heap.size w5 w' → Calls Try.prog 22 #[.slice A n c] w' fun e w'' => ∃ A' c', e = .returned (.slice A' m c') ∧ Seen w'' A' L ∧ Below w'.heap.size w' w'') :=
        fun w' hb => batch_known A ps n c w' HN.out (S5.out.below hb) L m HL.out HM.out hn (by omega)
      have HE2 : Hid (∀ w', Below w5.heap.size w5 w' → Calls Try.prog 23 #[.slice A n c] w' fun e w'' => ∃ A' c', e = .returned (.slice A' m c') ∧ Seen w'' A' L ∧ Below w'.heap.size w' w'') :=
        fun w' hb => refBatch_known A ps n c w' HN.out (S5.out.below hb) L m HL.out HM.out hn (by omega)
      have bd : Below w5.heap.size w5 w5.drew := (Below.refl _ _).drew
      go_wp2_with fail
      go_region_held_law (fun w' => Below w5.heap.size w5 w') (first | exact (Below.refl _ _).drew | assumption | (exact hop ‹Below w5.heap.size w5 _› (by assumption)))
        (first
          | (go_at_call 22; refine (HE1.out _ ?_).mono ?_; (assumption); rintro e w6 ⟨A6, c6, rfl, hs6, hb6⟩; have HU6 := Lib.hid (HT.out _ _ c6 hs6); have hv6 := HU6.out _ (Below.refl _ _); (try have hv67 := HU7.out _ hb6); clear hs6)
          | (go_at_call 23; refine (HE2.out _ ?_).mono ?_; (assumption); rintro e w7 ⟨A7, c7, rfl, hs7, hb7⟩; have HU7 := Lib.hid (HT.out _ _ c7 hs7); have hv7 := HU7.out _ (Below.refl _ _); (try have hv76 := HU6.out _ hb7); clear hs7))
      all_goals go_wp2_with fail
      all_goals go_ret
      all_goals exact ⟨rfl, hop HB5.out (by assumption)⟩
end Go.Proofs.Ytmngcfmlmdhpbaa
