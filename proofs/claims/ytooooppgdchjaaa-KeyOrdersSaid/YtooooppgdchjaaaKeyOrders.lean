/-
  The statement KeyOrders: of two lists of parts the less one has the less key; and a key begins another one just if its parts are the other one's first ones. Condition: the row's own.
-/
import Derived.Test.YtooooppgdchjaaaKeyAgain
import Derived.Test.YtooooppgdchjaaaBegins
import Derived.Test.YtooooppgdchjaaaLess
namespace Go.Proofs.Ytooooppgdchjaaa
open Go.RowKit
attribute [local go_sem ↓] Go.wp_at_zero Go.wp_at_succ

theorem bytesOf_take (qs : List Piece) (n : Nat) : bytesOf (qs.take n) = (bytesOf qs).take n := by simp [bytesOf, List.map_take]
theorem first_parts {a b : List (List UInt8)} (n : Nat) (h : a.length = n) : (a = b.take n) ↔ a <+: b := by
  subst h
  constructor
  · intro h
    rw [h]
    exact List.take_prefix _ _
  · rintro ⟨t, rfl⟩
    simp

set_option maxRecDepth 100000 in
set_option maxHeartbeats 1000000 in
theorem keyOrders_short (A : Option Addr) (ps : List Piece) (c : Nat) (B : Option Addr) (qs : List Piece) (d : Nat) (w : World) (hn : ps.length ≤ 9223372036854775807) (hs : SeenAll w A ps) (hn' : qs.length ≤ 9223372036854775807) (hs' : SeenAll w B qs) (hf : fewB ps = false ∨ fewB qs = false) :
    Calls Try.prog 7 #[.slice A ps.length c, .slice B qs.length d] w fun e w' => e = .returned (.bool true) ∧ Below w.heap.size w w' := by
  have HS := Lib.hid hs
  have HS' := Lib.hid hs'
  clear hs hs'
  have HF := Lib.hid (fun w hs => few_any A ps c w hs hn)
  have HG := Lib.hid (fun w hs => few_any B qs d w hs hn')
  obtain ⟨v, hv⟩ : ∃ v, v = fewB ps := ⟨_, rfl⟩
  obtain ⟨u, hu⟩ : ∃ u, u = fewB qs := ⟨_, rfl⟩
  rw [← hv] at HF
  rw [← hu] at HG
  rw [← hv, ← hu] at hf
  clear hv hu
  rcases hf with rfl | rfl
  · go_enter Try.func7, Try.ntmps7
    go_wp2_with fail
    refine (awake_any _).mono ?_
    rintro e w1 ⟨rfl, hb1⟩
    have B1 := Lib.hid hb1
    clear hb1
    go_wp2_with fail
    refine (HF.out _ (HS.out.below B1.out)).mono ?_
    rintro e w2 ⟨rfl, rfl⟩
    go_wp2_with fail
    refine (HG.out _ (HS'.out.below B1.out)).mono ?_
    rintro e w2 ⟨rfl, rfl⟩
    go_wp2_with fail
    go_ret
    exact ⟨rfl, B1.out⟩
  · rcases v with _ | _
    · go_enter Try.func7, Try.ntmps7
      go_wp2_with fail
      refine (awake_any _).mono ?_
      rintro e w1 ⟨rfl, hb1⟩
      have B1 := Lib.hid hb1
      clear hb1
      go_wp2_with fail
      refine (HF.out _ (HS.out.below B1.out)).mono ?_
      rintro e w2 ⟨rfl, rfl⟩
      go_wp2_with fail
      refine (HG.out _ (HS'.out.below B1.out)).mono ?_
      rintro e w2 ⟨rfl, rfl⟩
      go_wp2_with fail
      go_ret
      exact ⟨rfl, B1.out⟩
    · go_enter Try.func7, Try.ntmps7
      go_wp2_with fail
      refine (awake_any _).mono ?_
      rintro e w1 ⟨rfl, hb1⟩
      have B1 := Lib.hid hb1
      clear hb1
      go_wp2_with fail
      refine (HF.out _ (HS.out.below B1.out)).mono ?_
      rintro e w2 ⟨rfl, rfl⟩
      go_wp2_with fail
      refine (HG.out _ (HS'.out.below B1.out)).mono ?_
      rintro e w2 ⟨rfl, rfl⟩
      go_wp2_with fail
      go_ret
      exact ⟨rfl, B1.out⟩

set_option maxRecDepth 100000 in
set_option maxHeartbeats 1000000 in
theorem keyOrders_long (A : Option Addr) (ps : List Piece) (n c : Nat) (B : Option Addr) (qs : List Piece) (m d : Nat) (w : World) (hn : ps.length = n) (hs : SeenAll w A ps) (hm : qs.length = m) (hs' : SeenAll w B qs) (hf : fewB ps = true) (hg : fewB qs = true) (hd : m ≤ d) :
    Calls Try.prog 7 #[.slice A n c, .slice B m d] w fun e w' => e = .returned (.bool true) ∧ Below w.heap.size w w' := by
  have HS := Lib.hid hs
  have HS' := Lib.hid hs'
  have HN := Lib.hid hn
  have HM := Lib.hid hm
  obtain ⟨hn60, _, hlp⟩ := few_bounds hf
  obtain ⟨hm60, _, hlq⟩ := few_bounds hg
  have HF : Hid (∀ w', SeenAll w' A ps → Calls Try.prog 11 #[.slice A n c] w' fun e w'' => e = .returned (.bool true) ∧ w' = w'') := by
    intro w' h
    have := few_any A ps c w' h (by omega)
    rw [hn, hf] at this
    exact this
  have HG : Hid (∀ w', SeenAll w' B qs → Calls Try.prog 11 #[.slice B m d] w' fun e w'' => e = .returned (.bool true) ∧ w' = w'') := by
    intro w' h
    have := few_any B qs d w' h (by omega)
    rw [hm, hg] at this
    exact this
  rw [hn] at hn60
  rw [hm] at hm60
  obtain ⟨X, hX⟩ : ∃ X, X = encL (bytesOf ps) := ⟨_, rfl⟩
  obtain ⟨Y, hY⟩ : ∃ Y, Y = encL (bytesOf qs) := ⟨_, rfl⟩
  obtain ⟨r, hr⟩ : ∃ r, r = lessL (bytesOf ps) (bytesOf qs) := ⟨_, rfl⟩
  obtain ⟨v, hv⟩ : ∃ v, v = decide (bytesOf ps <+: bytesOf qs) := ⟨_, rfl⟩
  have HR : Hid (Op.bytesLess X Y = r) := by show _ = _; rw [hX, hY, hr, less_enc]
  have HV : Hid (decide (X <+: Y) = v) := by show _ = _; rw [hX, hY, hv, decide_eq_decide, enc_prefix]
  have HVF : Hid (n ≤ m → decide (bytesOf ps = bytesOf (qs.take n)) = v) := by
    intro _
    rw [hv, decide_eq_decide, bytesOf_take, first_parts n (by rw [length_bytesOf, hn])]
  have HVN : Hid (¬ n ≤ m → v = false) := by
    intro h
    rw [hv]
    apply decide_eq_false
    intro hp
    have := hp.length_le
    rw [length_bytesOf, length_bytesOf, hn, hm] at this
    exact h this
  rw [← hX] at hlp
  rw [← hY] at hlq
  have HX := Lib.hid hX.symm
  have HY := Lib.hid hY.symm
  have HRR := Lib.hid hr.symm
  obtain ⟨x, hx⟩ : ∃ x, x = X.length := ⟨_, rfl⟩
  obtain ⟨y, hy⟩ : ∃ y, y = Y.length := ⟨_, rfl⟩
  have HXL := Lib.hid hx.symm
  have HYL := Lib.hid hy.symm
  have hxy : x + y ≤ 240240 := by omega
  clear hs hs' hn hm hf hg hX hY hlp hlq hx hy hr hv
  go_enter Try.func7, Try.ntmps7
  go_wp2_with fail
  refine (awake_any _).mono ?_
  rintro e w1 ⟨rfl, hb1⟩
  have B1 := Lib.hid hb1
  clear hb1
  go_wp2_with fail
  refine (HF.out _ (HS.out.below B1.out)).mono ?_
  rintro e w2 ⟨rfl, rfl⟩
  go_wp2_with fail
  refine (HG.out _ (HS'.out.below B1.out)).mono ?_
  rintro e w2 ⟨rfl, rfl⟩
  clear HF HG
  go_wp2_with fail
  refine (encode_known A ps n c _ HN.out (HS.out.below B1.out) X x HX.out HXL.out (by omega) (by omega)).mono ?_
  rintro e w3 ⟨A3, c3, rfl, hs3, hc3, hb3⟩
  have B3 := Lib.hid (hop B1.out hb3)
  have S3 := Lib.hid hs3
  clear hs3 hb3 B1
  go_wp2_with fail
  refine (encode_known B qs m d _ HM.out (HS'.out.below B3.out) Y y HY.out HYL.out (by omega) (by omega)).mono ?_
  rintro e w4 ⟨A4, c4, rfl, hs4, hc4, hb4⟩
  have B4 := Lib.hid (hop B3.out hb4)
  have S4 := Lib.hid hs4
  have S34 := Lib.hid (S3.out.below hb4)
  clear hs4 hb4 B3 S3
  have HL : Hid (∀ (w' : World), Below w4.heap.size w4 w' → Calls Try.prog 19 #[.slice A n c, .slice B m d] w' fun e w'' => e = .returned (.bool r) ∧ Below w'.heap.size w' w'') := by
    intro w' hb
    have h := less_any A ps n c B qs m d w' HN.out HM.out (HS.out.below (hop B4.out hb)) (HS'.out.below (hop B4.out hb)) (by omega) (by omega)
    rw [HRR.out] at h
    exact h
  have HB : Hid (∀ (w' : World), Below w4.heap.size w4 w' → Calls Try.prog 20 #[.slice A4 y c4, .slice A3 x c3] w' fun e w'' => e = .returned (.bool v) ∧ w' = w'') := by
    intro w' hb
    have h := begins_any A4 Y y c4 A3 X x c3 w' HYL.out HXL.out (S4.out.below hb) (S34.out.below hb) hc4 (by omega)
    rw [HV.out] at h
    exact h
  have UX := text_on S34.out x c3 HXL.out
  have UY := text_on S4.out y c4 HYL.out
  have hlss : Op.bytesLess (⟨X.toArray⟩ : ByteArray).toList (⟨Y.toArray⟩ : ByteArray).toList = r := by simp only [ByteArray.toList_eq]; exact HR.out
  generalize (⟨X.toArray⟩ : ByteArray) = tx at *
  generalize (⟨Y.toArray⟩ : ByteArray) = ty at *
  by_cases hnm : n ≤ m
  · have HLI : Hid (Calls Try.prog 14 #[.slice A n c, .slice B n d] w4 fun e w'' => e = .returned (.bool v) ∧ Below w4.heap.size w4 w'') := by
      have h := lists_any A ps n c B (qs.take n) n d w4 HN.out (by rw [List.length_take, HM.out]; omega) (HS.out.below B4.out) ((HS'.out.below B4.out).take n) (by omega) (by omega)
      rw [HVF.out hnm] at h
      exact h
    go_wp2_with fail
    refine HLI.out.mono ?_
    rintro e w5 ⟨rfl, hb5⟩
    have bd : Below w4.heap.size w4 w5.drew := hb5.drew
    clear hb5
    go_wp2_with fail
    go_region_held_law (fun w' => Below w4.heap.size w4 w') (first | exact bd | assumption | (exact hop ‹Below w4.heap.size w4 _› (by assumption)))
      (first
        | (go_at_call 19; refine (HL.out _ ?_).mono ?_; (assumption); rintro e w7 ⟨rfl, hb7⟩)
        | (go_at_call 20; refine (HB.out _ ?_).mono ?_; (assumption); rintro e w8 ⟨rfl, rfl⟩))
    all_goals go_wp2_with fail
    all_goals go_ret
    all_goals exact ⟨rfl, hop B4.out (by assumption)⟩
  · obtain rfl := HVN.out hnm
    have bd : Below w4.heap.size w4 w4.drew := (Below.refl _ _).drew
    go_wp2_with fail
    go_region_held_law (fun w' => Below w4.heap.size w4 w') (first | exact bd | assumption | (exact hop ‹Below w4.heap.size w4 _› (by assumption)))
      (first
        | (go_at_call 19; refine (HL.out _ ?_).mono ?_; (assumption); rintro e w7 ⟨rfl, hb7⟩)
        | (go_at_call 20; refine (HB.out _ ?_).mono ?_; (assumption); rintro e w8 ⟨rfl, rfl⟩))
    all_goals go_wp2_with fail
    all_goals go_ret
    all_goals exact ⟨rfl, hop B4.out (by assumption)⟩

theorem keyOrders_walk (A : Option Addr) (ps : List Piece) (c : Nat) (B : Option Addr) (qs : List Piece) (d : Nat) (w : World) (hn : ps.length ≤ 9223372036854775807) (hs : SeenAll w A ps) (_hd : ps.length ≤ c) (hn' : qs.length ≤ 9223372036854775807) (hs' : SeenAll w B qs) (hd : qs.length ≤ d) :
    Calls Try.prog 7 #[.slice A ps.length c, .slice B qs.length d] w fun e w' => e = .returned (.bool true) ∧ Below w.heap.size w w' := by
  by_cases h : fewB ps = true ∧ fewB qs = true
  · exact keyOrders_long A ps _ c B qs _ d w rfl hs rfl hs' h.1 h.2 hd
  · refine keyOrders_short A ps c B qs d w hn hs hn' hs' ?_
    rcases hp : fewB ps with _ | _
    · exact .inl rfl
    · rcases hq : fewB qs with _ | _
      · exact .inr rfl
      · exact absurd ⟨hp, hq⟩ h
end Go.Proofs.Ytooooppgdchjaaa
