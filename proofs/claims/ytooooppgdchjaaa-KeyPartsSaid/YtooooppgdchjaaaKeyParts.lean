/-
  The statement KeyParts: the key of parts, and more of them, is the key of these with that of those behind it. Condition: the row's own.
-/
import Derived.Test.YtooooppgdchjaaaKeyAgain
import Derived.Test.YtooooppgdchjaaaBegins
import Derived.Test.YtooooppgdchjaaaAllRow
namespace Go.Proofs.Ytooooppgdchjaaa
open Go.RowKit
attribute [local go_sem ↓] Go.wp_at_zero Go.wp_at_succ

theorem joined (a b : List UInt8) (ha : a.length ≤ 1000000) (hb : b.length ≤ 1000000) (w : World) :
    (Op.stringOp .add ⟨a.toArray⟩ ⟨b.toArray⟩).run Try.prog w = .ok (.string ⟨(a ++ b).toArray⟩) w := by
  have e : (⟨a.toArray⟩ : ByteArray) ++ ⟨b.toArray⟩ = ⟨(a ++ b).toArray⟩ := by
    apply ByteArray.ext
    simp
  have hs : ¬ ((((⟨a.toArray⟩ : ByteArray).size + (⟨b.toArray⟩ : ByteArray).size : Nat) : Int) > IntKind.i64.max) := by
    have h1 : (⟨a.toArray⟩ : ByteArray).size = a.length := by simp [ByteArray.size]
    have h2 : (⟨b.toArray⟩ : ByteArray).size = b.length := by simp [ByteArray.size]
    rw [h1, h2]
    have : IntKind.i64.max = 9223372036854775807 := by decide
    omega
  unfold Op.stringOp
  simp only [if_neg hs, e]
  rfl

set_option maxRecDepth 100000 in
set_option maxHeartbeats 1000000 in
theorem keyParts_short (A : Option Addr) (ps : List Piece) (c : Nat) (B : Option Addr) (qs : List Piece) (d : Nat) (w : World) (hn : ps.length ≤ 9223372036854775807) (hs : SeenAll w A ps) (hn' : qs.length ≤ 9223372036854775807) (hs' : SeenAll w B qs) (hf : fewB ps = false ∨ fewB qs = false) :
    Calls Try.prog 9 #[.slice A ps.length c, .slice B qs.length d] w fun e w' => e = .returned (.bool true) ∧ Below w.heap.size w w' := by
  have HS := Lib.hid hs
  have HS' := Lib.hid hs'
  clear hs hs'
  have HF := Lib.hid (fun w hs => few_any A ps c w hs hn)
  have HG := Lib.hid (fun w hs => few_any B qs d w hs hn')
  obtain ⟨v, hv⟩ : ∃ v, v = fewB ps := ⟨_, rfl⟩
  obtain ⟨u, hu⟩ : ∃ u, u = fewB qs := ⟨_, rfl⟩
  rw [← hv] at HF
  rw [← hu] at HG
  rw [← hv, ← hu] at hf
  clear hv hu
  rcases hf with rfl | rfl
  · go_enter Try.func9, Try.ntmps9
    go_wp2_with fail
    refine (awake_any _).mono ?_
    rintro e w1 ⟨rfl, hb1⟩
    have B1 := Lib.hid hb1
    clear hb1
    go_wp2_with fail
    refine (HF.out _ (HS.out.below B1.out)).mono ?_
    rintro e w2 ⟨rfl, rfl⟩
    go_wp2_with fail
    refine (HG.out _ (HS'.out.below B1.out)).mono ?_
    rintro e w2 ⟨rfl, rfl⟩
    go_wp2_with fail
    go_ret
    exact ⟨rfl, B1.out⟩
  · rcases v with _ | _
    · go_enter Try.func9, Try.ntmps9
      go_wp2_with fail
      refine (awake_any _).mono ?_
      rintro e w1 ⟨rfl, hb1⟩
      have B1 := Lib.hid hb1
      clear hb1
      go_wp2_with fail
      refine (HF.out _ (HS.out.below B1.out)).mono ?_
      rintro e w2 ⟨rfl, rfl⟩
      go_wp2_with fail
      refine (HG.out _ (HS'.out.below B1.out)).mono ?_
      rintro e w2 ⟨rfl, rfl⟩
      go_wp2_with fail
      go_ret
      exact ⟨rfl, B1.out⟩
    · go_enter Try.func9, Try.ntmps9
      go_wp2_with fail
      refine (awake_any _).mono ?_
      rintro e w1 ⟨rfl, hb1⟩
      have B1 := Lib.hid hb1
      clear hb1
      go_wp2_with fail
      refine (HF.out _ (HS.out.below B1.out)).mono ?_
      rintro e w2 ⟨rfl, rfl⟩
      go_wp2_with fail
      refine (HG.out _ (HS'.out.below B1.out)).mono ?_
      rintro e w2 ⟨rfl, rfl⟩
      go_wp2_with fail
      go_ret
      exact ⟨rfl, B1.out⟩

set_option maxRecDepth 100000 in
set_option maxHeartbeats 1000000 in
theorem keyParts_long (A : Option Addr) (ps : List Piece) (n c : Nat) (B : Option Addr) (qs : List Piece) (m d : Nat) (w : World) (hn : ps.length = n) (hs : SeenAll w A ps) (hm : qs.length = m) (hs' : SeenAll w B qs) (hf : fewB ps = true) (hg : fewB qs = true) :
    Calls Try.prog 9 #[.slice A n c, .slice B m d] w fun e w' => e = .returned (.bool true) ∧ Below w.heap.size w w' := by
  obtain ⟨j0, gi, gz0, gz1, gz2⟩ := info_parts infoPiece
  have HS := Lib.hid hs
  have HS' := Lib.hid hs'
  have HN := Lib.hid hn
  have HM := Lib.hid hm
  obtain ⟨hn60, _, hlp⟩ := few_bounds hf
  obtain ⟨hm60, _, hlq⟩ := few_bounds hg
  have HF : Hid (∀ w', SeenAll w' A ps → Calls Try.prog 11 #[.slice A n c] w' fun e w'' => e = .returned (.bool true) ∧ w' = w'') := by
    intro w' h
    have := few_any A ps c w' h (by omega)
    rw [hn, hf] at this
    exact this
  have HG : Hid (∀ w', SeenAll w' B qs → Calls Try.prog 11 #[.slice B m d] w' fun e w'' => e = .returned (.bool true) ∧ w' = w'') := by
    intro w' h
    have := few_any B qs d w' h (by omega)
    rw [hm, hg] at this
    exact this
  rw [hn] at hn60
  rw [hm] at hm60
  obtain ⟨X, hX⟩ : ∃ X, X = encL (bytesOf ps) := ⟨_, rfl⟩
  obtain ⟨Y, hY⟩ : ∃ Y, Y = encL (bytesOf qs) := ⟨_, rfl⟩
  have HZ : Hid (encL (bytesOf (ps ++ qs)) = X ++ Y) := by show _ = _; rw [bytesOf, List.map_append, encL_append, hX, hY]; rfl
  rw [← hX] at hlp
  rw [← hY] at hlq
  have HX := Lib.hid hX.symm
  have HY := Lib.hid hY.symm
  obtain ⟨x, hx⟩ : ∃ x, x = X.length := ⟨_, rfl⟩
  obtain ⟨y, hy⟩ : ∃ y, y = Y.length := ⟨_, rfl⟩
  have HXL := Lib.hid hx.symm
  have HYL := Lib.hid hy.symm
  have HZL : Hid ((X ++ Y).length = x + y) := by show _ = _; rw [List.length_append, hx, hy]
  have hxy : x + y ≤ 240240 := by omega
  clear hs hs' hn hm hf hg hX hY hlp hlq hx hy
  go_enter Try.func9, Try.ntmps9
  go_wp2_with fail
  refine (awake_any _).mono ?_
  rintro e w1 ⟨rfl, hb1⟩
  have B1 := Lib.hid hb1
  clear hb1
  go_wp2_with fail
  refine (HF.out _ (HS.out.below B1.out)).mono ?_
  rintro e w2 ⟨rfl, rfl⟩
  go_wp2_with fail
  refine (HG.out _ (HS'.out.below B1.out)).mono ?_
  rintro e w2 ⟨rfl, rfl⟩
  clear HF HG
  go_wp2_with fail
  refine (encode_known A ps n c _ HN.out (HS.out.below B1.out) X x HX.out HXL.out (by omega) (by omega)).mono ?_
  rintro e w3 ⟨A3, c3, rfl, hs3, hc3, hb3⟩
  have B3 := Lib.hid (hop B1.out hb3)
  have S3 := Lib.hid hs3
  clear hs3 hb3 B1
  go_wp2_with fail
  refine (encode_known B qs m d _ HM.out (HS'.out.below B3.out) Y y HY.out HYL.out (by omega) (by omega)).mono ?_
  rintro e w4 ⟨A4, c4, rfl, hs4, hc4, hb4⟩
  have B4 := Lib.hid (hop B3.out hb4)
  have S4 := Lib.hid hs4
  have S34 := Lib.hid (S3.out.below hb4)
  clear hs4 hb4 B3 S3
  have HO := MadeAll.nil 23 w4
  go_wp2_with (at_builtin; refine wpList_append_all w4 rfl _ _ 22 rfl 23 j0 (.slice none 0 0) Try.underlying22 gi gz0 gz1 gz2 rfl w4 [] _ A ps n c rfl rfl HN.out HO ?a1 ?a2 ?_)
  case a1 => exact HS.out.below B4.out
  case a2 => simp; omega
  intro v5 w5 HM5
  have H5 : Hid (MadeAll 23 w4 ps v5 w5) := HM5
  clear HM5 HO
  go_wp2_with (at_builtin; refine wpList_append_all w5 rfl _ _ 22 rfl 23 j0 (.slice none 0 0) Try.underlying22 gi gz0 gz1 gz2 rfl w4 ps v5 B qs m d rfl rfl HM.out H5.out ?a3 ?a4 ?_)
  case a3 => exact HS'.out.below (hop B4.out H5.out.2)
  case a4 => rw [HN.out]; omega
  intro v6 w6 HM6
  obtain ⟨A6, c6, hv6, hs6, _⟩ := HM6.shown ((HS.out.each.below (hop B4.out HM6.2)).append (HS'.out.each.below (hop B4.out HM6.2)))
  have hl6 : (ps ++ qs).length = n + m := by rw [List.length_append, HN.out, HM.out]
  rw [hl6] at hv6
  subst hv6
  have S6 := Lib.hid hs6
  have L6 := Lib.hid hl6
  have B6 := Lib.hid (hop B4.out HM6.2)
  have SX := Lib.hid (S34.out.below HM6.2)
  have SY := Lib.hid (S4.out.below HM6.2)
  clear HM6 H5 S34 S4 B4 hs6 hl6
  have HE : Hid (∀ w', Below w6.heap.size w6 w' → Calls Try.prog 15 #[.slice A6 (n + m) c6] w' fun e w'' => ∃ A' c', e = .returned (.slice A' (x + y) c') ∧ Seen w'' A' (X ++ Y) ∧ x + y ≤ c' ∧ Below w'.heap.size w' w'') :=
    fun w' hb => encode_known A6 (ps ++ qs) (n + m) c6 w' L6.out (S6.out.below hb) (X ++ Y) (x + y) HZ.out HZL.out (by omega) (by omega)
  have HB : Hid (∀ (A' : Option Addr) (c' : Nat) (w' : World), Seen w' A' (X ++ Y) → x + y ≤ c' → Below w6.heap.size w6 w' → Calls Try.prog 20 #[.slice A' (x + y) c', .slice A3 x c3] w' fun e w'' => e = .returned (.bool true) ∧ w' = w'') := by
    intro A' c' w' hs hc hb
    have h := begins_any A' (X ++ Y) (x + y) c' A3 X x c3 w' HZL.out HXL.out hs (SX.out.below hb) hc (by omega)
    rw [decide_eq_true (List.prefix_append X Y)] at h
    exact h
  have UX := text_on SX.out x c3 HXL.out
  have UY := text_on SY.out y c4 HYL.out
  have hadd := joined X Y (by rw [HXL.out]; omega) (by rw [HYL.out]; omega)
  obtain ⟨T, hT⟩ : ∃ T : ByteArray, T = ⟨(X ++ Y).toArray⟩ := ⟨_, rfl⟩
  have HT : Hid (∀ w A c, Seen w A (X ++ Y) → ∀ w', Below w.heap.size w w' → (convert 23 9 (.slice A (x + y) c)).run Try.prog w' = .ok (.string T) w') := by
    intro w A c hs w' hb
    rw [hT]
    exact text_on hs (x + y) c HZL.out w' hb
  rw [← hT] at hadd
  clear hT
  generalize (⟨X.toArray⟩ : ByteArray) = tx at *
  generalize (⟨Y.toArray⟩ : ByteArray) = ty at *
  have bd : Below w6.heap.size w6 w6.drew := (Below.refl _ _).drew
  go_wp2_with fail
  go_region_held_law (fun w' => Below w6.heap.size w6 w') (first | exact (Below.refl _ _).drew | assumption | (exact hop ‹Below w6.heap.size w6 _› (by assumption)))
    (first
      | (go_at_call 15; refine (HE.out _ ?_).mono ?_; (assumption); rintro e w7 ⟨A7, c7, rfl, hs7, hc7, hb7⟩; have HU7 := Lib.hid (HT.out _ _ c7 hs7); have hv7 := HU7.out _ (Below.refl _ _))
      | (go_at_call 20; refine (HB.out _ _ _ ?_ ?_ ?_).mono ?_; (assumption); (assumption); (assumption); rintro e w8 ⟨rfl, rfl⟩))
  all_goals go_wp2_with fail
  all_goals go_ret
  all_goals exact ⟨rfl, hop B6.out (by assumption)⟩

theorem keyParts_walk (A : Option Addr) (ps : List Piece) (c : Nat) (B : Option Addr) (qs : List Piece) (d : Nat) (w : World) (hn : ps.length ≤ 9223372036854775807) (hs : SeenAll w A ps) (hn' : qs.length ≤ 9223372036854775807) (hs' : SeenAll w B qs) :
    Calls Try.prog 9 #[.slice A ps.length c, .slice B qs.length d] w fun e w' => e = .returned (.bool true) ∧ Below w.heap.size w w' := by
  by_cases h : fewB ps = true ∧ fewB qs = true
  · exact keyParts_long A ps _ c B qs _ d w rfl hs rfl hs' h.1 h.2
  · refine keyParts_short A ps c B qs d w hn hs hn' hs' ?_
    rcases hp : fewB ps with _ | _
    · exact .inl rfl
    · rcases hq : fewB qs with _ | _
      · exact .inr rfl
      · exact absurd ⟨hp, hq⟩ h
end Go.Proofs.Ytooooppgdchjaaa
