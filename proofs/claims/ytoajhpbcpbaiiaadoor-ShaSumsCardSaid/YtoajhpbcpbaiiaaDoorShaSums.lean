/-
  The statement ShaSums: the sum of any bytes is what the document says. Condition: the row's own.
-/
import Derived.Test.YtoajhpbcpbaiiaaDoorShaHelp
import Derived.Deep.RegionHeldLaw
import Derived.Deep.DrawnRows
import Derived.Test.YtoajhpbcpbaiiaaDoorRefSum
namespace Go.Proofs.YtoajhpbcpbaiiaaDoor
open Go.RowKit
attribute [local go_sem ↓] Go.wp_at_zero Go.wp_at_succ

set_option maxRecDepth 100000 in
set_option maxHeartbeats 1000000 in
theorem shaSums_walk (A : Option Addr) (l : List UInt8) (c : Nat) (w : World) (hl : l.length ≤ 140737488351232) (hs : Seen w A l) (ht : Tabs w) :
    Calls Tryd.prog 4 #[.slice A l.length c] w fun e w' => e = .returned (.bool true) ∧ Below w.heap.size w w' := by
  have HS := Lib.hid hs
  have HT := Lib.hid ht
  obtain ⟨i0, hi, hz0, hz1, hz2⟩ := info_parts info5
  clear hs ht
  by_cases hlong : 5000 < l.length
  · go_enter Tryd.func4, Tryd.ntmps4
    go_wp2_with fail
    refine (awake_any _ HT.out).mono ?_
    rintro e w1 ⟨rfl, hb1⟩
    have B1 := Lib.hid hb1
    clear hb1
    go_wp2_with fail
    go_ret
    exact ⟨rfl, B1.out⟩
  · go_enter Tryd.func4, Tryd.ntmps4
    go_wp2_with fail
    refine (awake_any _ HT.out).mono ?_
    rintro e w1 ⟨rfl, hb1⟩
    have B1 := Lib.hid hb1
    clear hb1
    have HO := Made.nil 5 w1
    go_wp2_with (at_builtin; refine wpList_append_bytes _ rfl _ _ 28 rfl 5 i0 (.int .u8 0) Tryd.underlying28 hi hz0 hz1 hz2 rfl w1 _ [] A l c rfl rfl HO ?a1 ?a2 ?_)
    case a1 => exact HS.out.below B1.out
    case a2 => simp; omega
    intro v2 w2 HM2 _
    obtain ⟨A2, c2, rfl, hs2, hc2⟩ := HM2.form_cap
    have S2 := Lib.hid hs2
    have B2 := Lib.hid (hop B1.out HM2.2)
    clear hs2 HM2 HO
    go_wp2_with fail
    refine (sum_any _ A2 l c2 S2.out hc2 (by omega) (HT.out.below B2.out)).mono ?_
    rintro e w3 ⟨A3, rfl, hs3, hb3⟩
    have B3 := Lib.hid (hop B2.out hb3)
    have h32 := length_shaL l
    have N32 := Lib.hid h32
    have R3 : Hid (∀ w', Below w3.heap.size w3 w' → Calls Tryd.prog 14 #[.slice A l.length c] w' fun e w'' => ∃ A' c', e = .returned (.slice A' 32 c') ∧ Seen w'' A' (shaL l) ∧ Below w'.heap.size w' w'') :=
      fun w' hb => refSum_any A l c w' (HS.out.below (hop B3.out hb)) (by omega)
    have U1 := Lib.hid (text_on hs3 32 32 h32)
    have U2 := Lib.hid (text_on (S2.out.below hb3) l.length c2 rfl)
    have U3 := Lib.hid (text_on (HS.out.below B3.out) l.length c rfl)
    have S3 := Lib.hid hs3
    clear hs3 hb3 h32 B1 B2 S2
    generalize shaL l = L at *
    have bd : Below w3.heap.size w3 w3.drew := (Below.refl _ _).drew
    have u1 := U1.out _ bd
    have u2 := U2.out _ bd
    have u3 := U3.out _ bd
    go_wp2_with fail
    go_region_held_law (fun w' => Below w3.heap.size w3 w') (first | exact (Below.refl _ _).drew | assumption | (exact hop ‹Below w3.heap.size w3 _› (by assumption)))
      (first
        | (go_at_call 14; refine (R3.out _ ?_).mono ?_; (assumption); rintro e w5 ⟨A5, c5, rfl, hs5, hb5⟩; have hu5 := text_on hs5 32 c5 N32.out _ (Below.refl _ _); have bd5 := hop bd hb5; have v1 := U1.out _ bd5; have v2 := U2.out _ bd5; have v3 := U3.out _ bd5; clear hs5))
    all_goals go_wp2_with fail
    all_goals go_ret
    all_goals exact ⟨rfl, hop B3.out (by assumption)⟩
end Go.Proofs.YtoajhpbcpbaiiaaDoor
