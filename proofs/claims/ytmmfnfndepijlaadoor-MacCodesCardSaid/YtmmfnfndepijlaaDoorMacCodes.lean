/-
  The statement MacCodes: the code of any bytes under any key is what the document says. Condition: the row's own.
-/
import Derived.Test.YtmmfnfndepijlaaDoorMacHelp
import Derived.Test.YtmmfnfndepijlaaDoorRefMac
namespace Go.Proofs.YtmmfnfndepijlaaDoor
open Go.RowKit

set_option maxRecDepth 100000 in
set_option maxHeartbeats 1000000 in
theorem macCodes_walk (A : Option Addr) (key : List UInt8) (c : Nat) (B : Option Addr) (b : List UInt8) (d : Nat) (w : World) (hl : key.length ≤ 140737488351232) (hs : Seen w A key) (hl' : b.length ≤ 140737488351232) (hs' : Seen w B b) (hd : b.length ≤ d) (ht : Tabs w) :
    Calls Tryd.prog 3 #[.slice A key.length c, .slice B b.length d] w fun e w' => e = .returned (.bool true) ∧ Below w.heap.size w w' := by
  have HS := Lib.hid hs
  have HS' := Lib.hid hs'
  have HT := Lib.hid ht
  obtain ⟨i0, hi, hz0, hz1, hz2⟩ := info_parts info5
  clear hs hs' ht
  by_cases h1 : 1000 < key.length
  · go_enter Tryd.func3, Tryd.ntmps3
    go_wp2_with fail
    refine (awake_any _ HT.out).mono ?_
    rintro e w1 ⟨rfl, hb1⟩
    have B1 := Lib.hid hb1
    clear hb1
    go_wp2_with fail
    go_ret
    exact ⟨rfl, B1.out⟩
  · by_cases h2 : 1000 < b.length
    · go_enter Tryd.func3, Tryd.ntmps3
      go_wp2_with fail
      refine (awake_any _ HT.out).mono ?_
      rintro e w1 ⟨rfl, hb1⟩
      have B1 := Lib.hid hb1
      clear hb1
      go_wp2_with fail
      go_ret
      exact ⟨rfl, B1.out⟩
    · go_enter Tryd.func3, Tryd.ntmps3
      go_wp2_with fail
      refine (awake_any _ HT.out).mono ?_
      rintro e w1 ⟨rfl, hb1⟩
      have B1 := Lib.hid hb1
      clear hb1
      have HO := Made.nil 5 w1
      go_wp2_with (at_builtin; refine wpList_append_bytes _ rfl _ _ 22 rfl 5 i0 (.int .u8 0) Tryd.underlying22 hi hz0 hz1 hz2 rfl w1 _ [] A key c rfl rfl HO ?a1 ?a2 ?_)
      case a1 => exact HS.out.below B1.out
      case a2 => simp; omega
      intro v2 w2 HM2 _
      obtain ⟨A2, c2, rfl, hs2, hc2⟩ := HM2.form_cap
      have S2 := Lib.hid hs2
      have B2 := Lib.hid (hop B1.out HM2.2)
      clear hs2 HM2 HO
      go_wp2_with fail
      refine (mac_any A2 key c2 B b d _ S2.out hc2 (by omega) (HS'.out.below B2.out) hd (by omega) (HT.out.below B2.out)).mono ?_
      rintro e w3 ⟨A3, rfl, hs3, hb3⟩
      have B3 := Lib.hid (hop B2.out hb3)
      have N32 := Lib.hid (length_macL key b)
      have u1 := text_on hs3 32 32 N32.out _ (Below.refl _ _)
      have S2' := Lib.hid (S2.out.below hb3)
      have RM : Hid (Calls Tryd.prog 9 #[.slice A key.length c, .slice B b.length d] w3 fun e w' => ∃ A' c', e = .returned (.slice A' 32 c') ∧ Made 5 w3 (macL key b) (.slice A' 32 c') w') :=
        refMac_any A key c B b d w3 (HS.out.below B3.out) (by omega) (HS'.out.below B3.out) (by omega)
      clear hs3 hb3 S2
      generalize macL key b = M at *
      go_wp2_with fail
      refine RM.out.mono ?_
      rintro e w4 ⟨A4, c4, rfl, hm4⟩
      have B4 := Lib.hid (hop B3.out hm4.2)
      have v1 := text_on hm4.at_len.2 32 c4 N32.out _ (Below.refl _ _)
      have v2 := text_on (S2'.out.below hm4.2) key.length c2 rfl _ (Below.refl _ _)
      have v3 := text_on (HS.out.below B4.out) key.length c rfl _ (Below.refl _ _)
      clear hm4 RM u1
      go_wp2_with fail
      go_ret
      exact ⟨rfl, B4.out⟩
end Go.Proofs.YtmmfnfndepijlaaDoor
