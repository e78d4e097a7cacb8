/-
  The statement NumHexes: any bytes are told as text as the document says, and any text is the bytes that it says, or none. No conditions beyond the row's own.
-/
import Derived.Test.YtjjefjkaepbhpaaDoorAwake
namespace Go.Proofs.YtjjefjkaepbhpaaDoor
open Go.RowKit

set_option maxRecDepth 100000 in
set_option maxHeartbeats 1000000 in
theorem numHexes_walk (A : Option Addr) (l : List UInt8) (c : Nat) (s : ByteArray) (w : World) (hl : l.length ≤ 140737488351232) (hs : Seen w A l) (hz : s.size ≤ 140737488351232) (ht : Tab w) :
    Calls Tryd.prog 3 #[.slice A l.length c, .string s] w fun e w' => e = .returned (.bool true) ∧ Below w.heap.size w w' := by
  have HS := Lib.hid hs
  clear hs
  go_enter Tryd.func3, Tryd.ntmps3
  go_wp2_with fail
  refine (awake_any _ ht).mono ?_
  rintro e w1 ⟨rfl, hb1⟩
  have B1 := Lib.hid hb1
  clear hb1
  go_wp2_with fail
  refine (unhex_any s _ (by omega)).mono ?_
  rintro e w2 ⟨A2, c2, rfl, hs2, hb2⟩
  have S2 := Lib.hid hs2
  have B2 := Lib.hid hb2
  clear hs2 hb2
  go_wp2_with fail
  refine (refUnhex_any s _ (by omega)).mono ?_
  rintro e w3 ⟨A3, c3, rfl, hs3, hb3⟩
  have S3 := Lib.hid hs3
  have B3 := Lib.hid hb3
  clear hs3 hb3
  generalize (unh s.data.toList []).getD [] = d at *
  generalize (unh s.data.toList []).isSome = o at *
  have BW : Hid (Below w.heap.size w w3) := hop (hop B1.out B2.out) B3.out
  go_wp2_with fail
  refine (hex_any A l c _ hl (HS.out.below BW.out)).mono ?_
  rintro e w4 ⟨rfl, hb4⟩
  have B4 := Lib.hid hb4
  clear hb4
  go_wp2_with fail
  refine (refHex_any A l c _ hl (HS.out.below (hop BW.out B4.out))).mono ?_
  rintro e w5 ⟨rfl, hb5⟩
  have B5 := Lib.hid hb5
  clear hb5
  generalize hexL l = h at *
  have hu2 := (S2.out.below (hop B3.out (hop B4.out B5.out))).text (P := Tryd.prog) 22 9 5 Tryd.underlying22 Tryd.underlying5 Tryd.underlying9 c2
  have hu3 := (S3.out.below (hop B4.out B5.out)).text (P := Tryd.prog) 22 9 5 Tryd.underlying22 Tryd.underlying5 Tryd.underlying9 c3
  go_wp2_with fail
  go_ret
  exact ⟨by cases o <;> rfl, hop BW.out (hop B4.out B5.out)⟩
end Go.Proofs.YtjjefjkaepbhpaaDoor
