/-
  The statement NumSums: the sum of any bytes is what the document says (of at most 5000 bytes it is asked). No conditions beyond the row's own.
-/
import Derived.Test.YtjjefjkaepbhpaaDoorAwake
namespace Go.Proofs.YtjjefjkaepbhpaaDoor
open Go.RowKit

set_option maxHeartbeats 400000 in
theorem numSums_walk (A : Option Addr) (l : List UInt8) (c : Nat) (w : World) (hl : l.length ≤ 140737488351232) (hs : Seen w A l) (ht : Tab w) :
    Calls Tryd.prog 7 #[.slice A l.length c] w fun e w' => e = .returned (.bool true) ∧ Below w.heap.size w w' := by
  have HS := Lib.hid hs
  clear hs
  by_cases h5 : 5000 < l.length
  · go_enter Tryd.func7, Tryd.ntmps7
    go_wp2_with fail
    refine (awake_any _ ht).mono ?_
    rintro e w1 ⟨rfl, hb1⟩
    have B1 := Lib.hid hb1
    clear hb1
    go_wp2_with fail
    go_ret
    exact ⟨rfl, B1.out⟩
  · go_enter Tryd.func7, Tryd.ntmps7
    go_wp2_with fail
    refine (awake_any _ ht).mono ?_
    rintro e w1 ⟨rfl, hb1⟩
    have B1 := Lib.hid hb1
    clear hb1
    go_wp2_with fail
    refine (crc_any A l c _ (by omega) (HS.out.below B1.out)).mono ?_
    rintro e w2 ⟨rfl, rfl⟩
    go_wp2_with fail
    refine (refCrc_any A l c _ (by omega) (HS.out.below B1.out)).mono ?_
    rintro e w3 ⟨rfl, rfl⟩
    generalize crcOf l = x at *
    have hx : ((x : Int) == (x : Int)) = true := by simp
    go_wp2_with fail
    go_ret
    exact ⟨rfl, B1.out⟩
end Go.Proofs.YtjjefjkaepbhpaaDoor
