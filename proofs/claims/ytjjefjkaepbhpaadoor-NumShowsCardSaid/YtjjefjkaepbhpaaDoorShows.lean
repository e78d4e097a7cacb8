/-
  The statement NumShows: any number is shown, and any text is the number that it says, as the document says. No conditions beyond the row's own.
-/
import Derived.Test.YtjjefjkaepbhpaaDoorAwake
import Derived.Test.YtjjefjkaepbhpaaDoorParse
import Derived.Test.YtjjefjkaepbhpaaDoorShow
namespace Go.Proofs.YtjjefjkaepbhpaaDoor
open Go.RowKit

set_option maxRecDepth 100000 in
set_option maxHeartbeats 1000000 in
theorem numShows_walk (n : Int) (s : ByteArray) (w : World) (h0 : -9223372036854775808 ≤ n) (h1 : n ≤ 9223372036854775807) (hz : s.size ≤ 140737488351232) (ht : Tab w) :
    Calls Tryd.prog 4 #[.int .i64 n, .string s] w fun e w' => e = .returned (.bool true) ∧ Below w.heap.size w w' := by
  go_enter Tryd.func4, Tryd.ntmps4
  go_wp2_with fail
  refine (awake_any _ ht).mono ?_
  rintro e w1 ⟨rfl, hb1⟩
  have B1 := Lib.hid hb1
  clear hb1
  go_wp2_with fail
  refine (parse_any s _ (by omega)).mono ?_
  rintro e w2 ⟨rfl, rfl⟩
  go_wp2_with fail
  refine (refParse_any s _ (by omega)).mono ?_
  rintro e w2 ⟨rfl, rfl⟩
  generalize parseOf s.data.toList = p at *
  obtain ⟨p1, p2⟩ := p
  go_wp2_with fail
  refine (show_any n _ h0 h1 (ht.below B1.out)).mono ?_
  rintro e w3 ⟨rfl, hb3⟩
  have B3 := Lib.hid hb3
  clear hb3
  go_wp2_with fail
  refine (refShow_any n _ h0 h1).mono ?_
  rintro e w4 ⟨rfl, hb4⟩
  have B4 := Lib.hid hb4
  clear hb4
  generalize Lib.itoa n = d at *
  have hp : ((p1 : Int) == (p1 : Int)) = true := by simp
  go_wp2_with fail
  go_ret
  exact ⟨by cases p2 <;> rfl, hop B1.out (hop B3.out B4.out)⟩
end Go.Proofs.YtjjefjkaepbhpaaDoor
