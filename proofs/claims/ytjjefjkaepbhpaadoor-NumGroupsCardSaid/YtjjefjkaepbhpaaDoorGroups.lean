/-
  The statement NumGroups: any number is put behind any bytes, and one is read from any, as the document says. No conditions beyond the row's own.
-/
import Derived.Test.YtjjefjkaepbhpaaDoorAwake
import Derived.Deep.RegionHeldLaw
namespace Go.Proofs.YtjjefjkaepbhpaaDoor
open Go.RowKit

/-- 'string(x)' of a slice that shows l, now and behind whatever leaves what is there. -/
theorem text_after {w w' : World} {A : Option Addr} {l : List UInt8} (h : Seen w A l) (hb : Below w.heap.size w w') (c : Nat) :
    (convert 22 9 (.slice A l.length c)).run Tryd.prog w' = .ok (.string ⟨l.toArray⟩) w' :=
  (h.below hb).text 22 9 5 Tryd.underlying22 Tryd.underlying5 Tryd.underlying9 c

/-- Put, its bytes under one name. -/
theorem put_named (A : Option Addr) (l : List UInt8) (c : Nat) (n : Int) (w : World) (hl : l.length ≤ 140737488351232) (h1 : n ≤ 9223372036854775807) (hs : Seen w A l) : ∃ L : List UInt8,
    (∀ W, Below w.heap.size w W → Calls Tryd.prog 22 #[.slice A l.length c, .int .i64 n] W fun e W' => ∃ A' c', e = .returned (.slice A' L.length c') ∧ Seen W' A' L ∧ Below W.heap.size W W') ∧
    (∀ W, Below w.heap.size w W → Calls Tryd.prog 23 #[.slice A l.length c, .int .i64 n] W fun e W' => ∃ A' c', e = .returned (.slice A' L.length c') ∧ Seen W' A' L ∧ Below W.heap.size W W') := by
  by_cases hn : n < 0
  · refine ⟨l, fun W hb => (put_neg A l c n W hl hn (hs.below hb)).mono ?_, fun W hb => (refPut_neg A l c n W hl hn (hs.below hb)).mono ?_⟩
    all_goals
      rintro e W' ⟨v, rfl, hm⟩
      obtain ⟨A', c', rfl, hs'⟩ := hm.form
      exact ⟨A', c', rfl, hs', hm.2⟩
  · obtain ⟨m, rfl⟩ := Int.eq_ofNat_of_zero_le (show 0 ≤ n by omega)
    refine ⟨l ++ putL m, fun W hb => (put_any A l c m W hl (by omega) (hs.below hb)).mono ?_, fun W hb => (refPut_any A l c m W hl (by omega) (hs.below hb)).mono ?_⟩
    all_goals
      rintro e W' ⟨v, rfl, hm⟩
      obtain ⟨A', c', rfl, hs'⟩ := hm.form
      exact ⟨A', c', rfl, hs', hm.2⟩

set_option maxRecDepth 100000 in
set_option maxHeartbeats 1000000 in
theorem numGroups_walk (A : Option Addr) (l : List UInt8) (c : Nat) (n : Int) (w : World) (hl : l.length ≤ 140737488351232) (hs : Seen w A l) (_ : -9223372036854775808 ≤ n) (h1 : n ≤ 9223372036854775807) (ht : Tab w) :
    Calls Tryd.prog 5 #[.slice A l.length c, .int .i64 n] w fun e w' => e = .returned (.bool true) ∧ Below w.heap.size w w' := by
  have HS := Lib.hid hs
  obtain ⟨L, hp, hr⟩ := put_named A l c n w hl h1 hs
  have HP := Lib.hid hp
  have HR := Lib.hid hr
  clear hs hp hr
  go_enter Tryd.func5, Tryd.ntmps5
  go_wp2_with fail
  refine (awake_any _ ht).mono ?_
  rintro e w1 ⟨rfl, hb1⟩
  have B1 := Lib.hid hb1
  clear hb1
  go_wp2_with fail
  refine (get_any A l c _ (by omega) (HS.out.below B1.out)).mono ?_
  rintro e w2 ⟨rfl, rfl⟩
  go_wp2_with fail
  refine (refGet_any A l c _ (HS.out.below B1.out)).mono ?_
  rintro e w3 ⟨rfl, rfl⟩
  generalize (getL l 0 0).1 = x
  generalize (getL l 0 0).2 = y
  have hx : ((x : Int) == (x : Int)) = true := by simp
  have hy : ((y : Int) == (y : Int)) = true := by simp
  go_wp2_with fail
  go_region_held_law (fun _ => True) (trivial) (first
    | (go_at_call 22; refine (HP.out _ ?_).mono ?_; exact B1.out.drew; rintro e w4 ⟨A4, c4, rfl, hs4, hb4⟩; have hu4 := text_after hs4 (Below.refl _ _) c4; have HS4 := Lib.hid hs4; have HB4 := Lib.hid hb4; clear hs4 hb4)
    | (go_at_call 23; refine (HR.out _ ?_).mono ?_; exact hop B1.out (undrew HB4.out); rintro e w5 ⟨A5, c5, rfl, hs5, hb5⟩; have hu5 := text_after hs5 (Below.refl _ _) c5; have hu45 := text_after HS4.out hb5 c4; have HB5 := Lib.hid hb5; clear hs5 hb5))
  all_goals go_wp2_with fail
  all_goals go_ret
  all_goals exact ⟨rfl, hop (hop B1.out (undrew HB4.out)) HB5.out⟩
end Go.Proofs.YtjjefjkaepbhpaaDoor
