/-
  The statement NumWides: any number is eight bytes, and any bytes are the number that they are, as the document says. No conditions beyond the row's own.
-/
import Derived.Test.YtjjefjkaepbhpaaDoorAwake
import Derived.Deep.RegionHeldLaw
namespace Go.Proofs.YtjjefjkaepbhpaaDoor
open Go.RowKit

/-- 'string(x)' of a slice that shows l, now and behind whatever leaves what is there. -/
theorem text_on {w : World} {A : Option Addr} {l : List UInt8} (h : Seen w A l) (n c : Nat) (hn : n = l.length) :
    ∀ w', Below w.heap.size w w' → (convert 22 9 (.slice A n c)).run Tryd.prog w' = .ok (.string ⟨l.toArray⟩) w' := by
  intro w' hb
  subst hn
  exact (h.below hb).text 22 9 5 Tryd.underlying22 Tryd.underlying5 Tryd.underlying9 c

/-- Wide, its bytes under one name. -/
theorem wide_named (n : Int) : ∃ L : List UInt8, L.length = 8 ∧ (∀ w, Calls Tryd.prog 26 #[.int .i64 n] w fun e w' => ∃ A, e = .returned (.slice A 8 8) ∧ Seen w' A L ∧ Below w.heap.size w w') ∧
    (∀ w, Calls Tryd.prog 27 #[.int .i64 n] w fun e w' => ∃ A, e = .returned (.slice A 8 8) ∧ Seen w' A L ∧ Below w.heap.size w w') :=
  ⟨_, by simp [wideOf], wide_any n, refWide_any n⟩

set_option maxRecDepth 100000 in
set_option maxHeartbeats 1000000 in
/-- the statement's last row, whatever was read -/
theorem numWides_row (n : Int) (A : Option Addr) (l : List UInt8) (c : Nat) (w : World) (x e0 : Int) (ht : Tab w)
    (h1 : ∀ w', Below w.heap.size w w' → Calls Tryd.prog 24 #[.slice A l.length c] w' fun e w'' => e = .returned (.tuple #[.int .i64 x, .int .i64 e0]) ∧ w' = w'')
    (h2 : ∀ w', Below w.heap.size w w' → Calls Tryd.prog 25 #[.slice A l.length c] w' fun e w'' => e = .returned (.tuple #[.int .i64 x, .int .i64 e0]) ∧ w' = w'') :
    Calls Tryd.prog 6 #[.int .i64 n, .slice A l.length c] w fun e w' => e = .returned (.bool true) ∧ Below w.heap.size w w' := by
  have H1 := Lib.hid h1
  have H2 := Lib.hid h2
  obtain ⟨L, h8, hw, hr⟩ := wide_named n
  have HW := Lib.hid hw
  have HR := Lib.hid hr
  have H8 := Lib.hid h8
  clear h1 h2 hw hr h8
  go_enter Tryd.func6, Tryd.ntmps6
  go_wp2_with fail
  refine (awake_any _ ht).mono ?_
  rintro e w1 ⟨rfl, hb1⟩
  have B1 := Lib.hid hb1
  clear hb1
  go_wp2_with fail
  refine (H1.out _ B1.out).mono ?_
  rintro e w2 ⟨rfl, rfl⟩
  go_wp2_with fail
  refine (H2.out _ B1.out).mono ?_
  rintro e w3 ⟨rfl, rfl⟩
  clear H1 H2
  have hx : (x == x) = true := by simp
  have he : (e0 == e0) = true := by simp
  go_wp2_with fail
  go_region_held_law (fun _ => True) (trivial) (first
    | (go_at_call 26; refine (HW.out _).mono ?_; rintro e w4 ⟨A4, rfl, hs4, hb4⟩; have hu4 := text_on hs4 8 8 H8.out.symm _ (Below.refl _ _); have HS4 := Lib.hid hs4; have HB4 := Lib.hid hb4; clear hs4 hb4)
    | (go_at_call 27; refine (HR.out _).mono ?_; rintro e w5 ⟨A5, rfl, hs5, hb5⟩; have hu5 := text_on hs5 8 8 H8.out.symm _ (Below.refl _ _); have hu45 := text_on HS4.out 8 8 H8.out.symm _ hb5; have HB5 := Lib.hid hb5; clear hs5 hb5))
  all_goals go_wp2_with fail
  all_goals go_ret
  all_goals exact ⟨rfl, hop (hop B1.out (undrew HB4.out)) HB5.out⟩

theorem numWides_walk (n : Int) (A : Option Addr) (l : List UInt8) (c : Nat) (w : World) (_ : -9223372036854775808 ≤ n) (_ : n ≤ 9223372036854775807) (_ : l.length ≤ 140737488351232) (hs : Seen w A l) (ht : Tab w) :
    Calls Tryd.prog 6 #[.int .i64 n, .slice A l.length c] w fun e w' => e = .returned (.bool true) ∧ Below w.heap.size w w' := by
  by_cases h8 : l.length = 8
  · exact numWides_row n A l c w _ 0 ht (fun w' hb => narrow_any A l c w' h8 (hs.below hb)) (fun w' hb => refNarrow_any A l c w' h8 (hs.below hb))
  · exact numWides_row n A l c w 0 1 ht (fun w' _ => narrow_no A l c w' h8) (fun w' _ => refNarrow_no A l c w' h8)
end Go.Proofs.YtjjefjkaepbhpaaDoor
