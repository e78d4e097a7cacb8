/-
  Copy. Conditions: at most 100,000 pairs, of at most 1,000,000,000 bytes a key and a value.
-/
import Derived.Test.YtdaahapbpnjkfaaGreatCTrCopy
import Derived.Test.YtdaahapbpnjkfaaGreatCTrScan
import Derived.Deep.Cut
namespace Go.Proofs.YtdaahapbpnjkfaaGreat
open Go.RowKit
def TCopyOut (w : World) (F : Nat → Prop) (room : Int) (L : List Kv) (e : Ending) (w' : World) : Prop :=
  Below w.heap.size w w' ∧ ∃ g', e = .returned (.pointer (some ⟨g', 0, none⟩)) ∧ w.heap.size ≤ g' ∧ g' < w'.heap.size ∧ TreeAt w' (fun b => F b ∨ b = g') g' room L
set_option maxHeartbeats 1000000 in
theorem tcopy_any (w : World) (F : Nat → Prop) (hF : ∀ b, F b → b < w.heap.size) (g : Nat) (room : Int) (L : List Kv) (t : TreeAt w F g room L) :
    Calls Tryz.prog 91 #[.pointer (some ⟨g, 0, none⟩)] w (TCopyOut w F room L) := by
  have HSM := Lib.hid t.2.1
  obtain ⟨h, p, A0, A1, A2, n0, c0, n1, c1, n2, c2, hr, hv, hc, hb⟩ := tree_open t
  have HB := Lib.hid hb
  have hgood := hr.good
  have HC : Hid (∀ W, Below w.heap.size w W → Calls Tryz.prog 127 #[.agg #[.slice A0 n0 c0, .slice A1 n1 c1, .slice A2 n2 c2]] W (CopyOut W F h L p.els.length)) := fun W hW => by
    have := copy_any h W F (fun b hb => Nat.lt_of_lt_of_le (hF b hb) hW.size) p (hgood.below hW)
    rw [hv, hr.flat] at this
    exact this
  have HRT := Lib.hid hr
  obtain ⟨N, hN⟩ : ∃ N, N = L.length := ⟨_, rfl⟩
  obtain ⟨S, hS⟩ : ∃ S, S = sizeT L := ⟨_, rfl⟩
  rw [← hN, ← hS] at HB
  have HN := Lib.hid hN
  have HS := Lib.hid hS
  have HK : Hid (∀ W, Below w.heap.size w W → W.cell? ⟨g, 0, none⟩ = some (.slice A0 n0 c0) ∧ W.cell? ⟨g, 1, none⟩ = some (.slice A1 n1 c1) ∧ W.cell? ⟨g, 2, none⟩ = some (.slice A2 n2 c2) ∧ W.cell? ⟨g, 3, none⟩ = some (.int .i64 room) ∧ W.cell? ⟨g, 4, none⟩ = some (.int .i64 (N : Int)) ∧ W.cell? ⟨g, 5, none⟩ = some (.int .i64 (S : Int))) := fun W hW => by
    have := HB.out.below hW HB.out.lt
    exact ⟨this.cell (i := 0) (by simp), this.cell (i := 1) (by simp), this.cell (i := 2) (by simp), this.cell (i := 3) (by simp), this.cell (i := 4) (by simp), this.cell (i := 5) (by simp)⟩
  have bd : Below w.heap.size w w.drew := (Below.refl _ _).drew
  have HF := Lib.hid hF
  clear hr hv hc hb hgood t hN hS hF
  go_enter Tryz.func91, Tryz.ntmps91
  go_upto_region 3 with fail
  go_region_held_law (fun W => W.cell? ⟨g, 0, none⟩ = some (.slice A0 n0 c0) ∧ W.cell? ⟨g, 1, none⟩ = some (.slice A1 n1 c1) ∧ W.cell? ⟨g, 2, none⟩ = some (.slice A2 n2 c2) ∧ W.cell? ⟨g, 3, none⟩ = some (.int .i64 room) ∧ W.cell? ⟨g, 4, none⟩ = some (.int .i64 (N : Int)) ∧ W.cell? ⟨g, 5, none⟩ = some (.int .i64 (S : Int)))
    (first | exact HK.out _ bd | exact HK.out _ bd6 | exact HK.out _ (bd6.alloc bd6.size _))
    ((go_at_call 127; (with_reducible refine (HC.out _ bd).mono ?_); rintro e w6 ⟨⟨q, rfl, hq1, hq2, hq3, hq4⟩, hb6⟩; have bd6 : Below w.heap.size w w6 := hop bd hb6; have Q1 := Lib.hid hq1; have Q2 := Lib.hid hq2; have Q3 := Lib.hid hq3; have Q4 := Lib.hid hq4; clear hb6 hq1 hq2 hq3 hq4; obtain ⟨a0, m0, d0, a1, m1, d1, a2, m2, d2, hxf⟩ := page_form h q; have XF := Lib.hid hxf; unfold pval; rw [hxf]; clear hxf))
  all_goals go_wp2_with fail
  all_goals go_ret
  refine ⟨bd6.alloc bd6.size _, w6.heap.size, rfl, bd6.size, by simp, .inr rfl, HSM.out, h, q, ?_, ?_⟩
  · exact ⟨EOk.moved (.of_below ((Below.refl _ _).alloc (Nat.le_refl _) _) F) (fun i hi => hi.imp id (fun e => by omega)) (h + 1) q Q1.out, Q2.out, Q3.out, HRT.out.srt, by have := Q4.out; have := HRT.out.top; omega, fun h0 => by have := Q4.out; have := HRT.out.two h0; omega⟩
  · unfold treeCells
    rw [XF.out, ← HN.out, ← HS.out]
    exact Blk.new w6 _ _
end Go.Proofs.YtdaahapbpnjkfaaGreat
