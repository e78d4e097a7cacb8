/-
  The document's rel, in the reader: no relation; a relation that begins with 'define'.
  Rows of refs: the cells of one. No program is named.
  The document's rel, in the reader: a relation that begins with 'relation'.
  The tokens of a text end with the end or with what begins none. No program is named.
-/
import Derived.Test.YtehabjiacgibpaaGreatCLpRf
import Derived.Test.YtehabjiacgibpaaGreatCNmSub
import Derived.Test.YtehabjiacgibpaaGreatCTuE
import Derived.Test.YtehabjiacgibpaaGreatCRowG
import Derived.Deep.RegionHeldLaw
import Derived.Deep.RegionLaw
import Derived.Test.YtehabjiacgibpaaGreatCRuF0
namespace Go.Proofs.YtehabjiacgibpaaGreat
open Go.RowKit
set_option maxHeartbeats 1000000 in
theorem rel_none {W : World} {g : Nat} {Q : Option Addr × Nat} {L : List Tk} {k op : Nat} {d : Dg} (h : Rd W g Q L k op d) (hk : k < L.length) (h1 : ¬ (d.2.2 = 0 ∧ L[k].1 = relW2)) (h2 : ¬ (d.2.2 = 0 ∧ L[k].1 = defW2)) :
    Calls Tryz.prog 32 #[.pointer (some ⟨g, 0, none⟩)] W fun r w' => r = .returned (.tuple #[.agg #[.string ⟨#[]⟩, .slice none 0 0, .int .i64 0, .string ⟨#[]⟩, .string ⟨#[]⟩, .slice none 0 0], .bool false]) ∧ Rd w' g Q L k op d ∧ Spared W w' (onG g) := by
  have hb2 := ((Below.refl W.heap.size W).alloc (Nat.le_refl _) (.cells #[.string ⟨#[]⟩, .slice none 0 0, .int .i64 0, .string ⟨#[]⟩, .string ⟨#[]⟩, .slice none 0 0] 71)).alloc (by simp) (.cells #[.string ⟨#[]⟩, .slice none 0 0, .int .i64 0, .string ⟨#[]⟩, .string ⟨#[]⟩, .slice none 0 0] 71)
  have HR2 := Lib.hid (h.below hb2)
  have HS2 := Lib.hid (Spared.of_below hb2 (onG g))
  have HZ2 := Lib.hid ((Blk.new W [.string ⟨#[]⟩, .slice none 0 0, .int .i64 0, .string ⟨#[]⟩, .string ⟨#[]⟩, .slice none 0 0] 71).alloc (.cells #[.string ⟨#[]⟩, .slice none 0 0, .int .i64 0, .string ⟨#[]⟩, .string ⟨#[]⟩, .slice none 0 0] 71))
  have hX := Blk.new (W.alloc (.cells #[.string ⟨#[]⟩, .slice none 0 0, .int .i64 0, .string ⟨#[]⟩, .string ⟨#[]⟩, .slice none 0 0] 71)) [.string ⟨#[]⟩, .slice none 0 0, .int .i64 0, .string ⟨#[]⟩, .string ⟨#[]⟩, .slice none 0 0] 71
  rw [World.size_alloc] at hX
  have HX2 := Lib.hid hX
  have hgn : g ≠ W.heap.size := Nat.ne_of_lt h.lt
  have hgx : g ≠ W.heap.size + 1 := by have := h.lt; omega
  have HR0 := Lib.hid h
  have HI1 := Lib.hid (is_any HR2.out hk relW2)
  rw [if_neg h1, decide_eq_false h1] at HI1
  have HI2 : Hid (∀ w, Rd w g Q L k op d → Calls Tryz.prog 30 #[.pointer (some ⟨g, 0, none⟩), strV defW2] w fun e w' => e = .returned (.bool false) ∧ Rd w' g Q L k op d ∧ Spared w w' (onG g)) := Lib.hid (fun w h => by
    have := is_any h hk defW2
    rwa [if_neg h2, decide_eq_false h2] at this)
  clear hb2 h h1 h2 hX
  go_enter Tryz.func32, Tryz.ntmps32
  go_wp2_with fail
  go_at_call 30
  refine HI1.out.mono ?_
  rintro r w3 ⟨rfl, hr3, hs3⟩
  have HR3 := Lib.hid hr3
  have HS3 := Lib.hid (sp_trans HS2.out hs3)
  have HZ3 := Lib.hid (hs3.blk HZ2.out (fun e => hgn e.symm))
  have HX3 := Lib.hid (hs3.blk HX2.out (fun e => hgx e.symm))
  clear hr3 hs3 HR2 HS2 HZ2 HX2 HI1
  go_wp2_with fail
  go_at_call 30
  refine (HI2.out _ HR3.out).mono ?_
  rintro r w4 ⟨rfl, hr4, hs4⟩
  have HR4 := Lib.hid hr4
  have HS4 := Lib.hid (sp_trans HS3.out hs4)
  have hZ4 := hs4.blk HZ3.out (fun e => hgn e.symm)
  have hX4 := hs4.blk HX3.out (fun e => hgx e.symm)
  have v0 := hZ4.cell (i := 0) (by simp)
  have v1 := hZ4.cell (i := 1) (by simp)
  have v2 := hZ4.cell (i := 2) (by simp)
  have v3 := hZ4.cell (i := 3) (by simp)
  have v4 := hZ4.cell (i := 4) (by simp)
  have v5 := hZ4.cell (i := 5) (by simp)
  simp only [List.getElem_cons_succ, List.getElem_cons_zero] at v0 v1 v2 v3 v4 v5
  have f0 := hZ4.free 0
  have f1 := hZ4.free 1
  have f2 := hZ4.free 2
  have f3 := hZ4.free 3
  have f4 := hZ4.free 4
  have f5 := hZ4.free 5
  have z0 := hX4.cell (i := 0) (by simp)
  have z1 := hX4.cell (i := 1) (by simp)
  have z2 := hX4.cell (i := 2) (by simp)
  have z3 := hX4.cell (i := 3) (by simp)
  have z4 := hX4.cell (i := 4) (by simp)
  have z5 := hX4.cell (i := 5) (by simp)
  simp only [List.getElem_cons_succ, List.getElem_cons_zero] at z0 z1 z2 z3 z4 z5
  clear hr4 hs4 hZ4 hX4 HZ3 HX3 HR3 HS3
  go_wp2_with fail
  refine bodyPost_ret (v := .tuple #[.agg #[.string ⟨#[]⟩, .slice none 0 0, .int .i64 0, .string ⟨#[]⟩, .string ⟨#[]⟩, .slice none 0 0], .bool false]) (by simp [results, Tryz.results32, go_sem, v0, v1, v2, v3, v4, v5]) rfl ?_
  exact ⟨rfl, (HR0.out.setNew (HR0.out.setNew (HR0.out.setNew (HR0.out.setNew (HR0.out.setNew (HR0.out.setNew HR4.out (Nat.le_refl _) 0 _) (Nat.le_refl _) 1 _) (Nat.le_refl _) 2 _) (Nat.le_refl _) 3 _) (Nat.le_refl _) 4 _) (Nat.le_refl _) 5 _), ((((((HS4.out.setNew (Nat.le_refl _) 0 _).setNew (Nat.le_refl _) 1 _).setNew (Nat.le_refl _) 2 _).setNew (Nat.le_refl _) 3 _).setNew (Nat.le_refl _) 4 _).setNew (Nat.le_refl _) 5 _)⟩
def RlOut (P : List Tk → Rs Rl) (W : World) (g : Nat) (Q : Option Addr × Nat) (L : List Tk) (k : Nat) (d : Dg) (r : Ending) (w' : World) : Prop :=
  ∃ x cs k' op' d', r = .returned (.tuple #[.agg cs.toArray, .bool true]) ∧ RlAt w' (Old g W) x cs ∧ (d'.2.2 = 0 → op' = 0) ∧ op' ≤ 1 ∧ Goes P L k d x k' d' ∧ Rd w' g Q L k' op' d' ∧ Spared W w' (onG g)
set_option maxHeartbeats 1000000 in
theorem rel_define {W : World} {g : Nat} {Q : Option Addr × Nat} {L : List Tk} {k : Nat} {d : Dg} (he : Ends L) (h : Rd W g Q L k 0 d) (hk : k < L.length) (hd : d.2.2 = 0) (ht : L[k].1 = defW2) :
    Calls Tryz.prog 32 #[.pointer (some ⟨g, 0, none⟩)] W (RlOut (fun ts => defP ts.tail) W g Q L k d) := by
  have hb2 := ((Below.refl W.heap.size W).alloc (Nat.le_refl _) (.cells #[.string ⟨#[]⟩, .slice none 0 0, .int .i64 0, .string ⟨#[]⟩, .string ⟨#[]⟩, .slice none 0 0] 71)).alloc (by simp) (.cells #[.string ⟨#[]⟩, .slice none 0 0, .int .i64 0, .string ⟨#[]⟩, .string ⟨#[]⟩, .slice none 0 0] 71)
  have HR2 := Lib.hid (h.below hb2)
  have HS2 := Lib.hid (Spared.of_below hb2 (onG g))
  have HZ2 := Lib.hid ((Blk.new W [.string ⟨#[]⟩, .slice none 0 0, .int .i64 0, .string ⟨#[]⟩, .string ⟨#[]⟩, .slice none 0 0] 71).alloc (.cells #[.string ⟨#[]⟩, .slice none 0 0, .int .i64 0, .string ⟨#[]⟩, .string ⟨#[]⟩, .slice none 0 0] 71))
  have hX := Blk.new (W.alloc (.cells #[.string ⟨#[]⟩, .slice none 0 0, .int .i64 0, .string ⟨#[]⟩, .string ⟨#[]⟩, .slice none 0 0] 71)) [.string ⟨#[]⟩, .slice none 0 0, .int .i64 0, .string ⟨#[]⟩, .string ⟨#[]⟩, .slice none 0 0] 71
  rw [World.size_alloc] at hX
  have HX2 := Lib.hid hX
  have hgn : g ≠ W.heap.size := Nat.ne_of_lt h.lt
  have hgx : g ≠ W.heap.size + 1 := by have := h.lt; omega
  have HR0 := Lib.hid h
  have HI1 := Lib.hid (is_any HR2.out hk relW2)
  have h1 : ¬ (d.2.2 = 0 ∧ L[k].1 = relW2) := fun h => absurd (ht.symm.trans h.2) (by decide)
  rw [if_neg h1, decide_eq_false h1] at HI1
  have HI2 : Hid (∀ w, Rd w g Q L k 0 d → Calls Tryz.prog 30 #[.pointer (some ⟨g, 0, none⟩), strV defW2] w fun e w' => e = .returned (.bool true) ∧ Rd w' g Q L (k + 1) 0 d ∧ Spared w w' (onG g)) := Lib.hid (fun w h => by
    have := is_any h hk defW2
    rwa [if_pos ⟨hd, ht⟩, decide_eq_true ⟨hd, ht⟩] at this)
  have hk1 : k + 1 < L.length := he.more hk (by rw [ht]; decide) (by rw [ht]; decide)
  have HDT := Lib.hid (And.intro hd ht)
  clear hb2 h h1 hX hd ht
  go_enter Tryz.func32, Tryz.ntmps32
  go_wp2_with fail
  go_at_call 30
  refine HI1.out.mono ?_
  rintro r w3 ⟨rfl, hr3, hs3⟩
  have HR3 := Lib.hid hr3
  have HS3 := Lib.hid (sp_trans HS2.out hs3)
  have HZ3 := Lib.hid (hs3.blk HZ2.out (fun e => hgn e.symm))
  have HX3 := Lib.hid (hs3.blk HX2.out (fun e => hgx e.symm))
  clear hr3 hs3 HR2 HS2 HZ2 HX2 HI1
  go_wp2_with fail
  go_at_call 30
  refine (HI2.out _ HR3.out).mono ?_
  rintro r w4 ⟨rfl, hr4, hs4⟩
  have HS4 := Lib.hid (sp_trans HS3.out hs4)
  have HZ4 := Lib.hid (hs4.blk HZ3.out (fun e => hgn e.symm))
  have HX4 := Lib.hid (hs4.blk HX3.out (fun e => hgx e.symm))
  have HNM := Lib.hid (rname_goes he hr4 hk1)
  clear hr4 hs4 HZ3 HX3 HR3 HS3 HI2
  go_wp2_with fail
  go_at_call 31
  with_reducible refine HNM.out.mono ?_
  rintro r w5 ⟨s, k5, d5, rfl, hsm, hg5, hr5, hs5⟩
  have HG5 := Lib.hid hg5
  have hk5 : k5 < L.length := hg5.2.2.2
  have HS5 := Lib.hid (sp_trans HS4.out hs5)
  have HZ5 := Lib.hid (hs5.blk HZ4.out (fun e => hgn e.symm))
  have HX5 := Lib.hid (hs5.blk HX4.out (fun e => hgx e.symm))
  have hX5 := HX5.out
  have g0 := hX5.cell (i := 0) (by simp)
  simp only [List.getElem_cons_zero] at g0
  have gf := hX5.free 0
  have HR6 := Lib.hid (HR0.out.setNew hr5 (Nat.le_succ W.heap.size) 0 (strV s))
  have HS6 := Lib.hid (HS5.out.setNew (Nat.le_succ W.heap.size) 0 (strV s))
  have HZ6 := Lib.hid (HZ5.out.other ⟨W.heap.size + 1, 0, none⟩ (strV s) (Nat.ne_of_lt (Nat.lt_succ_self _)))
  have HX6 := Lib.hid (hX5.set 0 (strV s))
  simp only [List.set_cons_zero] at HX6
  have HMU := Lib.hid (must_any' he HR6.out hk5 [58] ⟨by decide, by decide⟩)
  clear hg5 hr5 hs5 HS4 HZ4 HX4 HNM hX5 HS5 HZ5 HX5
  go_wp2_with fail
  go_at_call 53
  with_reducible refine HMU.out.mono ?_
  rintro r w7 ⟨k7, d7, rfl, hg7, hr7, hs7⟩
  have HG7 := Lib.hid hg7
  have hk7 : k7 < L.length := hg7.2.2.2
  have HS7 := Lib.hid (sp_trans HS6.out hs7)
  have HZ7 := Lib.hid (hs7.blk HZ6.out (fun e => hgn e.symm))
  have HX7 := Lib.hid (hs7.blk HX6.out (fun e => hgx e.symm))
  have HEX := Lib.hid (expr_goes he 12 0 rfl w7 k7 d7 hr7 hk7)
  clear hg7 hr7 hs7 HS6 HZ6 HX6 HMU HR6
  go_wp2_with fail
  go_at_call 55
  with_reducible refine HEX.out.mono ?_
  rintro r w8 ⟨e, cs, k8, op8, d8, rfl, hE8, hh8, hg8, hr8, hs8⟩
  obtain ⟨p1, p2, p3, pA, pm, pc, rfl⟩ := hE8.shape
  have HG8 := Lib.hid hg8
  have HH8 := Lib.hid hh8
  have HS8 := Lib.hid (sp_trans HS7.out hs8)
  have HZ8 := Lib.hid (hs8.blk HZ7.out (fun e => hgn e.symm))
  have HX8 := Lib.hid (hs8.blk HX7.out (fun e => hgx e.symm))
  have HR8 := Lib.hid hr8
  have hz7 := HX7.out.lt
  have HE8 : Hid (ExAt w8 (fun b => b = g ∨ b ≤ W.heap.size + 1) e _) := Lib.hid (ExAt.moved (Spared.refl w8 _) (fun i hi => .inl (hi.elim .inl (fun h => .inr (by omega)))) _ _ hE8)
  have hX8 := HX8.out
  have hZ8 := HZ8.out
  have v0 := hZ8.cell (i := 0) (by simp)
  have v1 := hZ8.cell (i := 1) (by simp)
  have v2 := hZ8.cell (i := 2) (by simp)
  have v3 := hZ8.cell (i := 3) (by simp)
  have v4 := hZ8.cell (i := 4) (by simp)
  have v5 := hZ8.cell (i := 5) (by simp)
  simp only [List.getElem_cons_succ, List.getElem_cons_zero] at v0 v1 v2 v3 v4 v5
  have f0 := hZ8.free 0
  have f1 := hZ8.free 1
  have f2 := hZ8.free 2
  have f3 := hZ8.free 3
  have f4 := hZ8.free 4
  have f5 := hZ8.free 5
  have z0 := hX8.cell (i := 0) (by simp)
  have z1 := hX8.cell (i := 1) (by simp)
  have z2 := hX8.cell (i := 2) (by simp)
  have z3 := hX8.cell (i := 3) (by simp)
  have z4 := hX8.cell (i := 4) (by simp)
  have z5 := hX8.cell (i := 5) (by simp)
  simp only [List.getElem_cons_succ, List.getElem_cons_zero] at z0 z1 z2 z3 z4 z5
  have zf2 := hX8.free 2
  have zf3 := hX8.free 3
  have zf4 := hX8.free 4
  have zf5 := hX8.free 5
  clear hE8 hh8 hg8 hr8 hs8 hX8 hZ8 HZ7 HX7 HS7 HEX hz7 g0 gf
  go_wp2_with fail
  refine bodyPost_ret (v := .tuple #[.agg #[strV s, .slice none 0 0, .int .i64 p1, strV p2, strV p3, .slice pA pm pc], .bool true]) (by simp [results, Tryz.results32, go_sem, v0, v1, v2, v3, v4, v5]) rfl ?_
  unfold RlOut
  have HW : W.heap.size ≤ W.heap.size + 1 := Nat.le_succ _
  refine ⟨⟨s, [], e⟩, _, k8, op8, d8, rfl, ⟨none, 0, _, rfl, ⟨hsm, Nat.zero_le _⟩, .inl rfl, ?_⟩, fun h => (HH8.out.1 h).2, HH8.out.2.2, ?_, (HR0.out.setNew (HR0.out.setNew (HR0.out.setNew (HR0.out.setNew (HR0.out.setNew (HR0.out.setNew (HR0.out.setNew (HR0.out.setNew (HR0.out.setNew (HR0.out.setNew HR8.out HW 2 _) HW 3 _) HW 4 _) HW 5 _) (Nat.le_refl _) 0 _) (Nat.le_refl _) 1 _) (Nat.le_refl _) 2 _) (Nat.le_refl _) 3 _) (Nat.le_refl _) 4 _) (Nat.le_refl _) 5 _), ((((((((((HS8.out.setNew HW 2 _).setNew HW 3 _).setNew HW 4 _).setNew HW 5 _).setNew (Nat.le_refl _) 0 _).setNew (Nat.le_refl _) 1 _).setNew (Nat.le_refl _) 2 _).setNew (Nat.le_refl _) 3 _).setNew (Nat.le_refl _) 4 _).setNew (Nat.le_refl _) 5 _)⟩
  · exact ExAt.moved (((((((((((Spared.refl _ (fun b => b = g ∨ b ≤ W.heap.size + 1)).setCell (g := W.heap.size + 1) (.inr (Nat.le_refl _)) 2 _).setCell (g := W.heap.size + 1) (.inr (Nat.le_refl _)) 3 _).setCell (g := W.heap.size + 1) (.inr (Nat.le_refl _)) 4 _).setCell (g := W.heap.size + 1) (.inr (Nat.le_refl _)) 5 _).setCell (g := W.heap.size) (.inr (Nat.le_succ _)) 0 _).setCell (g := W.heap.size) (.inr (Nat.le_succ _)) 1 _).setCell (g := W.heap.size) (.inr (Nat.le_succ _)) 2 _).setCell (g := W.heap.size) (.inr (Nat.le_succ _)) 3 _).setCell (g := W.heap.size) (.inr (Nat.le_succ _)) 4 _).setCell (g := W.heap.size) (.inr (Nat.le_succ _)) 5 _) (fun i hi => .inl (hi.elim .inl (fun h => .inr (by omega)))) _ _ HE8.out
  · have hgo := Goes.then (f := fun s ts => (mustP [58] ts).then fun _ r => (exprD 12 r).then fun e r => .ok (⟨s, [], e⟩ : Rl) r) HG5.out (Goes.then (f := fun _ r => (exprD 12 r).then fun e r => .ok (⟨s, [], e⟩ : Rl) r) HG7.out (Goes.then HG8.out (Goes.ok (⟨s, [], e⟩ : Rl) HG8.out.2.2.2)))
    refine ⟨fun hd => ?_, hgo.2.1, Nat.le_of_succ_le hgo.2.2.1, hgo.2.2.2⟩
    have := hgo.1 hd
    rwa [← drop_tail] at this
end Go.Proofs.YtehabjiacgibpaaGreat
namespace Go.Proofs.YtehabjiacgibpaaGreat
open Go.RowKit
def rfC (x : Rf) : List Value := [strV x.1, strV x.2]
theorem rowRef : ∃ i z, RowT Tryz.prog 66 85 2 32 i z := by
  have hf : (Tryz.prog.info? 85).map (fun i => (i.zero, i.size, i.bytes)) = some (some (.agg #[.string ⟨#[]⟩, .string ⟨#[]⟩]), 2, 32) := by kernel_rfl
  obtain ⟨i, hi, hz, hs, hb⟩ := info_parts hf
  exact ⟨i, _, Tryz.underlying66, hi, hz, hs, hb, rfl⟩
theorem rf_one (x : Rf) : ∀ u ∈ rfC x, u.oneCell' = true := by
  intro u hu
  simp only [rfC, List.mem_cons, List.not_mem_nil, or_false] at hu
  rcases hu with rfl | rfl <;> rfl
end Go.Proofs.YtehabjiacgibpaaGreat
namespace Go.Proofs.YtehabjiacgibpaaGreat
open Go.RowKit
def ToldAt (W : World) (g : Nat) (Q : Option Addr × Nat) (L : List Tk) (k : Nat) (d : Dg) (s : Txt) (w : World) (xs : List Rf) (A : Option Addr) (n c k' : Nat) (d' : Dg) (m : Nat) : Prop :=
  (Blk w (W.heap.size + 1) [strV s, .slice A n c, .int .i64 0, .string ⟨#[]⟩, .string ⟨#[]⟩, .slice none 0 0] 71 ∧ Blk w W.heap.size [.string ⟨#[]⟩, .slice none 0 0, .int .i64 0, .string ⟨#[]⟩, .string ⟨#[]⟩, .slice none 0 0] 71 ∧ w.ownsRow (W.heap.size + 1 + 1) 85 2 (.slice A n c) n (xs.flatMap rfC) ∧ Rd w g Q L k' 0 d' ∧ Spared W w (onG g)) ∧
    (n = xs.length ∧ n ≤ k' ∧ small s ∧ ∀ x ∈ xs, small x.1 ∧ small x.2) ∧ k' < L.length ∧ L.length ≤ m + k' ∧ ∀ l k2 d2, Goes (refsLoop m) L k' d' l k2 d2 → Goes (fun ts => toldP ts.tail) L k d (⟨s, xs ++ l, noEx⟩ : Rl) k2 d2
theorem Rd.keep {W w w' : World} {g : Nat} {Q : Option Addr × Nat} {L : List Tk} {k op k0 op0 : Nat} {d d0 : Dg} {B : Nat} (h0 : Rd W g Q L k0 op0 d0) (h : Rd w g Q L k op d) (hb : Below B w w') (hB : W.heap.size ≤ B) : Rd w' g Q L k op d := by
  have hl := h0.lt
  obtain ⟨h1, h2, h3⟩ := h
  obtain ⟨_, q2, _⟩ := h0
  obtain ⟨A, c⟩ := Q
  refine ⟨h1.below hb (by omega), ?_, h3⟩
  refine RowAt.moved (F := fun x => x = g ∨ B ≤ x) (G := onG g) ⟨hb.os, hb.tape, hb.output, hb.size, fun k _ hn => hb.block k (Nat.lt_of_not_le (fun h => hn (.inr h)))⟩ (fun i hi => .inl (.inl hi)) (fun _ _ _ h => h) ?_
  rcases h2 with h2 | ⟨b1, off, e1, hb1, hF, hc⟩
  · exact .inl h2
  · rcases q2 with q2 | ⟨b2, off2, e2, hb2, _⟩
    · exact .inl q2
    · rw [e1] at e2
      injection e2 with e2
      injection e2 with e2 _ _
      exact .inr ⟨b1, off, e1, hb1, fun h => h.elim hF (fun h => by omega), hc⟩
theorem step_call1 {P : Program} {ops : Array Oper} {o : Oper} {a : Act} {K : Act → World → Prop} {Q : Exit → Act → World → Prop} {E : Prop} {w : World} (hgd : o.guard = none) (f : FuncId) (hcall : ∀ (args : Array Value) (w : World), (callFunc f args).run P w = .ok (.enter f args) w) (x : Operand) {ts : Array TypeId} {u : Value}
    (ho : o.op = .call { callee := .value (.func f), args := #[x], argTypes := ts }) (hx : a.eval x = u) (h : Calls P f #[u] w fun e w' => ∃ r, e = .returned r ∧ K (a.put o.dst r) w') :
    if Region.wanted o (yielded ops a.tmps) = true then Oper.wp P o a w K Q else E := by
  have hw : Region.wanted o (yielded ops a.tmps) = true := by simp [Region.wanted, hgd]
  rw [if_pos hw]
  subst hx
  have hrun : (execOp a.eval o).run P w = .ok (.enter f #[a.eval x]) w := by
    simp [execOp, ho, resolve, invoke, Act.eval, Deferred.ofValue, hcall]
  unfold Oper.wp
  rw [hrun, Oper.upon_enter]
  refine h.mono ?_
  rintro e w' ⟨r, rfl, hr⟩
  exact hr
theorem enter_ref (args : Array Value) (w : World) : (callFunc 54 args).run Tryz.prog w = .ok (.enter 54 args) w := by simp [go_sem]
set_option maxRecDepth 100000 in
set_option maxHeartbeats 1000000 in
theorem rel_told {W : World} {g : Nat} {Q : Option Addr × Nat} {L : List Tk} {k : Nat} {d : Dg} (he : Ends L) (h : Rd W g Q L k 0 d) (hk : k < L.length) (hd : d.2.2 = 0) (ht : L[k].1 = relW2) :
    Calls Tryz.prog 32 #[.pointer (some ⟨g, 0, none⟩)] W (RlOut (fun ts => toldP ts.tail) W g Q L k d) := by
  have hb2 := ((Below.refl W.heap.size W).alloc (Nat.le_refl _) (.cells #[.string ⟨#[]⟩, .slice none 0 0, .int .i64 0, .string ⟨#[]⟩, .string ⟨#[]⟩, .slice none 0 0] 71)).alloc (by simp) (.cells #[.string ⟨#[]⟩, .slice none 0 0, .int .i64 0, .string ⟨#[]⟩, .string ⟨#[]⟩, .slice none 0 0] 71)
  have HR2 := Lib.hid (h.below hb2)
  have HS2 := Lib.hid (Spared.of_below hb2 (onG g))
  have HZ2 := Lib.hid ((Blk.new W [.string ⟨#[]⟩, .slice none 0 0, .int .i64 0, .string ⟨#[]⟩, .string ⟨#[]⟩, .slice none 0 0] 71).alloc (.cells #[.string ⟨#[]⟩, .slice none 0 0, .int .i64 0, .string ⟨#[]⟩, .string ⟨#[]⟩, .slice none 0 0] 71))
  have hX := Blk.new (W.alloc (.cells #[.string ⟨#[]⟩, .slice none 0 0, .int .i64 0, .string ⟨#[]⟩, .string ⟨#[]⟩, .slice none 0 0] 71)) [.string ⟨#[]⟩, .slice none 0 0, .int .i64 0, .string ⟨#[]⟩, .string ⟨#[]⟩, .slice none 0 0] 71
  rw [World.size_alloc] at hX
  have HX2 := Lib.hid hX
  have hgn : g ≠ W.heap.size := Nat.ne_of_lt h.lt
  have hgx : g ≠ W.heap.size + 1 := by have := h.lt; omega
  have HR0 := Lib.hid h
  have HI1 := Lib.hid (is_any HR2.out hk relW2)
  rw [if_pos ⟨hd, ht⟩, decide_eq_true ⟨hd, ht⟩] at HI1
  have hk1 : k + 1 < L.length := he.more hk (by rw [ht]; decide) (by rw [ht]; decide)
  have HDT := Lib.hid (And.intro hd ht)
  clear hb2 h hX hd ht
  go_enter Tryz.func32, Tryz.ntmps32
  go_wp2_with fail
  go_at_call 30
  refine HI1.out.mono ?_
  rintro r w4 ⟨rfl, hr4, hs4⟩
  have HS4 := Lib.hid (sp_trans HS2.out hs4)
  have HZ4 := Lib.hid (hs4.blk HZ2.out (fun e => hgn e.symm))
  have HX4 := Lib.hid (hs4.blk HX2.out (fun e => hgx e.symm))
  have HNM := Lib.hid (rname_goes he hr4 hk1)
  clear hr4 hs4 HR2 HS2 HZ2 HX2 HI1
  go_wp2_with fail
  go_at_call 31
  with_reducible refine HNM.out.mono ?_
  rintro r w5 ⟨s, k5, d5, rfl, hsm, hg5, hr5, hs5⟩
  have HG5 := Lib.hid hg5
  have hk5 : k5 < L.length := hg5.2.2.2
  have HS5 := Lib.hid (sp_trans HS4.out hs5)
  have HZ5 := Lib.hid (hs5.blk HZ4.out (fun e => hgn e.symm))
  have HX5 := Lib.hid (hs5.blk HX4.out (fun e => hgx e.symm))
  have hX5 := HX5.out
  have g0 := hX5.cell (i := 0) (by simp)
  simp only [List.getElem_cons_zero] at g0
  have gf := hX5.free 0
  have HR6 := Lib.hid (HR0.out.setNew hr5 (Nat.le_succ W.heap.size) 0 (strV s))
  have HS6 := Lib.hid (HS5.out.setNew (Nat.le_succ W.heap.size) 0 (strV s))
  have HZ6 := Lib.hid (HZ5.out.other ⟨W.heap.size + 1, 0, none⟩ (strV s) (Nat.ne_of_lt (Nat.lt_succ_self _)))
  have HX6 := Lib.hid (hX5.set 0 (strV s))
  simp only [List.set_cons_zero] at HX6
  have HMU := Lib.hid (must_any' he HR6.out hk5 [58] ⟨by decide, by decide⟩)
  clear hg5 hr5 hs5 HS4 HZ4 HX4 HNM hX5 HS5 HZ5 HX5
  go_wp2_with fail
  go_at_call 53
  with_reducible refine HMU.out.mono ?_
  rintro r w7 ⟨k7, d7, rfl, hg7, hr7, hs7⟩
  have HG7 := Lib.hid hg7
  have hk7 : k7 < L.length := hg7.2.2.2
  have HS7 := Lib.hid (sp_trans HS6.out hs7)
  have HZ7 := Lib.hid (hs7.blk HZ6.out (fun e => hgn e.symm))
  have HX7 := Lib.hid (hs7.blk HX6.out (fun e => hgx e.symm))
  have HRF := Lib.hid (ref_goes he (hr7.below (Below.refl w7.heap.size w7).drew) hk7)
  have HZL := Lib.hid (And.intro HZ7.out.lt HX7.out.lt)
  have HR7 := Lib.hid hr7
  have g1 := HX7.out.drew.cell (i := 1) (by simp)
  simp only [List.getElem_cons_succ, List.getElem_cons_zero] at g1
  clear hg7 hr7 hs7 HS6 HZ6 HX6 HMU HR6 g0 gf
  obtain ⟨i0, z0, hRW⟩ := rowRef
  have HRW := Lib.hid hRW
  have HGX : Hid (¬ onG g (W.heap.size + 1)) := Lib.hid (fun e => hgx e.symm)
  have HGB : Hid (∀ i, onG g i → i < W.heap.size + 1 + 1) := Lib.hid (fun i hi => by have := HR0.out.lt; have e : i = g := hi; omega)
  have HGN : Hid (¬ onG g W.heap.size) := Lib.hid (fun e => hgn e.symm)
  clear hRW
  go_wp2_with fail
  go_region_law (first
      | (refine step_call1 rfl 54 enter_ref (.tmp 15) rfl (by first | (simp [Act.eval]; done) | (simp [Act.eval, Act.put]; done)) (HRF.out.mono ?_); rintro r w8 ⟨x, k8, d8, rfl, hx1, hx2, hg8, hr8, hs8⟩; refine ⟨_, rfl, ?_⟩; have HG8 := Lib.hid hg8; have HR8 := Lib.hid hr8; have HSM := Lib.hid (And.intro hx1 hx2); have HS8 := Lib.hid (sp_trans HS7.out (sp_trans (Spared.of_below (Below.refl w7.heap.size w7).drew (onG g)) hs8)); have HX8 := Lib.hid (hs8.blk HX7.out.drew HGX.out); have HZ8 := Lib.hid (hs8.blk HZ7.out.drew HGN.out); have g8 := HX8.out.cell (i := 1) (by simp); have g9 := (HX8.out.alloc (.cells #[strV x.1, strV x.2] 85)).cell (i := 1) (by simp); simp only [List.getElem_cons_succ, List.getElem_cons_zero] at g8 g9; have HBS : Hid (W.heap.size + 1 + 1 ≤ w8.heap.size) := Lib.hid (Nat.succ_le_of_lt HX8.out.lt); clear hx1 hx2 hg8 hr8 hs8)
      | (refine step_append_struct w8 rfl (.tmp 14) (.tmp 17) 66 rfl HRW.out (by decide) (by decide) (W.heap.size + 1 + 1) none 0 0 [] (rfC x) rfl (by simp [Act.eval]) (by simp [Act.eval]) HBS.out (World.ownsRow_nil _ _ _ _) (rf_one x) (by decide) ?_; intro A9 c9 w9 ho9 hg9; have HO9 := Lib.hid ho9; have HB9 : Hid (Below w8.heap.size w8 w9) := Lib.hid (below_grown ((Below.refl w8.heap.size w8).alloc (Nat.le_refl _) (.cells (rfC x).toArray 85)) (by rw [World.size_alloc]; omega) (World.ownsRow_nil _ _ 85 2) hg9); have HX9 := Lib.hid (HX8.out.below HB9.out HX8.out.lt); have g10 := HX9.out.cell (i := 1) (by simp); have f10 := HX9.out.free 1; simp only [List.getElem_cons_succ, List.getElem_cons_zero] at g10; clear ho9 hg9))
  all_goals
    have HL3 : Hid (ToldAt W g Q L k d s (w9.setCell ⟨W.heap.size + 1, 1, none⟩ (.slice A9 1 c9)) [x] A9 1 c9 k8 d8 (L.length - k8)) := by
      have hb9 := HB9.out
      have e1 : ({ block := W.heap.size + 1, off := 1 } : Addr) = ⟨W.heap.size + 1, 1, none⟩ := rfl
      refine Lib.hid ⟨⟨?_, (HZ8.out.below hb9 HZ8.out.lt).other _ _ (Nat.ne_of_lt (Nat.lt_succ_self _)), ?_, HR0.out.setNew (HR8.out.below hb9) (Nat.le_succ _) 1 _, (sp_trans HS8.out (Spared.of_below hb9 (onG g))).setNew (Nat.le_succ _) 1 _⟩, ⟨rfl, ?_, hsm, ?_⟩, HG8.out.2.2.2, by omega, fun l k2 d2 hgo => ?_⟩
      · simpa using HX9.out.set 1 (.slice A9 1 c9)
      · have := own_spared HO9.out ((Spared.refl w9 (fun b => b = W.heap.size + 1)).setCell (g := W.heap.size + 1) rfl 1 (.slice A9 1 c9)) (fun i hi => by omega)
        simpa using this
      · have := HG5.out.2.2.1; have := HG7.out.2.2.1; have := HG8.out.2.2.1; omega
      · intro y hy
        rw [List.mem_singleton.1 hy]
        exact HSM.out
      · have h3 := hgo.2.2.2
        have hin : Goes (fun r => (refsLoop r.length r).then fun l r => .ok (⟨s, x :: l, noEx⟩ : Rl) r) L k8 d8 (⟨s, x :: l, noEx⟩ : Rl) k2 d2 := Goes.at_ (Goes.then (f := fun l r => .ok (⟨s, x :: l, noEx⟩ : Rl) r) hgo (Goes.ok (⟨s, x :: l, noEx⟩ : Rl) h3)) (by simp only [List.length_drop])
        have hall := Goes.then (f := fun s ts => (mustP [58] ts).then fun _ r => (refP r).then fun x r => (refsLoop r.length r).then fun l r => .ok (⟨s, x :: l, noEx⟩ : Rl) r) HG5.out (Goes.then (f := fun _ r => (refP r).then fun x r => (refsLoop r.length r).then fun l r => .ok (⟨s, x :: l, noEx⟩ : Rl) r) HG7.out (Goes.then (f := fun x r => (refsLoop r.length r).then fun l r => .ok (⟨s, x :: l, noEx⟩ : Rl) r) HG8.out hin))
        refine ⟨fun hd => ?_, hall.2.1, Nat.le_of_succ_le hall.2.2.1, hall.2.2.2⟩
        have := hall.1 hd
        rwa [← drop_tail] at this
    clear HB9 HO9 HX9 HZ8 HX8 HR8 HS8 g8 g9 g10 f10 HG8 HSM HX7 HZ7 HR7 HS7 HRF g1
    go_wp2_with fail
    go_loopw [] (fun wr => ∃ (xs : List Rf) (A : Option Addr) (n c k' : Nat) (d' : Dg) (m : Nat), Hid (ToldAt W g Q L k d s wr xs A n c k' d' m)) (fun wr => L.length - (intOf ((wr.cell? ⟨g, 1, none⟩).getD (.int .i64 0))).toNat)
    case atStart => exact ⟨_, _, _, _, _, _, _, HL3⟩
    case round =>
      clear HL3
      obtain ⟨xs, A, n, c, k', d', m, HL⟩ := hrel
      have HR := Lib.hid HL.out.1.2.2.2.1
      have hk' := HL.out.2.2.1
      have HI := Lib.hid (is_any HR.out hk' [124])
      by_cases hq : d'.2.2 = 0 ∧ L[k'].1 = [124]
      · rw [if_pos hq, decide_eq_true hq] at HI
        have HQ := Lib.hid hq
        have hk2 : k' + 1 < L.length := he.more hk' (by rw [hq.2]; decide) (by rw [hq.2]; decide)
        clear hq
        go_wp2_with fail
        go_at_call 30
        refine HI.out.mono ?_
        rintro r w4 ⟨rfl, hr4, hs4⟩
        have HS4 := Lib.hid (sp_trans HL.out.1.2.2.2.2 hs4)
        have HX4 := Lib.hid (hs4.blk HL.out.1.1 HGX.out)
        have HZ4 := Lib.hid (hs4.blk HL.out.1.2.1 HGN.out)
        have HO4 := Lib.hid (own_spared HL.out.1.2.2.1 hs4 (fun i hi => by have := HR0.out.lt; omega))
        have HRF := Lib.hid (ref_goes he (hr4.below (Below.refl w4.heap.size w4).drew) hk2)
        have g1 := HX4.out.drew.cell (i := 1) (by simp)
        simp only [List.getElem_cons_succ, List.getElem_cons_zero] at g1
        have HN6 : Hid (n ≤ 1000000) := Lib.hid (by have := HL.out.2.1.2.1; have := HR.out.2.2; omega)
        clear hr4 hs4 HI
        go_wp2_with fail
        go_region_law (first
          | (refine step_call1 rfl 54 enter_ref (.tmp 24) rfl (by first | (simp [Act.eval]; done) | (simp [Act.eval, Act.put]; done)) (HRF.out.mono ?_); rintro r w8 ⟨x, k8, d8, rfl, hx1, hx2, hg8, hr8, hs8⟩; refine ⟨_, rfl, ?_⟩; have HG8 := Lib.hid hg8; have HR8 := Lib.hid hr8; have HSM := Lib.hid (And.intro hx1 hx2); have HS8 := Lib.hid (sp_trans HS4.out (sp_trans (Spared.of_below (Below.refl w4.heap.size w4).drew (onG g)) hs8)); have HX8 := Lib.hid (hs8.blk HX4.out.drew HGX.out); have HZ8 := Lib.hid (hs8.blk HZ4.out.drew HGN.out); have HO8 := Lib.hid (own_spared HO4.out (sp_trans (Spared.of_below (Below.refl w4.heap.size w4).drew (onG g)) hs8) HGB.out); have g8 := HX8.out.cell (i := 1) (by simp); have g9 := (HX8.out.alloc (.cells #[strV x.1, strV x.2] 85)).cell (i := 1) (by simp); simp only [List.getElem_cons_succ, List.getElem_cons_zero] at g8 g9; have HBS : Hid (W.heap.size + 1 + 1 ≤ w8.heap.size) := Lib.hid (Nat.succ_le_of_lt HX8.out.lt); clear hx1 hx2 hg8 hr8 hs8)
          | (refine step_append_struct w8 rfl (.tmp 23) (.tmp 26) 66 rfl HRW.out (by decide) (by decide) (W.heap.size + 1 + 1) A n c (xs.flatMap rfC) (rfC x) rfl (by first | (simp [Act.eval]; done) | (simp [Act.eval, Act.put]; done)) (by first | (simp [Act.eval]; done) | (simp [Act.eval, Act.put]; done)) HBS.out HO8.out (rf_one x) HN6.out ?_; intro A9 c9 w9 ho9 hg9; have HO9 := Lib.hid ho9; have HB9 : Hid (Below (W.heap.size + 1 + 1) w8 w9) := Lib.hid (below_grown ((Below.refl (W.heap.size + 1 + 1) w8).alloc HBS.out (.cells (rfC x).toArray 85)) (by rw [World.size_alloc]; exact Nat.le_succ_of_le HBS.out) (HO8.out.alloc _) hg9); have HX9 := Lib.hid (HX8.out.below HB9.out (Nat.lt_succ_self _)); have g10 := HX9.out.cell (i := 1) (by simp); have f10 := HX9.out.free 1; simp only [List.getElem_cons_succ, List.getElem_cons_zero] at g10; clear ho9 hg9))
        all_goals
          go_wp2_with fail
          go_roundw
          case rel =>
            have hN2 : W.heap.size ≤ W.heap.size + 1 + 1 := by omega
            refine ⟨xs ++ [x], A9, n + 1, c9, k8, d8, m - 1, Lib.hid ⟨⟨?_, (HZ8.out.below HB9.out (by omega)).other _ _ (Nat.ne_of_lt (Nat.lt_succ_self _)), ?_, HR0.out.setNew (HR0.out.keep HR8.out HB9.out hN2) (Nat.le_succ _) 1 _, (HS8.out.keep HB9.out hN2).setNew (Nat.le_succ _) 1 _⟩, ⟨?_, ?_, HL.out.2.1.2.2.1, ?_⟩, HG8.out.2.2.2, ?_, fun l k2 d2 hgo => ?_⟩⟩
            · simpa using HX9.out.set 1 (.slice A9 (n + 1) c9)
            · have := own_spared HO9.out ((Spared.refl w9 (fun b => b = W.heap.size + 1)).setCell (g := W.heap.size + 1) rfl 1 (.slice A9 (n + 1) c9)) (fun i hi => by omega)
              simpa using this
            · have := HL.out.2.1.1; simp; omega
            · have := HL.out.2.1.2.1; have := HG8.out.2.2.1; omega
            · intro y hy
              rcases List.mem_append.1 hy with hy | hy
              · exact HL.out.2.1.2.2.2 y hy
              · rw [List.mem_singleton.1 hy]
                exact HSM.out
            · have := HL.out.2.2.2.1; have := HG8.out.2.2.1; omega
            · have hm := HL.out.2.2.2.1
              obtain ⟨q, rfl⟩ : ∃ q, m = q + 1 := ⟨m - 1, by omega⟩
              have := HL.out.2.2.2.2 (x :: l) k2 d2 (Goes.take (Q := fun ts => (refP ts).then fun x r => (refsLoop q r).then fun l r => .ok (x :: l) r) (R := fun ts => .ok [] ts) hk' HQ.out (Goes.then (f := fun x r => (refsLoop q r).then fun l r => .ok (x :: l) r) HG8.out (Goes.then (f := fun l r => .ok (x :: l) r) hgo (Goes.ok (x :: l) hgo.2.2.2))))
              rwa [List.append_assoc]
          case measure =>
            have e1 := HR.out.1.cell (i := 1) (by simp)
            have e2 := (HR0.out.setNew (HR0.out.keep HR8.out HB9.out (by omega : W.heap.size ≤ W.heap.size + 1 + 1)) (Nat.le_succ _) 1 (.slice A9 (n + 1) c9)).1.cell (i := 1) (by simp)
            simp only [List.getElem_cons_succ, List.getElem_cons_zero] at e1 e2
            have := HG8.out.2.2.1; have := HG8.out.2.2.2
            rw [e1]
            first
              | rw [e2]
              | (have e3 := e2; simp only [Int.natCast_add] at e3; rw [e3])
            simp [intOf]
            omega
      · rw [if_neg hq, decide_eq_false hq] at HI
        have HQ := Lib.hid hq
        clear hq
        go_wp2_with fail
        go_at_call 30
        refine HI.out.mono ?_
        rintro r w4 ⟨rfl, hr4, hs4⟩
        have HR4 := Lib.hid hr4
        have HS4 := Lib.hid (sp_trans HL.out.1.2.2.2.2 hs4)
        have hX4 := hs4.blk HL.out.1.1 HGX.out
        have hZ4 := hs4.blk HL.out.1.2.1 HGN.out
        have HO4 := Lib.hid (own_spared HL.out.1.2.2.1 hs4 (fun i hi => by have := HR0.out.lt; omega))
        have v0 := hZ4.cell (i := 0) (by simp)
        have v1 := hZ4.cell (i := 1) (by simp)
        have v2 := hZ4.cell (i := 2) (by simp)
        have v3 := hZ4.cell (i := 3) (by simp)
        have v4 := hZ4.cell (i := 4) (by simp)
        have v5 := hZ4.cell (i := 5) (by simp)
        simp only [List.getElem_cons_succ, List.getElem_cons_zero] at v0 v1 v2 v3 v4 v5
        have f0 := hZ4.free 0
        have f1 := hZ4.free 1
        have f2 := hZ4.free 2
        have f3 := hZ4.free 3
        have f4 := hZ4.free 4
        have f5 := hZ4.free 5
        have z0 := hX4.cell (i := 0) (by simp)
        have z1 := hX4.cell (i := 1) (by simp)
        have z2 := hX4.cell (i := 2) (by simp)
        have z3 := hX4.cell (i := 3) (by simp)
        have z4 := hX4.cell (i := 4) (by simp)
        have z5 := hX4.cell (i := 5) (by simp)
        simp only [List.getElem_cons_succ, List.getElem_cons_zero] at z0 z1 z2 z3 z4 z5
        clear hr4 hs4 hX4 hZ4 HI
        go_wp2_with fail
        refine bodyPost_ret (v := .tuple #[.agg #[strV s, .slice A n c, .int .i64 0, .string ⟨#[]⟩, .string ⟨#[]⟩, .slice none 0 0], .bool true]) (by simp [results, Tryz.results32, go_sem, v0, v1, v2, v3, v4, v5]) rfl ?_
        unfold RlOut
        obtain ⟨hn, _, hs, hsx⟩ := HL.out.2.1
        have hN : n ≤ 9223372036854775807 := by have := HL.out.2.1.2.1; have := HR.out.2.2; omega
        refine ⟨⟨s, xs, noEx⟩, _, k', 0, d', rfl, ⟨A, c, [.int .i64 0, strV [], strV [], .slice none 0 0], by rw [← hn], ⟨hs, by show xs.length ≤ _; omega⟩, ?_, ExAt.of_row (k := 0) (n := []) (o := []) ⟨⟨by decide, by decide⟩, Nat.zero_le _, Nat.zero_le _, Nat.zero_le _⟩ (.inl rfl)⟩, fun _ => rfl, Nat.zero_le _, ?_, (HR0.out.setNew (HR0.out.setNew (HR0.out.setNew (HR0.out.setNew (HR0.out.setNew (HR0.out.setNew HR4.out (Nat.le_refl _) 0 _) (Nat.le_refl _) 1 _) (Nat.le_refl _) 2 _) (Nat.le_refl _) 3 _) (Nat.le_refl _) 4 _) (Nat.le_refl _) 5 _), ((((((HS4.out.setNew (Nat.le_refl _) 0 _).setNew (Nat.le_refl _) 1 _).setNew (Nat.le_refl _) 2 _).setNew (Nat.le_refl _) 3 _).setNew (Nat.le_refl _) 4 _).setNew (Nat.le_refl _) 5 _)⟩
        · refine row_of_own rfC (fun _ => rfl) hn (own_spared HO4.out (((((((Spared.refl w4 (fun b => b = W.heap.size)).setCell (g := W.heap.size) rfl 0 _).setCell (g := W.heap.size) rfl 1 _).setCell (g := W.heap.size) rfl 2 _).setCell (g := W.heap.size) rfl 3 _).setCell (g := W.heap.size) rfl 4 _).setCell (g := W.heap.size) rfl 5 _) (fun i hi => by omega)) (fun i hi => ?_) (fun x hx => ⟨rfl, hsx x hx⟩)
          have := HR0.out.lt
          rcases hi with hi | hi <;> omega
        · have := HL.out.2.2.2.2 [] k' d' ?_
          · rwa [List.append_nil] at this
          · have hm := HL.out.2.2.2.1
            obtain ⟨q, rfl⟩ : ∃ q, m = q + 1 := ⟨m - 1, by omega⟩
            exact Goes.pass (Q := fun ts => (refP ts).then fun x r => (refsLoop q r).then fun l r => .ok (x :: l) r) hk' HQ.out (Goes.ok [] hk')
end Go.Proofs.YtehabjiacgibpaaGreat
namespace Go.Proofs.YtehabjiacgibpaaGreat
open Go.RowKit
theorem tok_last (l : Txt) (line col : Nat) : ∃ i t, tokL l line col = i ++ [t] ∧ (t.1 = [] ∨ t.1 = [63]) := by
  fun_induction tokL l line col with
  | case1 line col => exact ⟨[], _, rfl, .inl rfl⟩
  | case2 line col r ih => exact ih
  | case3 line col c r h1 h2 ih => exact ih
  | case4 line col c r h1 h2 h3 h4 => exact ⟨[], _, rfl, .inr rfl⟩
  | case5 line col c r h1 h2 h3 h4 ih =>
    obtain ⟨i, t, e, h⟩ := ih
    exact ⟨_ :: i, t, by rw [e]; rfl, h⟩
  | case6 line col c r h1 h2 h3 ih =>
    obtain ⟨i, t, e, h⟩ := ih
    exact ⟨_ :: i, t, by rw [e]; rfl, h⟩
theorem ends_tok (l : Txt) (line col : Nat) : Ends (tokL l line col) ∧ tokL l line col ≠ [] := by
  obtain ⟨i, t, e, h⟩ := tok_last l line col
  refine ⟨fun k hk h1 => ?_, by rw [e]; simp⟩
  have : (tokL l line col)[k] = t := by
    have h2 : k = i.length := by rw [e] at h1; simp at h1; omega
    subst h2
    simp [e]
  rw [this]
  exact h
end Go.Proofs.YtehabjiacgibpaaGreat
