/-
  The document's rel, in the reader: no relation; a relation that begins with 'define'.
  Rows of refs: the cells of one. No program is named.
-/
import Derived.Test.YtdnhbledndgbcaaGreatCLpRf
import Derived.Test.YtdnhbledndgbcaaGreatCNmRefN
import Derived.Test.YtdnhbledndgbcaaGreatCRowT
namespace Go.Proofs.YtdnhbledndgbcaaGreat
open Go.RowKit
set_option maxHeartbeats 1000000 in
theorem rel_none {W : World} {g : Nat} {Q : Option Addr × Nat} {L : List Tk} {k op : Nat} {d : Dg} (h : Rd W g Q L k op d) (hk : k < L.length) (h1 : ¬ (d.2.2 = 0 ∧ L[k].1 = relW2)) (h2 : ¬ (d.2.2 = 0 ∧ L[k].1 = defW2)) :
    Calls Tryz.prog 43 #[.pointer (some ⟨g, 0, none⟩)] W fun r w' => r = .returned (.tuple #[.agg #[.string ⟨#[]⟩, .slice none 0 0, .int .i64 0, .string ⟨#[]⟩, .string ⟨#[]⟩, .slice none 0 0], .bool false]) ∧ Rd w' g Q L k op d ∧ Spared W w' (onG g) := by
  have hb2 := ((Below.refl W.heap.size W).alloc (Nat.le_refl _) (.cells #[.string ⟨#[]⟩, .slice none 0 0, .int .i64 0, .string ⟨#[]⟩, .string ⟨#[]⟩, .slice none 0 0] 46)).alloc (by simp) (.cells #[.string ⟨#[]⟩, .slice none 0 0, .int .i64 0, .string ⟨#[]⟩, .string ⟨#[]⟩, .slice none 0 0] 46)
  have HR2 := Lib.hid (h.below hb2)
  have HS2 := Lib.hid (Spared.of_below hb2 (onG g))
  have HZ2 := Lib.hid ((Blk.new W [.string ⟨#[]⟩, .slice none 0 0, .int .i64 0, .string ⟨#[]⟩, .string ⟨#[]⟩, .slice none 0 0] 46).alloc (.cells #[.string ⟨#[]⟩, .slice none 0 0, .int .i64 0, .string ⟨#[]⟩, .string ⟨#[]⟩, .slice none 0 0] 46))
  have hX := Blk.new (W.alloc (.cells #[.string ⟨#[]⟩, .slice none 0 0, .int .i64 0, .string ⟨#[]⟩, .string ⟨#[]⟩, .slice none 0 0] 46)) [.string ⟨#[]⟩, .slice none 0 0, .int .i64 0, .string ⟨#[]⟩, .string ⟨#[]⟩, .slice none 0 0] 46
  rw [World.size_alloc] at hX
  have HX2 := Lib.hid hX
  have hgn : g ≠ W.heap.size := Nat.ne_of_lt h.lt
  have hgx : g ≠ W.heap.size + 1 := by have := h.lt; omega
  have HR0 := Lib.hid h
  have HI1 := Lib.hid (is_any HR2.out hk relW2)
  rw [if_neg h1, decide_eq_false h1] at HI1
  have HI2 : Hid (∀ w, Rd w g Q L k op d → Calls Tryz.prog 41 #[.pointer (some ⟨g, 0, none⟩), strV defW2] w fun e w' => e = .returned (.bool false) ∧ Rd w' g Q L k op d ∧ Spared w w' (onG g)) := Lib.hid (fun w h => by
    have := is_any h hk defW2
    rwa [if_neg h2, decide_eq_false h2] at this)
  clear hb2 h h1 h2 hX
  go_enter Tryz.func43, Tryz.ntmps43
  go_wp2_with fail
  go_at_call 41
  refine HI1.out.mono ?_
  rintro r w3 ⟨rfl, hr3, hs3⟩
  have HR3 := Lib.hid hr3
  have HS3 := Lib.hid (sp_trans HS2.out hs3)
  have HZ3 := Lib.hid (hs3.blk HZ2.out (fun e => hgn e.symm))
  have HX3 := Lib.hid (hs3.blk HX2.out (fun e => hgx e.symm))
  clear hr3 hs3 HR2 HS2 HZ2 HX2 HI1
  go_wp2_with fail
  go_at_call 41
  refine (HI2.out _ HR3.out).mono ?_
  rintro r w4 ⟨rfl, hr4, hs4⟩
  have HR4 := Lib.hid hr4
  have HS4 := Lib.hid (sp_trans HS3.out hs4)
  have hZ4 := hs4.blk HZ3.out (fun e => hgn e.symm)
  have hX4 := hs4.blk HX3.out (fun e => hgx e.symm)
  have v0 := hZ4.cell (i := 0) (by simp)
  have v1 := hZ4.cell (i := 1) (by simp)
  have v2 := hZ4.cell (i := 2) (by simp)
  have v3 := hZ4.cell (i := 3) (by simp)
  have v4 := hZ4.cell (i := 4) (by simp)
  have v5 := hZ4.cell (i := 5) (by simp)
  simp only [List.getElem_cons_succ, List.getElem_cons_zero] at v0 v1 v2 v3 v4 v5
  have f0 := hZ4.free 0
  have f1 := hZ4.free 1
  have f2 := hZ4.free 2
  have f3 := hZ4.free 3
  have f4 := hZ4.free 4
  have f5 := hZ4.free 5
  have z0 := hX4.cell (i := 0) (by simp)
  have z1 := hX4.cell (i := 1) (by simp)
  have z2 := hX4.cell (i := 2) (by simp)
  have z3 := hX4.cell (i := 3) (by simp)
  have z4 := hX4.cell (i := 4) (by simp)
  have z5 := hX4.cell (i := 5) (by simp)
  simp only [List.getElem_cons_succ, List.getElem_cons_zero] at z0 z1 z2 z3 z4 z5
  clear hr4 hs4 hZ4 hX4 HZ3 HX3 HR3 HS3
  go_wp2_with fail
  refine bodyPost_ret (v := .tuple #[.agg #[.string ⟨#[]⟩, .slice none 0 0, .int .i64 0, .string ⟨#[]⟩, .string ⟨#[]⟩, .slice none 0 0], .bool false]) (by simp [results, Tryz.results43, go_sem, v0, v1, v2, v3, v4, v5]) rfl ?_
  exact ⟨rfl, (HR0.out.setNew (HR0.out.setNew (HR0.out.setNew (HR0.out.setNew (HR0.out.setNew (HR0.out.setNew HR4.out (Nat.le_refl _) 0 _) (Nat.le_refl _) 1 _) (Nat.le_refl _) 2 _) (Nat.le_refl _) 3 _) (Nat.le_refl _) 4 _) (Nat.le_refl _) 5 _), ((((((HS4.out.setNew (Nat.le_refl _) 0 _).setNew (Nat.le_refl _) 1 _).setNew (Nat.le_refl _) 2 _).setNew (Nat.le_refl _) 3 _).setNew (Nat.le_refl _) 4 _).setNew (Nat.le_refl _) 5 _)⟩
def RlOut (P : List Tk → Rs Rl) (W : World) (g : Nat) (Q : Option Addr × Nat) (L : List Tk) (k : Nat) (d : Dg) (r : Ending) (w' : World) : Prop :=
  ∃ x cs k' op' d', r = .returned (.tuple #[.agg cs.toArray, .bool true]) ∧ RlAt w' (Old g W) x cs ∧ (d'.2.2 = 0 → op' = 0) ∧ op' ≤ 1 ∧ Goes P L k d x k' d' ∧ Rd w' g Q L k' op' d' ∧ Spared W w' (onG g)
set_option maxHeartbeats 1000000 in
theorem rel_define {W : World} {g : Nat} {Q : Option Addr × Nat} {L : List Tk} {k : Nat} {d : Dg} (he : Ends L) (h : Rd W g Q L k 0 d) (hk : k < L.length) (hd : d.2.2 = 0) (ht : L[k].1 = defW2) :
    Calls Tryz.prog 43 #[.pointer (some ⟨g, 0, none⟩)] W (RlOut (fun ts => defP ts.tail) W g Q L k d) := by
  have hb2 := ((Below.refl W.heap.size W).alloc (Nat.le_refl _) (.cells #[.string ⟨#[]⟩, .slice none 0 0, .int .i64 0, .string ⟨#[]⟩, .string ⟨#[]⟩, .slice none 0 0] 46)).alloc (by simp) (.cells #[.string ⟨#[]⟩, .slice none 0 0, .int .i64 0, .string ⟨#[]⟩, .string ⟨#[]⟩, .slice none 0 0] 46)
  have HR2 := Lib.hid (h.below hb2)
  have HS2 := Lib.hid (Spared.of_below hb2 (onG g))
  have HZ2 := Lib.hid ((Blk.new W [.string ⟨#[]⟩, .slice none 0 0, .int .i64 0, .string ⟨#[]⟩, .string ⟨#[]⟩, .slice none 0 0] 46).alloc (.cells #[.string ⟨#[]⟩, .slice none 0 0, .int .i64 0, .string ⟨#[]⟩, .string ⟨#[]⟩, .slice none 0 0] 46))
  have hX := Blk.new (W.alloc (.cells #[.string ⟨#[]⟩, .slice none 0 0, .int .i64 0, .string ⟨#[]⟩, .string ⟨#[]⟩, .slice none 0 0] 46)) [.string ⟨#[]⟩, .slice none 0 0, .int .i64 0, .string ⟨#[]⟩, .string ⟨#[]⟩, .slice none 0 0] 46
  rw [World.size_alloc] at hX
  have HX2 := Lib.hid hX
  have hgn : g ≠ W.heap.size := Nat.ne_of_lt h.lt
  have hgx : g ≠ W.heap.size + 1 := by have := h.lt; omega
  have HR0 := Lib.hid h
  have HI1 := Lib.hid (is_any HR2.out hk relW2)
  have h1 : ¬ (d.2.2 = 0 ∧ L[k].1 = relW2) := fun h => absurd (ht.symm.trans h.2) (by decide)
  rw [if_neg h1, decide_eq_false h1] at HI1
  have HI2 : Hid (∀ w, Rd w g Q L k 0 d → Calls Tryz.prog 41 #[.pointer (some ⟨g, 0, none⟩), strV defW2] w fun e w' => e = .returned (.bool true) ∧ Rd w' g Q L (k + 1) 0 d ∧ Spared w w' (onG g)) := Lib.hid (fun w h => by
    have := is_any h hk defW2
    rwa [if_pos ⟨hd, ht⟩, decide_eq_true ⟨hd, ht⟩] at this)
  have hk1 : k + 1 < L.length := he.more hk (by rw [ht]; decide) (by rw [ht]; decide)
  have HDT := Lib.hid (And.intro hd ht)
  clear hb2 h h1 hX hd ht
  go_enter Tryz.func43, Tryz.ntmps43
  go_wp2_with fail
  go_at_call 41
  refine HI1.out.mono ?_
  rintro r w3 ⟨rfl, hr3, hs3⟩
  have HR3 := Lib.hid hr3
  have HS3 := Lib.hid (sp_trans HS2.out hs3)
  have HZ3 := Lib.hid (hs3.blk HZ2.out (fun e => hgn e.symm))
  have HX3 := Lib.hid (hs3.blk HX2.out (fun e => hgx e.symm))
  clear hr3 hs3 HR2 HS2 HZ2 HX2 HI1
  go_wp2_with fail
  go_at_call 41
  refine (HI2.out _ HR3.out).mono ?_
  rintro r w4 ⟨rfl, hr4, hs4⟩
  have HS4 := Lib.hid (sp_trans HS3.out hs4)
  have HZ4 := Lib.hid (hs4.blk HZ3.out (fun e => hgn e.symm))
  have HX4 := Lib.hid (hs4.blk HX3.out (fun e => hgx e.symm))
  have HNM := Lib.hid (rname_goes he hr4 hk1)
  clear hr4 hs4 HZ3 HX3 HR3 HS3 HI2
  go_wp2_with fail
  go_at_call 42
  with_reducible refine HNM.out.mono ?_
  rintro r w5 ⟨s, k5, d5, rfl, hsm, hg5, hr5, hs5⟩
  have HG5 := Lib.hid hg5
  have hk5 : k5 < L.length := hg5.2.2.2
  have HS5 := Lib.hid (sp_trans HS4.out hs5)
  have HZ5 := Lib.hid (hs5.blk HZ4.out (fun e => hgn e.symm))
  have HX5 := Lib.hid (hs5.blk HX4.out (fun e => hgx e.symm))
  have hX5 := HX5.out
  have g0 := hX5.cell (i := 0) (by simp)
  simp only [List.getElem_cons_zero] at g0
  have gf := hX5.free 0
  have HR6 := Lib.hid (HR0.out.setNew hr5 (Nat.le_succ W.heap.size) 0 (strV s))
  have HS6 := Lib.hid (HS5.out.setNew (Nat.le_succ W.heap.size) 0 (strV s))
  have HZ6 := Lib.hid (HZ5.out.other ⟨W.heap.size + 1, 0, none⟩ (strV s) (Nat.ne_of_lt (Nat.lt_succ_self _)))
  have HX6 := Lib.hid (hX5.set 0 (strV s))
  simp only [List.set_cons_zero] at HX6
  have HMU := Lib.hid (must_any' he HR6.out hk5 [58] ⟨by decide, by decide⟩)
  clear hg5 hr5 hs5 HS4 HZ4 HX4 HNM hX5 HS5 HZ5 HX5
  go_wp2_with fail
  go_at_call 67
  with_reducible refine HMU.out.mono ?_
  rintro r w7 ⟨k7, d7, rfl, hg7, hr7, hs7⟩
  have HG7 := Lib.hid hg7
  have hk7 : k7 < L.length := hg7.2.2.2
  have HS7 := Lib.hid (sp_trans HS6.out hs7)
  have HZ7 := Lib.hid (hs7.blk HZ6.out (fun e => hgn e.symm))
  have HX7 := Lib.hid (hs7.blk HX6.out (fun e => hgx e.symm))
  have HEX := Lib.hid (expr_goes he 12 0 rfl w7 k7 d7 hr7 hk7)
  clear hg7 hr7 hs7 HS6 HZ6 HX6 HMU HR6
  go_wp2_with fail
  go_at_call 69
  with_reducible refine HEX.out.mono ?_
  rintro r w8 ⟨e, cs, k8, op8, d8, rfl, hE8, hh8, hg8, hr8, hs8⟩
  obtain ⟨p1, p2, p3, pA, pm, pc, rfl⟩ := hE8.shape
  have HG8 := Lib.hid hg8
  have HH8 := Lib.hid hh8
  have HS8 := Lib.hid (sp_trans HS7.out hs8)
  have HZ8 := Lib.hid (hs8.blk HZ7.out (fun e => hgn e.symm))
  have HX8 := Lib.hid (hs8.blk HX7.out (fun e => hgx e.symm))
  have HR8 := Lib.hid hr8
  have hz7 := HX7.out.lt
  have HE8 : Hid (ExAt w8 (fun b => b = g ∨ b ≤ W.heap.size + 1) e _) := Lib.hid (ExAt.moved (Spared.refl w8 _) (fun i hi => .inl (hi.elim .inl (fun h => .inr (by omega)))) _ _ hE8)
  have hX8 := HX8.out
  have hZ8 := HZ8.out
  have v0 := hZ8.cell (i := 0) (by simp)
  have v1 := hZ8.cell (i := 1) (by simp)
  have v2 := hZ8.cell (i := 2) (by simp)
  have v3 := hZ8.cell (i := 3) (by simp)
  have v4 := hZ8.cell (i := 4) (by simp)
  have v5 := hZ8.cell (i := 5) (by simp)
  simp only [List.getElem_cons_succ, List.getElem_cons_zero] at v0 v1 v2 v3 v4 v5
  have f0 := hZ8.free 0
  have f1 := hZ8.free 1
  have f2 := hZ8.free 2
  have f3 := hZ8.free 3
  have f4 := hZ8.free 4
  have f5 := hZ8.free 5
  have z0 := hX8.cell (i := 0) (by simp)
  have z1 := hX8.cell (i := 1) (by simp)
  have z2 := hX8.cell (i := 2) (by simp)
  have z3 := hX8.cell (i := 3) (by simp)
  have z4 := hX8.cell (i := 4) (by simp)
  have z5 := hX8.cell (i := 5) (by simp)
  simp only [List.getElem_cons_succ, List.getElem_cons_zero] at z0 z1 z2 z3 z4 z5
  have zf2 := hX8.free 2
  have zf3 := hX8.free 3
  have zf4 := hX8.free 4
  have zf5 := hX8.free 5
  clear hE8 hh8 hg8 hr8 hs8 hX8 hZ8 HZ7 HX7 HS7 HEX hz7 g0 gf
  go_wp2_with fail
  refine bodyPost_ret (v := .tuple #[.agg #[strV s, .slice none 0 0, .int .i64 p1, strV p2, strV p3, .slice pA pm pc], .bool true]) (by simp [results, Tryz.results43, go_sem, v0, v1, v2, v3, v4, v5]) rfl ?_
  unfold RlOut
  have HW : W.heap.size ≤ W.heap.size + 1 := Nat.le_succ _
  refine ⟨⟨s, [], e⟩, _, k8, op8, d8, rfl, ⟨none, 0, _, rfl, ⟨hsm, Nat.zero_le _⟩, .inl rfl, ?_⟩, fun h => (HH8.out.1 h).2, HH8.out.2.2, ?_, (HR0.out.setNew (HR0.out.setNew (HR0.out.setNew (HR0.out.setNew (HR0.out.setNew (HR0.out.setNew (HR0.out.setNew (HR0.out.setNew (HR0.out.setNew (HR0.out.setNew HR8.out HW 2 _) HW 3 _) HW 4 _) HW 5 _) (Nat.le_refl _) 0 _) (Nat.le_refl _) 1 _) (Nat.le_refl _) 2 _) (Nat.le_refl _) 3 _) (Nat.le_refl _) 4 _) (Nat.le_refl _) 5 _), ((((((((((HS8.out.setNew HW 2 _).setNew HW 3 _).setNew HW 4 _).setNew HW 5 _).setNew (Nat.le_refl _) 0 _).setNew (Nat.le_refl _) 1 _).setNew (Nat.le_refl _) 2 _).setNew (Nat.le_refl _) 3 _).setNew (Nat.le_refl _) 4 _).setNew (Nat.le_refl _) 5 _)⟩
  · exact ExAt.moved (((((((((((Spared.refl _ (fun b => b = g ∨ b ≤ W.heap.size + 1)).setCell (g := W.heap.size + 1) (.inr (Nat.le_refl _)) 2 _).setCell (g := W.heap.size + 1) (.inr (Nat.le_refl _)) 3 _).setCell (g := W.heap.size + 1) (.inr (Nat.le_refl _)) 4 _).setCell (g := W.heap.size + 1) (.inr (Nat.le_refl _)) 5 _).setCell (g := W.heap.size) (.inr (Nat.le_succ _)) 0 _).setCell (g := W.heap.size) (.inr (Nat.le_succ _)) 1 _).setCell (g := W.heap.size) (.inr (Nat.le_succ _)) 2 _).setCell (g := W.heap.size) (.inr (Nat.le_succ _)) 3 _).setCell (g := W.heap.size) (.inr (Nat.le_succ _)) 4 _).setCell (g := W.heap.size) (.inr (Nat.le_succ _)) 5 _) (fun i hi => .inl (hi.elim .inl (fun h => .inr (by omega)))) _ _ HE8.out
  · have hgo := Goes.then (f := fun s ts => (mustP [58] ts).then fun _ r => (exprD 12 r).then fun e r => .ok (⟨s, [], e⟩ : Rl) r) HG5.out (Goes.then (f := fun _ r => (exprD 12 r).then fun e r => .ok (⟨s, [], e⟩ : Rl) r) HG7.out (Goes.then HG8.out (Goes.ok (⟨s, [], e⟩ : Rl) HG8.out.2.2.2)))
    refine ⟨fun hd => ?_, hgo.2.1, Nat.le_of_succ_le hgo.2.2.1, hgo.2.2.2⟩
    have := hgo.1 hd
    rwa [← drop_tail] at this
end Go.Proofs.YtdnhbledndgbcaaGreat
namespace Go.Proofs.YtdnhbledndgbcaaGreat
open Go.RowKit
def rfC (x : Rf) : List Value := [strV x.1, strV x.2]
theorem rowRef : ∃ i z, RowT Tryz.prog 41 40 2 32 i z := by
  have hf : (Tryz.prog.info? 40).map (fun i => (i.zero, i.size, i.bytes)) = some (some (.agg #[.string ⟨#[]⟩, .string ⟨#[]⟩]), 2, 32) := by kernel_rfl
  obtain ⟨i, hi, hz, hs, hb⟩ := info_parts hf
  exact ⟨i, _, Tryz.underlying41, hi, hz, hs, hb, rfl⟩
theorem rf_one (x : Rf) : ∀ u ∈ rfC x, u.oneCell' = true := by
  intro u hu
  simp only [rfC, List.mem_cons, List.not_mem_nil, or_false] at hu
  rcases hu with rfl | rfl <;> rfl
end Go.Proofs.YtdnhbledndgbcaaGreat
