/-
  What sort.Slice comes to at a row of tuples, by the closure of Insert that compares two of its places. Conditions: the row is there and is changed by nothing else; its box is another block.
-/
import Derived.Test.YtehabjiacgibpaaGreatCSoPdq
import Derived.Test.YtehabjiacgibpaaGreatCNmLessP
import Derived.Test.YtehabjiacgibpaaGreatCTuE
import Derived.Test.YtehabjiacgibpaaGreatShelf
import Derived.Shelf.GgSortFunc.Tiny
import Derived.Shelf.GgSortFunc.SmallK
import Derived.Deep.RegionHeldLaw
namespace Go.Proofs.YtehabjiacgibpaaGreat
open Go.Shelf Go.RowKit Go.Lib
theorem holds_six {w : World} {blk off : Nat} {d : Array Tup} (h : Sort.HoldsK encT 6 w blk off d) {i : Nat} (hi : i < d.size) {q0 q1 q2 q3 q4 q5 : Txt} (hq : d[i]! = (q0, q1, q2, q3, q4, q5)) :
    w.cell? ⟨blk, off + i * 6, none⟩ = some (strV q0) ∧ w.cell? ⟨blk, off + i * 6 + 1, none⟩ = some (strV q1) ∧ w.cell? ⟨blk, off + i * 6 + 2, none⟩ = some (strV q2) ∧ w.cell? ⟨blk, off + i * 6 + 3, none⟩ = some (strV q3) ∧ w.cell? ⟨blk, off + i * 6 + 4, none⟩ = some (strV q4) ∧ w.cell? ⟨blk, off + i * 6 + 5, none⟩ = some (strV q5) := by
  have hc : ∀ c, c < 6 → w.cell? ⟨blk, off + i * 6 + c, none⟩ = some (encT (q0, q1, q2, q3, q4, q5))[c]! := fun c hc => by rw [← hq]; exact (h.cell hi hc).1
  exact ⟨hc 0 (by decide), hc 1 (by decide), hc 2 (by decide), hc 3 (by decide), hc 4 (by decide), hc 5 (by decide)⟩
theorem swo_lessT : Sort.SWO lessT where
  irrefl := lessT_self
  trans := fun x y z h1 h2 => lessT_trans h1 h2
  ntrans := fun x y z h1 h2 => by
    cases h3 : lessT x z
    · rfl
    · exfalso
      by_cases e1 : lessT y x = true
      · have := lessT_trans e1 h3; rw [h2] at this; cases this
      · have e := lessT_eq h1 (eq_false_of_ne_true e1)
        subst e
        rw [h2] at h3; cases h3
set_option maxRecDepth 100000 in
set_option maxHeartbeats 4000000 in
theorem tless_any (blk off c Bs n : Nat) (d : Array Tup) (W : World) (hd : d.size = n) (_ : n < 4611686018427387904) (hH : Sort.HoldsK encT 6 W blk off d) (hblk : blk < W.heap.size) (hB : Bs < W.heap.size) (hBs : W.cell? ⟨Bs, 0, none⟩ = some (.slice (some ⟨blk, off, none⟩) n c)) (i j : Nat) (hi : i < n) (hj : j < n) :
    Calls Tryz.prog 23 #[.int .i64 i, .int .i64 j, .pointer (some ⟨Bs, 0, none⟩)] W fun e w' => e = .returned (.bool (lessT d[i]! d[j]!)) ∧ Below W.heap.size W w' := by
  obtain ⟨q0, q1, q2, q3, q4, q5, hq⟩ := tup_six d[i]!
  obtain ⟨p0, p1, p2, p3, p4, p5, hp⟩ := tup_six d[j]!
  obtain ⟨z0, z1, z2, z3, z4, z5⟩ := holds_six hH (by rw [hd]; exact hi) hq
  obtain ⟨x0, x1, x2, x3, x4, x5⟩ := holds_six hH (by rw [hd]; exact hj) hp
  have hL := fun w => lessP_any q0 q1 q2 q3 q4 q5 p0 p1 p2 p3 p4 p5 w
  obtain ⟨v, hv⟩ : ∃ v, v = lessT d[i]! d[j]! := ⟨_, rfl⟩
  rw [← hv]
  have HL : Hid (∀ w, Calls Tryz.prog 24 #[.agg #[strV q0, strV q1, strV q2, strV q3, strV q4, strV q5], .agg #[strV p0, strV p1, strV p2, strV p3, strV p4, strV p5]] w fun e w' => e = .returned (.bool v) ∧ Below w.heap.size w w') := Lib.hid (fun w => by
    have h := hL w
    rw [hv, hq, hp]
    exact h)
  have c0 : ∀ {o v}, W.cell? ⟨blk, o, none⟩ = some v → ∀ w, Below W.heap.size W w → w.cell? ⟨blk, o, none⟩ = some v := fun h w hw => (hw.cell (p := ⟨blk, _, none⟩) hblk).trans h
  have b0 : ∀ w, Below W.heap.size W w → w.cell? ⟨Bs, 0, none⟩ = some (.slice (some ⟨blk, off, none⟩) n c) := fun w hw => (hw.cell (p := ⟨Bs, 0, none⟩) hB).trans hBs
  have y0 := c0 z0; have y1 := c0 z1; have y2 := c0 z2; have y3 := c0 z3; have y4 := c0 z4; have y5 := c0 z5
  have u0 := c0 x0; have u1 := c0 x1; have u2 := c0 x2; have u3 := c0 x3; have u4 := c0 x4; have u5 := c0 x5
  have hin : (i : Int) < (n : Int) := by omega
  have hjn : (j : Int) < (n : Int) := by omega
  have bd := Below.refl W.heap.size W
  clear hH hq hp hL hv c0 hd hBs z0 z1 z2 z3 z4 z5 x0 x1 x2 x3 x4 x5
  go_enter Tryz.func23, Tryz.ntmps23
  go_wp2_with fail
  go_region_held_law (fun w' => Below W.heap.size W w') (first | exact bd.drew | exact bd | assumption)
    (first
      | (go_at_call 24; refine (HL.out _).mono ?_; rintro e w3 ⟨rfl, hb3⟩; have B3 : Below W.heap.size W w3 := hop bd.drew hb3))
  go_wp2_with fail
  go_ret
  exact ⟨rfl, B3⟩
noncomputable def tupsI : TypeInfo := (Tryz.prog.info? 22).get (by kernel_rfl)
noncomputable def tupI : TypeInfo := (Tryz.prog.info? 34).get (by kernel_rfl)
theorem tup_swapper (n : Nat) (h2 : 2 ≤ n) : swapperK n tupI 25 = 9 := by
  have a : tupI.hasPointers = true := by kernel_rfl
  have b : tupI.bytes = 96 := by kernel_rfl
  have c : (n == 0) = false := by simp; omega
  have d : (n == 1) = false := by simp; omega
  simp [swapperK, a, b, c, d]
set_option maxRecDepth 100000 in
set_option maxHeartbeats 2000000 in
theorem tsort_many (blk off c Bs : Nat) (d : Array Tup) (W : World) (h2 : 2 ≤ d.size) (hn : d.size < 4611686018427387904) (hH : Sort.HoldsK encT 6 W blk off d) (hblk : blk < W.heap.size) (hB : Bs < W.heap.size) (hne : Bs ≠ blk) (hBs : W.cell? ⟨Bs, 0, none⟩ = some (.slice (some ⟨blk, off, none⟩) d.size c)) :
    Calls Tryz.prog 22 #[.iface 22 (.slice (some ⟨blk, off, none⟩) d.size c), .func (.func 23) #[] #[.pointer (some ⟨Bs, 0, none⟩)]] W fun e w' =>
      e = .returned (.tuple #[]) ∧ ∃ d', Sort.PermIn 0 d.size d d' ∧ Sort.SortedIn lessT 0 d.size d' ∧ SoAt encT 6 W blk off d' w' := by
  have H : SoHyp Tryz.prog encT 6 lessT 23 #[.pointer (some ⟨Bs, 0, none⟩)] 73 #[.slice (some ⟨blk, off, none⟩) d.size c, typeHandle Tryz.prog 34] blk off d.size W := {
    hk := fun _ => rfl
    eg := enters_of Tryz.func23 (by kernel_rfl) rfl
    less := fun w dk hS hsz i j hi hj => tless_any blk off c Bs d.size dk w hsz hn hS.holds hS.there (Nat.lt_of_lt_of_le hB hS.grown.size) (hS.grown.cell hBs (fun e => hne (by injection e))) i j hi hj
    swap := swapSwapsK_of_literal false _ (fun args W => run_callFunc_extern Tryz.func73 (by kernel_rfl) (by kernel_rfl) (by kernel_rfl) (e := Extern.ReflectliteSwapper.swap false) (by kernel_rfl) args W) 34 tupI (by kernel_rfl) encT 6 (fun _ => rfl) (by kernel_rfl) (fun _ => by kernel_rfl) (fun x v hv => by
      simp only [encT, six, List.map_cons, List.map_nil, List.mem_cons, List.not_mem_nil, or_false] at hv
      rcases hv with rfl | rfl | rfl | rfl | rfl | rfl <;> rfl) blk off d.size c
    sz := hn }
  refine Any.sort_Slice_of_pdq Tryz.laysGg6 22 34 tupsI tupI (by kernel_rfl) (by kernel_rfl) (by kernel_rfl) (by kernel_rfl) 25 (fun _ => by kernel_rfl) _ d.size c hn 73 (by rw [tup_swapper _ h2]; kernel_rfl) (.func 23) #[] _ W _ ?_
  have hB2 : sliceBound Tryz.prog 34 tupI 25 (some ⟨blk, off, none⟩) d.size c = #[.slice (some ⟨blk, off, none⟩) d.size c, typeHandle Tryz.prog 34] := by
    unfold sliceBound; rw [if_neg (swapperK_gt _ _ _ h2)]
  rw [hB2]
  have hlim : Lib.bitLen d.size < 4611686018427387904 := Nat.lt_of_le_of_lt (Lib.bitLen_le d.size 62 (by omega) (by omega)) (by omega)
  have hS : SoAt encT 6 W blk off d (sliceWorld Tryz.prog Tryz.laysGg6_ren 22 (some ⟨blk, off, none⟩) d.size c W) := (SoAt.start hH hblk).below (((Below.refl _ _).alloc (Nat.le_refl _) _).alloc (by simp) _)
  have hp := pdq_at (P := Tryz.prog) (ρ := Tryz.laysGg6_ren) { Tryz.laysGg6 with } H swo_lessT (d.size + 1) 0 d.size (Lib.bitLen d.size) d _ (by omega) hS rfl (Nat.zero_le _) (Nat.le_refl _) hlim (Or.inl rfl)
  refine hp.mono ?_
  rintro e w' ⟨rfl, hs⟩
  have h := Sort.pdq_sorts lessT swo_lessT d 0 d.size (Lib.bitLen d.size) true true (Nat.zero_le _) (Nat.le_refl _) (Or.inl rfl)
  exact ⟨rfl, _, h.1, h.2, hs.at_⟩
end Go.Proofs.YtehabjiacgibpaaGreat
