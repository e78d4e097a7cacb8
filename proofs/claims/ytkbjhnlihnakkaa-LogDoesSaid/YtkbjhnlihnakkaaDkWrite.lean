/-
  Of a disk, Write. Conditions: as each says.
-/
import Derived.Test.YtkbjhnlihnakkaaDkNew
import Derived.Deep.AppendLies
import Derived.Deep.RegionHeld3
import Derived.Great.BuildSlice
import Derived.Deep.DrawnRows
namespace Go.Proofs.Ytkbjhnlihnakkaa
open Go.RowKit

/-- Write answers that it may not be -/
theorem write_arg (w : World) (g : Nat) (F : Nat → Prop) (s : Dsk) (i : Int) (A : Option Addr) (n c : Nat) (h : DiskAt w g F s) (_ : n ≤ 9223372036854775807) (hbad : ¬ ((0 ≤ i ∧ i < s.K.length) ∧ n = 64)) :
    Calls Try.prog 67 #[.pointer (some ⟨g, 0, none⟩), .int .i64 i, .slice A n c] w fun e w' => e = .returned (.int .i64 1) ∧ w' = w := by
  have H := Lib.hid h
  clear h
  by_cases h0 : 0 ≤ i ∧ i < s.K.length
  · have hd : decide (0 ≤ i ∧ i < (s.K.length : Int)) = true := decide_eq_true h0
    have h64 : ¬ (n : Int) = 64 := by omega
    clear h0 hbad
    go_enter Try.func67, Try.ntmps67
    go_wp2_with (go_at_call 73; refine (has_any H.out i).mono ?_; rintro e w' ⟨rfl, hw'⟩; obtain rfl := hw'.symm; rw [hd])
    go_ret
    exact ⟨rfl, rfl⟩
  · have hd : decide (0 ≤ i ∧ i < (s.K.length : Int)) = false := decide_eq_false h0
    clear h0 hbad
    go_enter Try.func67, Try.ntmps67
    go_wp2_with (go_at_call 73; refine (has_any H.out i).mono ?_; rintro e w' ⟨rfl, hw'⟩; obtain rfl := hw'.symm; rw [hd])
    go_ret
    exact ⟨rfl, rfl⟩
theorem write_off (w : World) (g : Nat) (F : Nat → Prop) (s : Dsk) (i : Int) (A : Option Addr) (c : Nat) (h : DiskAt w g F s) (h0 : 0 ≤ i ∧ i < s.K.length) (hoff : s.off = true) :
    Calls Try.prog 67 #[.pointer (some ⟨g, 0, none⟩), .int .i64 i, .slice A 64 c] w fun e w' => e = .returned (.int .i64 5) ∧ w' = w := by
  have H := Lib.hid h
  have hd : decide (0 ≤ i ∧ i < (s.K.length : Int)) = true := decide_eq_true h0
  have ho : (!s.off) = false := by rw [hoff]; rfl
  clear h h0 hoff
  go_enter Try.func67, Try.ntmps67
  go_wp2_with (first
    | (go_at_call 73; refine (has_any H.out i).mono ?_; rintro e w' ⟨rfl, hw'⟩; obtain rfl := hw'.symm; rw [hd])
    | (go_at_call 43; refine (on_any H.out).mono ?_; rintro e w' ⟨rfl, hw'⟩; obtain rfl := hw'.symm; rw [ho]))
  go_ret
  exact ⟨rfl, rfl⟩

theorem info62z : (Try.prog.info? 88).map (fun i => (i.zero, i.size, i.bytes)) = some (some (.agg (dcell (0, List.replicate 64 0)).toArray), 65, 72) := by kernel_rfl
theorem build_one {o : Oper} {a : Act} {w : World} {K : Act → World → Prop} {Q : Exit → Act → World → Prop} (x : Operand) (ho : o.op = .buildSlice 66 1 #[(0, x)])
    (C : List Value) (hC : C.length = 65) (hx : a.eval x = .agg C.toArray)
    (h : K (a.put o.dst (.slice (some ⟨w.heap.size, 0, none⟩) 1 1)) (w.alloc (.cells C.toArray 88))) : o.wp Try.prog a w K Q := by
  obtain ⟨ie, hi, hz0, hz1, hz2⟩ := info_parts info62z
  refine wp_buildSlice 66 88 1 #[(0, x)] ho C.toArray ie _ Try.underlying66 hi hz0 (by rw [hz1]; decide) (by rw [hz1]; decide) ?_ h
  rw [hz1]
  have := Great.fill_whole (s := 65) (by decide) [Value.agg C.toArray] ((Array.range (1 * 65)).map ((Value.agg (dcell (0, List.replicate 64 0)).toArray).cells[· % (Value.agg (dcell (0, List.replicate 64 0)).toArray).cells.size]!)) (by intro v hv; rw [List.mem_singleton.1 hv]; simpa [Value.cells] using hC) (by simp)
  simp only [List.map_toArray, List.map_cons, List.map_nil, hx]
  simpa [Value.cells] using this
theorem dcell_put (i : Nat) (l x : List UInt8) (hx : x.length = 64) (hl : l.length = 64) : splice (dcell (i, x)) 1 (l.map bv) = dcell (i, l) := by
  unfold splice dcell
  simp [hl, hx]
theorem below_grown1 {W w w' : World} {g : Nat} (h : Below W.heap.size W w) (hg : w.grownBy w' (some g)) (hle : W.heap.size ≤ g) : Below W.heap.size W w' :=
  ⟨hg.os.trans h.os, hg.tape.trans h.tape, hg.output.trans h.output, Nat.le_trans h.size hg.size, fun k hk => (hg.block k (Nat.lt_of_lt_of_le hk h.size) (fun e => by injection e with e; omega)).trans (h.block k hk)⟩

/-- one more of the cache, laid behind it -/
theorem disk_appended {w w1 w5 : World} {g gd gc' cap' : Nat} {v : Value} {F : Nat → Prop} {s : Dsk} (h : DiskIn w g gd v F s) (hb : Below w.heap.size w w1) (hgr : w1.grownBy w5 v.ownBlock) (i : Nat) (l : List UInt8) (hi : i < s.K.length) (hl : l.length = 64)
    (hown : w5.ownsRow 0 88 65 (.slice (some ⟨gc', 0, none⟩) (s.M.length + 1) cap') (s.M.length + 1) ((s.M.map dcell).flatten ++ dcell (i, l))) (hat : v.ownBlock = some gc' ∨ gc' = w1.heap.size) (hlt : gc' < w5.heap.size) :
    DiskIn (w5.setCell ⟨g, 1, none⟩ (.slice (some ⟨gc', 0, none⟩) (s.M.length + 1) cap')) g gd (.slice (some ⟨gc', 0, none⟩) (s.M.length + 1) cap') (fun k => F k ∨ k = gc') { s with M := s.M ++ [(i, l)] } ∧
    Spared w (w5.setCell ⟨g, 1, none⟩ (.slice (some ⟨gc', 0, none⟩) (s.M.length + 1) cap')) F ∧ (∀ k, (F k ∨ k = gc') → F k ∨ w.heap.size ≤ k) ∧
    w5.cell? ⟨g, 1, none⟩ = some v ∧ w5.frozen? ⟨g, 1, none⟩ = false := by
  obtain ⟨h1, h2, h3, h4, h5, h6, h7, h8, h9⟩ := h
  have hg1 : Blk w1 g _ _ := h1.below hb h1.lt
  have hd1 : Blk w1 gd _ _ := h2.below hb h2.lt
  have hg5 : Blk w5 g (dkCells gd s.K.length v s.off s.left s.calls) 68 := (hgr.block g hg1.lt (fun e => (h6 g e.symm).2.1 rfl)).trans hg1
  have hd5 : Blk w5 gd (krows s.K).flatten 70 := (hgr.block gd hd1.lt (fun e => (h6 gd e.symm).2.2 rfl)).trans hd1
  have hne : gc' ≠ g ∧ gc' ≠ gd := by
    rcases hat with h | h
    · exact (h6 gc' h).2
    · have := hg1.lt; have := hd1.lt; omega
  have hs1 : Spared w w5 F := (Spared.of_below hb F).trans (.of_grown hgr (F := F) (fun k e _ => (h6 k e).1)) (fun _ h => .inl h)
  refine ⟨⟨?_, ?_, ?_, .inl h4, .inl h5, ?_, h7, ?_, ?_⟩, hs1.setCell h4 _ _, ?_, hg5.cell (i := 1) (by simp [dkCells]), hg5.free 1⟩
  · exact hg5.set 1 _
  · exact hd5.other _ _ (fun e => h7 e.symm)
  · have e : (s.M ++ [(i, l)]).length = s.M.length + 1 := by simp
    show World.ownsRow _ _ _ _ _ (s.M ++ [(i, l)]).length ((s.M ++ [(i, l)]).map dcell).flatten
    rw [e, List.map_append, List.flatten_append]
    simp only [List.map_cons, List.map_nil, List.flatten_cons, List.flatten_nil, List.append_nil]
    exact own_kept hown (fun k hk _ => heap_setCell_other w5 ⟨g, 1, none⟩ k _ (fun e => by injection hk with hk; rw [← hk] at e; exact hne.1 e))
  · intro k hk
    injection hk with hk
    subst hk
    exact ⟨.inr rfl, hne⟩
  · intro k hk
    show k < (World.setCell _ _ _).heap.size
    have : k < w5.heap.size := by
      rcases hk with hk | rfl
      · exact Nat.lt_of_lt_of_le (h8 k hk) hs1.size
      · exact hlt
    simpa [World.setCell] using this
  · refine ⟨h9.len, fun p hp => ?_, fun p hp => ?_, h9.hi⟩
    · rcases List.mem_append.1 hp with h | h
      · exact h9.num p h
      · rw [List.mem_singleton.1 h]; exact hi
    · rcases List.mem_append.1 hp with h | h
      · exact h9.mem p h
      · rw [List.mem_singleton.1 h]; exact hl
  · rintro k (hk | rfl)
    · exact .inl hk
    · rcases hat with h | h
      · exact .inl (h6 k h).1
      · exact .inr (by rw [h]; exact hb.size)

set_option maxRecDepth 100000 in
set_option maxHeartbeats 400000 in
theorem write_any (w : World) (g : Nat) (F : Nat → Prop) (s : Dsk) (i : Nat) (A : Option Addr) (l : List UInt8) (c : Nat) (h : DiskAt w g F s) (h0 : i < s.K.length) (hon : s.off = false) (hl : l.length = 64) (hs : Seen w A l)
    (hcl : s.calls + 1 < 9223372036854775808) (hlf : s.left < 9223372036854775808) (hm : s.M.length ≤ 1000000) :
    Calls Try.prog 67 #[.pointer (some ⟨g, 0, none⟩), .int .i64 i, .slice A 64 c] w fun e w' => e = .returned (.int .i64 0) ∧ Moved w g F (s.write i l) w' := by
  have H := Lib.hid h
  have hd : decide (0 ≤ (i : Int) ∧ (i : Int) < (s.K.length : Int)) = true := decide_eq_true (by omega)
  have ho : (!s.off) = true := by rw [hon]; rfl
  have z : ∀ w : World, (zeroValue 88).run Try.prog w = .ok (.agg (Value.int .i64 0 :: (List.replicate 64 (0 : UInt8)).map bv).toArray) w := zero62
  have HZ : Hid (((List.replicate 64 (0 : UInt8)).map bv).length = 64) := by show _ = _; simp
  have HX2 : Hid ((Value.int .i64 (i : Int) :: (List.replicate 64 (0 : UInt8)).map bv).toArray.all (·.oneCell') = true) := dcell_one (i, List.replicate 64 (0 : UInt8))
  have HX3 : Hid (splice (Value.int .i64 (i : Int) :: (List.replicate 64 (0 : UInt8)).map bv) 1 ((l.take 64).map bv) = dcell (i, l)) := by
    have e : l.take 64 = l := by rw [← hl, List.take_length]
    show _ = _
    rw [e]
    exact dcell_put i l _ (by simp) hl
  generalize (List.replicate 64 (0 : UInt8)).map bv = T at z HZ HX2 HX3
  have HS := Lib.hid hs
  have HL := Lib.hid hl
  have HW := Lib.hid (setRow_heap (w.alloc (.cells (Value.int .i64 0 :: T).toArray 88)) w.heap.size _ (Value.int .i64 (i : Int) :: T).toArray _ _ (heap_alloc_new w _))
  have HWB := Lib.hid (below_setRow ((Below.refl w.heap.size w).alloc (Nat.le_refl _) (.cells (Value.int .i64 0 :: T).toArray 88)) (Nat.le_refl _) (Value.int .i64 (i : Int) :: T).toArray)
  clear hs hl h hon
  go_enter Try.func67, Try.ntmps67
  go_wp2_with (first
    | (go_at_call 73; refine (has_any H.out i).mono ?_; rintro e w' ⟨rfl, hw'⟩; obtain rfl := hw'.symm; rw [hd])
    | (go_at_call 43; refine (on_any H.out).mono ?_; rintro e w' ⟨rfl, hw'⟩; obtain rfl := hw'.symm; rw [ho])
    | (refine wpList_store_row rfl 88 (.tmp 7) (.tmp 21) rfl w.heap.size (Value.int .i64 (i : Int) :: T).toArray rfl rfl 88 _ (heap_alloc_new w _) (by rw [info62]; simp [HZ.out]) (by simp [HZ.out]) HX2.out ?_)
    | (refine wpList_copy_into rfl (.tmp 23) (.tmp 24) 22 rfl 5 Try.underlying22 size8 w.heap.size 1 64 64 A l 64 c rfl rfl HL.out (Value.int .i64 (i : Int) :: T) 88 HW.out (HS.out.below HWB.out) (by omega) 64 (by omega) (by rw [List.length_cons, HZ.out]; decide) ?_; intro w3 hb3 hg3; have hbb3 := Lib.hid (below_grown1 HWB.out hg3.out (Nat.le_refl _)); rw [HX3.out] at hb3; clear hg3))
  have hin := H.out.still hbb3.out
  obtain ⟨gd, v, hin⟩ := hin
  obtain ⟨_, d1, _⟩ := hin.cells
  have f1 := hin.free 1
  have hgl := hin.1.lt
  have HIN := Lib.hid hin
  have hbl := hb3.out.lt
  have hgb : g ≠ w.heap.size := by have := H.out.lt g (by obtain ⟨_, _, h⟩ := H.out; exact h.2.2.2.1); omega
  have hvb : some w.heap.size ≠ v.ownBlock := fun e => by
    obtain ⟨gd0, v0, h0⟩ := H.out
    have := (hin.2.2.2.2.2.1 _ e.symm).1
    have := H.out.lt _ this
    omega
  have hR : w3.drew.rangeAt w.heap.size 0 (dcell (i, l)) := fun j v hv => by
    obtain ⟨hj, hju⟩ := List.getElem?_eq_some_iff.1 hv
    rw [Nat.zero_add, hb3.out.drew.cell hj, hju]
  have HWL := Lib.hid (dcell_length (p := (i, l)) HL.out)
  have HW1 := Lib.hid (dcell_one (i, l))
  obtain ⟨i62, hi, hz0, hz1, hz2⟩ := info_parts info62z
  generalize hC : dcell (i, l) = C at *
  have HC := Lib.hid hC
  clear hin hC
  have ui := Try.underlying88
  have ii : (Try.prog.info? 88).map (·.size) = some C.length := by rw [info62, HWL.out]
  have hRA := World.rangeAt_alloc hR (.cells C.toArray 88)
  refine wp_region_held_drew (S := fun w' => w'.rangeAt w.heap.size 0 C) (by kernel_rfl) hR (fun _ => ?_)
  refine wpAnyH_take (i := 5) rfl (by kernel_rfl) (by kernel_rfl) (by kernel_rfl) (fun _ _ _ h => h) (yieldsIf_load_mid (by rfl) 88 (.tmp 7) rfl w.heap.size 0 rfl C _ (fun _ h => h) ui rfl ii) hR ?_
  simp only [Act.put]
  refine wpAnyH_take (i := 0) (v := .pointer (some ⟨g, 0, none⟩)) rfl (by kernel_rfl) (by kernel_rfl) (by kernel_rfl) (fun _ _ _ h => h) (Or.inl ⟨by rfl, fun w _ => by go_simp⟩) hR ?_
  simp only [Act.put]
  refine wpAnyH_take (i := 1) (v := .pointer (some ⟨g, 0, none⟩)) rfl (by kernel_rfl) (by kernel_rfl) (by kernel_rfl) (fun _ _ _ h => h) (Or.inl ⟨by rfl, fun w _ => by go_simp⟩) hR ?_
  simp only [Act.put]
  refine wpAnyH_take (i := 2) (v := .pointer (some ⟨g, 0, none⟩)) rfl (by kernel_rfl) (by kernel_rfl) (by kernel_rfl) (fun _ _ _ h => h) (Or.inl ⟨by rfl, fun w _ => by go_simp⟩) hR ?_
  simp only [Act.put]
  refine wpAnyH_take (i := 3) (v := .pointer (some ⟨g, 1, none⟩)) rfl (by kernel_rfl) (by kernel_rfl) (by kernel_rfl) (fun _ _ _ h => h) (Or.inl ⟨by rfl, fun w _ => by go_simp⟩) hR ?_
  simp only [Act.put, List.setIfInBounds_toArray, List.set_cons_zero, List.set_cons_succ]
  clear ui ii
  refine wpAnyH_ready (rs := [4, 6]) (by kernel_rfl) (by simp) (AllReadyH.cons rfl (fun K hK => ?_) (AllReadyH.cons rfl (fun K hK => ?_) AllReadyH.nil))
  · go_simp
    refine hK.out _ _ hR (fun _ => ?_)
    clear hK K
    refine wpAnyH_ready (rs := [6]) (by kernel_rfl) (by simp) (AllReadyH.cons rfl (fun K hK => ?_) AllReadyH.nil)
    rw [if_pos (by rfl)]
    refine build_one (.tmp 31) rfl C HWL.out rfl ?_
    simp only [Act.put, List.setIfInBounds_toArray]
    refine hK.out _ _ hRA (fun _ => ?_)
    clear hK K
    refine wpAnyH_ready (rs := [7]) (by kernel_rfl) (by simp) (AllReadyH.cons rfl (fun K hK => ?_) AllReadyH.nil)
    refine step_append_lies (w3.drew.alloc (.cells C.toArray 88)) rfl (.tmp 30) (.tmp 32) 66 rfl 0 88 i62 _ 65 72 Try.underlying66 hi hz0 hz1 hz2 (by rw [← dcell_length (p := (0, List.replicate 64 0)) (by simp)]; simp [Value.cells]) (by decide) v s.M.length (s.M.map dcell).flatten (by simp [Act.eval]) (HIN.out.2.2.1.drew.alloc _) ⟨w3.heap.size, 0, none⟩ 1 1 C (by simp [Act.eval]) (by rw [HWL.out]) (World.news_of_block (heap_alloc_new _ _)) (fun u hu => (Array.all_eq_true_iff_forall_mem.1 HW1.out) u (by simpa using hu)) (by decide) (by unfold maxLen; omega) (by omega) (Nat.zero_le _) _ rfl ?_
    intro gc' cap' w5 hown5 hgrow5 hat5 hlt5
    have R5 := range_grown hRA hgrow5 hvb
    rw [← HC.out] at hown5
    obtain ⟨D1, D2, D3, c5, f5⟩ := disk_appended HIN.out ((Below.refl _ _).drew.alloc (Nat.le_refl _) _) hgrow5 i l (by have := h0; omega) HL.out hown5 hat5 hlt5
    have HD1 := Lib.hid D1
    have HD2 := Lib.hid D2
    have HD3 := Lib.hid D3
    clear D1 D2 D3 hown5 hgrow5 hat5 hlt5
    simp only [Act.put]
    refine hK.out _ _ R5 (fun _ => ?_)
    clear hK K
    refine wpAnyH_ready (rs := [8]) (by kernel_rfl) (by simp) (AllReadyH.cons rfl (fun K hK => ?_) AllReadyH.nil)
    go_simp
    refine hK.out _ _ R5 (fun _ => ?_)
    clear hK K
    refine wpAnyH_ready (rs := [9]) (by kernel_rfl) (by simp) (AllReadyH.cons rfl (fun K hK => ?_) AllReadyH.nil)
    go_simp
    refine hK.out _ _ R5 (fun _ => ?_)
    clear hK K
    refine wpAnyH_ready (rs := [10]) (by kernel_rfl) (by simp) (AllReadyH.cons rfl (fun K hK => ?_) AllReadyH.nil)
    go_simp
    refine hK.out _ _ (range_setCell R5 hgb) (fun _ => ?_)
    clear hK K
    refine wpAnyH_done (by kernel_rfl) ?_ _
    go_wp2_with (go_at_call 80; refine (performed_any _ g gd _ _ _ HD1.out hcl hlf).mono ?_; rintro e w7 ⟨rfl, hp7, hs7⟩)
    go_ret
    exact ⟨rfl, _, ⟨_, _, hp7⟩, (Spared.of_below hbb3.out F).trans (HD2.out.trans hs7 HD3.out) (fun _ h => .inl h), fun k hk => (HD3.out k hk).elim .inl (fun h => .inr (Nat.le_trans hbb3.out.size h))⟩
  · rw [if_pos (by rfl)]
    refine build_one (.tmp 31) rfl C HWL.out rfl ?_
    simp only [Act.put]
    refine hK.out _ _ hRA (fun _ => ?_)
    clear hK K
    refine wpAnyH_ready (rs := [4]) (by kernel_rfl) (by simp) (AllReadyH.cons rfl (fun K hK => ?_) AllReadyH.nil)
    go_simp
    refine hK.out _ _ hRA (fun _ => ?_)
    clear hK K
    refine wpAnyH_ready (rs := [7]) (by kernel_rfl) (by simp) (AllReadyH.cons rfl (fun K hK => ?_) AllReadyH.nil)
    refine step_append_lies (w3.drew.alloc (.cells C.toArray 88)) rfl (.tmp 30) (.tmp 32) 66 rfl 0 88 i62 _ 65 72 Try.underlying66 hi hz0 hz1 hz2 (by rw [← dcell_length (p := (0, List.replicate 64 0)) (by simp)]; simp [Value.cells]) (by decide) v s.M.length (s.M.map dcell).flatten (by simp [Act.eval]) (HIN.out.2.2.1.drew.alloc _) ⟨w3.heap.size, 0, none⟩ 1 1 C (by simp [Act.eval]) (by rw [HWL.out]) (World.news_of_block (heap_alloc_new _ _)) (fun u hu => (Array.all_eq_true_iff_forall_mem.1 HW1.out) u (by simpa using hu)) (by decide) (by unfold maxLen; omega) (by omega) (Nat.zero_le _) _ rfl ?_
    intro gc' cap' w5 hown5 hgrow5 hat5 hlt5
    have R5 := range_grown hRA hgrow5 hvb
    rw [← HC.out] at hown5
    obtain ⟨D1, D2, D3, c5, f5⟩ := disk_appended HIN.out ((Below.refl _ _).drew.alloc (Nat.le_refl _) _) hgrow5 i l (by have := h0; omega) HL.out hown5 hat5 hlt5
    have HD1 := Lib.hid D1
    have HD2 := Lib.hid D2
    have HD3 := Lib.hid D3
    clear D1 D2 D3 hown5 hgrow5 hat5 hlt5
    simp only [Act.put]
    refine hK.out _ _ R5 (fun _ => ?_)
    clear hK K
    refine wpAnyH_ready (rs := [8]) (by kernel_rfl) (by simp) (AllReadyH.cons rfl (fun K hK => ?_) AllReadyH.nil)
    go_simp
    refine hK.out _ _ R5 (fun _ => ?_)
    clear hK K
    refine wpAnyH_ready (rs := [9]) (by kernel_rfl) (by simp) (AllReadyH.cons rfl (fun K hK => ?_) AllReadyH.nil)
    go_simp
    refine hK.out _ _ R5 (fun _ => ?_)
    clear hK K
    refine wpAnyH_ready (rs := [10]) (by kernel_rfl) (by simp) (AllReadyH.cons rfl (fun K hK => ?_) AllReadyH.nil)
    go_simp
    refine hK.out _ _ (range_setCell R5 hgb) (fun _ => ?_)
    clear hK K
    refine wpAnyH_done (by kernel_rfl) ?_ _
    go_wp2_with (go_at_call 80; refine (performed_any _ g gd _ _ _ HD1.out hcl hlf).mono ?_; rintro e w7 ⟨rfl, hp7, hs7⟩)
    go_ret
    exact ⟨rfl, _, ⟨_, _, hp7⟩, (Spared.of_below hbb3.out F).trans (HD2.out.trans hs7 HD3.out) (fun _ h => .inl h), fun k hk => (HD3.out k hk).elim .inl (fun h => .inr (Nat.le_trans hbb3.out.size h))⟩
end Go.Proofs.Ytkbjhnlihnakkaa
