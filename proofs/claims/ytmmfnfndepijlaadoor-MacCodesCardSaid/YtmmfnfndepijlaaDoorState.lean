/-
  The state of a hash in memory, and what its small functions come to. Conditions: as each says; the program's table of first words as its initialiser lays it.
-/
import Derived.Test.YtmmfnfndepijlaaDoorMix
import Derived.Test.YtmmfnfndepijlaaDoorApp
namespace Go.Proofs.YtmmfnfndepijlaaDoor
open Go.RowKit

def stCells (ws : List Nat) (rs : List UInt8) (n : Nat) : List Value := ws.map wv ++ (rs.map bv ++ [.int .i64 (n : Int)])
/-- Block g is a state whose input is l. -/
def StIs (ws : List Nat) (rs : List UInt8) (l : List UInt8) : Prop :=
  ws.length = 8 ∧ rs.length = 64 ∧ (64 ≤ l.length → ws = hashed l (l.length / 64)) ∧ rs.take (l.length % 64) = l.drop (64 * (l.length / 64))
def StAt (w : World) (g : Nat) (l : List UInt8) : Prop := ∃ ws rs, Blk w g (stCells ws rs l.length) 47 ∧ StIs ws rs l
theorem stCells_length (ws : List Nat) (rs : List UInt8) (n : Nat) : (stCells ws rs n).length = ws.length + rs.length + 1 := by simp [stCells]; omega
theorem stIs_zero : StIs (List.replicate 8 0) (List.replicate 64 0) [] := ⟨rfl, rfl, fun h => by simp at h, rfl⟩

theorem zero46 (w : World) : (zeroValue 47).run Tryd.prog w = .ok (.agg (stCells (List.replicate 8 0) (List.replicate 64 0) 0).toArray) w := by kernel_rfl
theorem new_any (w : World) : Calls Tryd.prog 19 #[] w fun e w' => e = .returned (.pointer (some ⟨w.heap.size, 0, none⟩)) ∧ w' = w.alloc (.cells (stCells (List.replicate 8 0) (List.replicate 64 0) 0).toArray 47) := by
  have z := zero46
  generalize (stCells (List.replicate 8 0) (List.replicate 64 0) 0).toArray = Z at z ⊢
  go_enter Tryd.func19, Tryd.ntmps19
  go_wp2
  go_ret
  exact ⟨rfl, rfl⟩
theorem info46 : (Tryd.prog.info? 47).map (·.size) = some 73 := by kernel_rfl
theorem stCells_one (ws : List Nat) (rs : List UInt8) (n : Nat) : (stCells ws rs n).toArray.all (·.oneCell') = true :=
  all_oneCell_toArray fun v hv => by
    unfold stCells at hv
    rcases List.mem_append.1 hv with h | h
    · obtain ⟨n, _, rfl⟩ := List.mem_map.1 h; rfl
    · rcases List.mem_append.1 h with h | h
      · obtain ⟨n, _, rfl⟩ := List.mem_map.1 h; rfl
      · rw [List.mem_singleton.1 h]; rfl
set_option maxRecDepth 100000 in
set_option maxHeartbeats 400000 in
theorem copy_any (w : World) (g : Nat) (l : List UInt8) (h : StAt w g l) : Calls Tryd.prog 27 #[.pointer (some ⟨g, 0, none⟩)] w fun e w' => e = .returned (.pointer (some ⟨w.heap.size, 0, none⟩)) ∧ StAt w' w.heap.size l ∧ Below w.heap.size w w' := by
  obtain ⟨ws, rs, hb, h1, h2, h3⟩ := h
  have z := zero46
  have HLZ : Hid ((stCells (List.replicate 8 0) (List.replicate 64 0) 0).length = 73) := rfl
  generalize stCells (List.replicate 8 0) (List.replicate 64 0) 0 = Z at z HLZ
  have HL : Hid ((stCells ws rs l.length).length = 73) := by show _ = _; rw [stCells_length]; omega
  have HO : Hid ((stCells ws rs l.length).toArray.all (·.oneCell') = true) := stCells_one _ _ _
  have HE : Hid (StIs ws rs l) := ⟨h1, h2, h3⟩
  clear h1 h2 h3
  have HB := Lib.hid hb
  clear hb
  go_enter Tryd.func27, Tryd.ntmps27
  generalize hX : stCells ws rs l.length = X at *
  have HX := Lib.hid hX
  clear hX
  go_wp2_with (first
    | (refine wpList_load_row rfl 47 (.tmp 8) rfl g rfl 47 X.toArray (0, 0) _ HB.out Tryd.underlying47 rfl (by rw [info46]; simp [HL.out]) ?_)
    | (refine wpList_store_row rfl 47 (.tmp 3) (.tmp 9) rfl w.heap.size X.toArray rfl rfl 47 _ (heap_alloc_new w _) (by rw [info46]; simp [HL.out]) (by simp [HL.out, HLZ.out]) HO.out ?_))
  go_ret
  exact ⟨rfl, ⟨ws, rs, by rw [HX.out]; exact setRow_heap _ _ _ _ _ _ (heap_alloc_new w _), HE.out⟩, below_setRow ((Below.refl _ _).alloc (Nat.le_refl _) _) (Nat.le_refl _) _⟩
theorem zero41 (w : World) : (zeroValue 45).run Tryd.prog w = .ok (.agg ((padw 8 []).map wv).toArray) w := by kernel_rfl

theorem st_words {w : World} {g : Nat} {ws : List Nat} {rs : List UInt8} {n : Nat} {t : TypeId} (h : Blk w g (stCells ws rs n) t) : w.rangeAt g 0 (ws.map wv) := fun j v hv => by
  obtain ⟨hj, hju⟩ := List.getElem?_eq_some_iff.1 hv
  have hl : j < (stCells ws rs n).length := by rw [stCells_length]; simp at hj; omega
  rw [Nat.zero_add, h.cell hl, ← hju]
  simp only [stCells]
  rw [List.getElem_append_left hj]
theorem st_rest {w : World} {g : Nat} {ws : List Nat} {rs : List UInt8} {n : Nat} {t : TypeId} (h : Blk w g (stCells ws rs n) t) (h8 : ws.length = 8) : w.rangeAt g 8 (rs.map bv) := fun j v hv => by
  obtain ⟨hj, hju⟩ := List.getElem?_eq_some_iff.1 hv
  have hl : 8 + j < (stCells ws rs n).length := by rw [stCells_length]; simp at hj; omega
  rw [h.cell hl, ← hju]
  simp only [stCells]
  simp at hj
  rw [List.getElem_append_right (by simp; omega), List.getElem_append_left (by simp; omega)]
  congr 1
  simp [h8]

/-- the first words, as far as they were laid -/
def HashAt (w : World) (k : Nat) (wr : World) : Prop :=
  Blk wr w.heap.size ((padw 8 []).map wv) 45 ∧ Blk wr (w.heap.size + 1) ((padw 8 (H0.take k)).map wv) 45 ∧ Below w.heap.size w wr
theorem hash_start (w : World) : HashAt w 0 ((w.alloc (.cells ((padw 8 []).map wv).toArray 45)).alloc (.cells ((padw 8 []).map wv).toArray 45)) := by
  refine ⟨(Blk.new w _ _).alloc _, ?_, ((Below.refl _ _).alloc (Nat.le_refl _) _).alloc (by simp) _⟩
  have := Blk.new (w.alloc (.cells ((padw 8 []).map wv).toArray 45)) ((padw 8 []).map wv) 45
  simpa using this
theorem H0_take {k : Nat} (hk : k < 8) : H0.take (k + 1) = H0.take k ++ [H0.getD k 0] ∧ (H0.take k).length = k := by
  rcases below8 hk with rfl | rfl | rfl | rfl | rfl | rfl | rfl | rfl <;> exact ⟨rfl, rfl⟩
theorem HashAt.step {w wr : World} {k : Nat} (H : HashAt w k wr) (hk : k < 8) : HashAt w (k + 1) (wr.setCell ⟨w.heap.size + 1, k, none⟩ (.int .u32 (H0.getD k 0 : Nat))) := by
  obtain ⟨h1, h2, h3⟩ := H
  refine ⟨h1.other _ _ (by show w.heap.size ≠ w.heap.size + 1; omega), ?_, h3.setCell (by show w.heap.size ≤ w.heap.size + 1; omega) _⟩
  have := h2.set k (.int .u32 ((H0.getD k 0 : Nat) : Int))
  rw [padw_map_set (H0.getD k 0) (by rw [(H0_take hk).2]; exact hk) k (H0_take hk).2, ← (H0_take hk).1] at this
  exact this

set_option maxRecDepth 100000 in
set_option maxHeartbeats 400000 in
theorem hashed_any (w : World) (g : Nat) (l : List UInt8) (h : StAt w g l) (ht : Tabs w) : Calls Tryd.prog 26 #[.pointer (some ⟨g, 0, none⟩)] w fun e w' => e = .returned (.agg ((hashed l (l.length / 64)).map wv).toArray) ∧ Below w.heap.size w w' := by
  obtain ⟨ws, rs, hb, h1, h2, h3, h4⟩ := h
  have hg := hb.lt
  have c : w.cell? ⟨g, 72, none⟩ = some (.int .i64 (l.length : Int)) := by
    rw [hb.cell (by rw [stCells_length]; omega)]
    simp [stCells, h1, h2]
  have c' : (w.alloc (.cells ((padw 8 []).map wv).toArray 45)).cell? ⟨g, 72, none⟩ = some (.int .i64 (l.length : Int)) := by
    rw [World.cell?_alloc_lt _ _ _ hg]; exact c
  by_cases hl : 64 ≤ l.length
  · have HW := Lib.hid (h3 hl)
    rw [← h3 hl]
    have HB : Hid ((w.alloc (.cells ((padw 8 []).map wv).toArray 45)).rangeAt g 0 (ws.map wv)) := World.rangeAt_alloc (st_words hb) _
    have HL := Lib.hid h1
    have hl' : (64 : Int) ≤ (l.length : Int) := by omega
    clear h1 h2 h3 h4 hb
    go_enter Tryd.func26, Tryd.ntmps26
    go_wp2_with (first
      | (refine wpList_load_mid rfl 45 (.tmp 12) rfl g 0 rfl (ws.map wv) _ HB.out Tryd.underlying45 rfl (by rw [info41]; simp [HL.out]) ?_)
      | (refine wpList_store_row rfl 45 (.tmp 2) (.tmp 13) rfl w.heap.size (ws.map wv).toArray rfl rfl 45 _ (heap_alloc_new w _) (by rw [info41]; simp [HL.out]) (by simp [HL.out]) (wv_one _) ?_))
    simp only [Act.put, List.setIfInBounds_toArray, List.set_cons_succ, List.set_cons_zero]
    have HQ := setRow_heap (w.alloc (.cells ((padw 8 []).map wv).toArray 45)) w.heap.size _ (ws.map wv).toArray _ _ (heap_alloc_new w _)
    exact bodyPost_ret (v := .agg (ws.map wv).toArray) (results_cell_row Tryd.results26 _ _ w.heap.size 45 (ws.map wv).toArray (0, 0) _ rfl HQ Tryd.underlying45 rfl (by rw [info41]; simp [HL.out])) rfl ⟨rfl, below_setRow ((Below.refl _ _).alloc (Nat.le_refl _) _) (Nat.le_refl _) _⟩
  · have hz : l.length / 64 = 0 := by omega
    rw [hz]
    have hl' : ¬ (64 : Int) ≤ (l.length : Int) := by omega
    have HT := Lib.hid ht
    clear h1 h2 h3 h4 hb ht hz
    obtain ⟨R, hR⟩ : ∃ R, R = (hashed l 0).map wv := ⟨_, rfl⟩
    rw [← hR]
    have HR := Lib.hid hR
    clear hR
    go_enter Tryd.func26, Tryd.ntmps26
    go_wp2
    go_loopw [14] (fun i wr => ∃ k : Nat, k ≤ 8 ∧ i = .int .i64 k ∧ HashAt w k wr) (fun i _ => 8 - (intOf i).toNat)
    case atStart => exact ⟨0, by omega, rfl, hash_start w⟩
    case round =>
      clear c c'
      obtain ⟨k, hk, rfl, H⟩ := hrel
      by_cases hlt : k < 8
      · have lk : (k : Int) < 8 := by omega
        have c1 := (HT.out.below H.2.2).2.1 k hlt
        have d0 := H.2.1.word (i := k) (by rw [length_padw (by simp; omega)]; omega)
        have f0 := H.2.1.free k
        have HH := Lib.hid H
        clear H
        go_wp2
        go_roundw
        case rel => exact ⟨k + 1, by omega, by go_num, HH.out.step hlt⟩
        case measure => simp [intOf]; omega
      · obtain rfl : k = 8 := by omega
        have HT1 : Hid (Blk wr (w.heap.size + 1) R 45) := by
          have h := H.2.1
          rw [HR.out]
          exact h
        have HL : Hid (R.length = 8) := by show _ = _; rw [HR.out]; rfl
        have HR1 : Hid (R.toArray.all (·.oneCell') = true) := by show _ = _; rw [HR.out]; exact wv_one _
        have HZ := Lib.hid H.1
        have BB := Lib.hid H.2.2
        clear H hlt hk
        go_wp2_with (first
          | (refine wpList_load_row rfl 45 (.tmp 3) rfl (w.heap.size + 1) rfl 45 R.toArray (0, 0) _ HT1.out Tryd.underlying45 rfl (by rw [info41]; simp [HL.out]) ?_)
          | (refine wpList_store_row rfl 45 (.tmp 2) (.tmp 23) rfl w.heap.size R.toArray rfl rfl 45 _ HZ.out (by rw [info41]; simp [HL.out]) (by simp [HL.out, length_padw]) HR1.out ?_))
        have HQ := setRow_heap wr w.heap.size _ R.toArray _ _ HZ.out
        exact bodyPost_ret (v := .agg R.toArray) (results_cell_row Tryd.results26 _ _ w.heap.size 45 R.toArray (0, 0) _ rfl HQ Tryd.underlying45 rfl (by rw [info41]; simp [HL.out])) rfl ⟨rfl, below_setRow BB.out (by omega) _⟩
end Go.Proofs.YtmmfnfndepijlaaDoor
