/-
  Of a disk, a block as it was written last; Read. Conditions: as each says.
-/
import Derived.Test.YtkbjhnlihnakkaaDkSmall
namespace Go.Proofs.Ytkbjhnlihnakkaa
open Go.RowKit

theorem zero59 (w : World) : (zeroValue 70).run Try.prog w = .ok (.agg ((List.replicate 64 (0 : UInt8)).map bv).toArray) w := by kernel_rfl
theorem info59 : (Try.prog.info? 70).map (·.size) = some 64 := by kernel_rfl
theorem info62 : (Try.prog.info? 88).map (·.size) = some 65 := by kernel_rfl
theorem map_bv_one (l : List UInt8) : (l.map bv).toArray.all (·.oneCell') = true := all_oneCell_toArray (bytes_one l)

set_option maxRecDepth 100000 in
set_option maxHeartbeats 400000 in
theorem latest_any (w : World) (g : Nat) (F : Nat → Prop) (s : Dsk) (i : Nat) (h : DiskAt w g F s) (hi : i < s.K.length) :
    Calls Try.prog 74 #[.pointer (some ⟨g, 0, none⟩), .int .i64 (i : Int)] w fun e w' => (∃ x, e = .returned (.agg (x.map bv).toArray) ∧ s.Last i x) ∧ Below w.heap.size w w' := by
  obtain ⟨gd, v, h⟩ := h
  obtain ⟨A, c, rfl, hc, hcm, hA⟩ := own_form65 h.2.2.1
  have hi4 := h.2.2.2.2.2.2.2.2.hi
  have z := zero59
  have hM : s.M.length ≤ 9223372036854775807 := by unfold maxLen at hcm; omega
  have H := Lib.hid (h.still ((Below.refl _ _).alloc (Nat.le_refl _) (.cells ((List.replicate 64 (0 : UInt8)).map bv).toArray 70)))
  have HN : Hid (Blk (w.alloc (.cells ((List.replicate 64 (0 : UInt8)).map bv).toArray 70)) w.heap.size ((List.replicate 64 (0 : UInt8)).map bv) 70) := Blk.new w _ _
  have HZ : Hid (((List.replicate 64 (0 : UInt8)).map bv).length = 64) := by show _ = _; simp
  have HB : Hid (Below w.heap.size w (w.alloc (.cells ((List.replicate 64 (0 : UInt8)).map bv).toArray 70))) := (Below.refl _ _).alloc (Nat.le_refl _) _
  generalize (List.replicate 64 (0 : UInt8)).map bv = Z at z H HN HB HZ
  clear h
  obtain ⟨c0, c1, _⟩ := H.out.cells
  go_enter Try.func74, Try.ntmps74
  go_wp2
  go_loopw [5] (fun a wr => wr = (w.alloc (.cells Z.toArray 70)) ∧ ∃ k : Nat, k ≤ s.M.length ∧ a = .int .i64 ((k : Int) - 1) ∧ ∀ j (hj : j < s.M.length), k ≤ j → s.M[j].1 ≠ i) (fun a _ => (intOf a + 1).toNat)
  case atStart => exact ⟨rfl, s.M.length, Nat.le_refl _, rfl, fun j hj h => by omega⟩
  case round =>
    obtain ⟨rfl, k, hk, rfl, hno⟩ := hrel
    by_cases hk0 : 0 < k
    · obtain ⟨q, rfl⟩ : ∃ q, k = q + 1 := ⟨k - 1, by omega⟩
      rw [show (((q + 1 : Nat) : Int) - 1) = (q : Int) by omega]
      obtain ⟨gc, rfl⟩ := hA (by omega)
      have hq : q < s.M.length := by omega
      obtain ⟨_, d0, d1⟩ := H.out.cache q hq
      have HX : Hid ((s.M[q].2.map bv).length = 64) := by show _ = _; rw [List.length_map]; exact H.out.2.2.2.2.2.2.2.2.mem _ (List.getElem_mem hq)
      have HD1 := Lib.hid d1
      clear d1 hA hk hk0
      by_cases hm : s.M[q].1 = i
      · have HL : Hid (s.Last i s.M[q].2) := Or.inl ⟨q, hq, hm, rfl, fun j hj hlt => hno j hj (by omega)⟩
        rw [hm] at d0
        clear hno hm
        have HO := Lib.hid (map_bv_one s.M[q].2)
        generalize hX : s.M[q].2 = x at *
        have hX' := Lib.hid hX
        clear hX
        generalize hY : x.map bv = X at *
        have hY' := Lib.hid hY
        clear hY
        go_wp2_with (first
          | (refine wpList_load_mid rfl 70 (.tmp 32) rfl gc (q * 65 + 1) rfl X _ HD1.out Try.underlying70 rfl (by rw [info59, HX.out]) ?_)
          | (refine wpList_store_row rfl 70 (.tmp 4) (.tmp 33) rfl w.heap.size X.toArray rfl rfl 70 _ HN.out (by rw [info59]; simp [HX.out]) (by simp [HX.out, HZ.out]) HO.out ?_))
        have HQ := setRow_heap (w.alloc (.cells Z.toArray 70)) w.heap.size _ X.toArray _ _ HN.out
        exact bodyPost_ret (v := .agg X.toArray) (results_cell_row Try.results74 _ _ w.heap.size 70 X.toArray (0, 0) _ rfl HQ Try.underlying70 rfl (by rw [info59]; simp [HX.out])) rfl ⟨⟨x, by rw [hY'.out], HL.out⟩, below_setRow HB.out (Nat.le_refl _) _⟩
      · have hm' : ((s.M[q].1 : Int) == (i : Int)) = false := by rw [beq_eq_false_iff_ne]; omega
        obtain ⟨mm, hmm⟩ : ∃ mm : Int, mm = (s.M[q].1 : Int) := ⟨_, rfl⟩
        rw [← hmm] at d0 hm'
        have hm'' : ¬ mm = (i : Int) := by simpa using hm'
        have HNO : Hid (∀ j (hj : j < s.M.length), q ≤ j → s.M[j].1 ≠ i) := fun j hj hle => by
          rcases Nat.lt_or_ge q j with h | h
          · exact hno j hj h
          · obtain rfl : j = q := by omega
            exact hm
        clear hno hm hmm hm' HD1 HX
        go_wp2
        go_roundw
        case rel => exact ⟨trivial, q, by omega, rfl, HNO.out⟩
        case measure => simp [intOf]
    · obtain rfl : k = 0 := by omega
      have hno' : ∀ j (hj : j < s.M.length), s.M[j].1 ≠ i := fun j hj => hno j hj (by omega)
      have HL : Hid (s.Last i s.K[i]) := Or.inr ⟨hno', List.getElem?_eq_getElem hi⟩
      have HD := Lib.hid (H.out.durable i hi).1
      have HX : Hid ((s.K[i].map bv).length = 64) := by show _ = _; rw [List.length_map]; exact H.out.2.2.2.2.2.2.2.2.len _ (List.getElem_mem hi)
      have HO := Lib.hid (map_bv_one s.K[i])
      generalize hX : s.K[i] = x at *
      have hX' := Lib.hid hX
      clear hX hno hno' hk hk0
      generalize hY : x.map bv = X at *
      have hY' := Lib.hid hY
      clear hY
      have e : ((0 : Nat) : Int) - 1 = -1 := rfl
      rw [e]
      clear e
      go_wp2_with (first
        | (refine wpList_load_mid rfl 70 (.tmp 39) rfl gd (i * 64) rfl X _ HD.out Try.underlying70 rfl (by rw [info59, HX.out]) ?_)
        | (refine wpList_store_row rfl 70 (.tmp 4) (.tmp 40) rfl w.heap.size X.toArray rfl rfl 70 _ HN.out (by rw [info59]; simp [HX.out]) (by simp [HX.out, HZ.out]) HO.out ?_))
      have HQ := setRow_heap (w.alloc (.cells Z.toArray 70)) w.heap.size _ X.toArray _ _ HN.out
      exact bodyPost_ret (v := .agg X.toArray) (results_cell_row Try.results74 _ _ w.heap.size 70 X.toArray (0, 0) _ rfl HQ Try.underlying70 rfl (by rw [info59]; simp [HX.out])) rfl ⟨⟨x, by rw [hY'.out], HL.out⟩, below_setRow HB.out (Nat.le_refl _) _⟩
/-- Read -/
theorem read_any (w : World) (g : Nat) (F : Nat → Prop) (s : Dsk) (i : Int) (h : DiskAt w g F s) :
    Calls Try.prog 56 #[.pointer (some ⟨g, 0, none⟩), .int .i64 i] w fun e w' => Below w.heap.size w w' ∧
      ((¬ (0 ≤ i ∧ i < s.K.length) ∧ e = .returned (.tuple #[.slice none 0 0, .int .i64 1])) ∨
       ((0 ≤ i ∧ i < s.K.length) ∧ s.off = true ∧ e = .returned (.tuple #[.slice none 0 0, .int .i64 5])) ∨
       ((0 ≤ i ∧ i < s.K.length) ∧ s.off = false ∧ ∃ x gb, s.Last i.toNat x ∧ w.heap.size ≤ gb ∧ Blk w' gb (x.map bv) 70 ∧ e = .returned (.tuple #[.slice (some ⟨gb, 0, none⟩) 64 64, .int .i64 0]))) := by
  have H := Lib.hid h
  clear h
  by_cases h0 : 0 ≤ i ∧ i < s.K.length
  · have hd : decide (0 ≤ i ∧ i < (s.K.length : Int)) = true := decide_eq_true h0
    have HI := Lib.hid h0
    by_cases ho : s.off = true
    · have ho' : (!s.off) = false := by rw [ho]; rfl
      have HO := Lib.hid ho
      clear h0 ho
      go_enter Try.func56, Try.ntmps56
      go_wp2_with (first
        | (go_at_call 73; refine (has_any H.out i).mono ?_; rintro e w' ⟨rfl, rfl⟩; rw [hd])
        | (go_at_call 43; refine (on_any H.out).mono ?_; rintro e w' ⟨rfl, rfl⟩; rw [ho']))
      go_ret2
      exact ⟨Below.refl _ _, .inr (.inl ⟨HI.out, HO.out, rfl⟩)⟩
    · have ho' : (!s.off) = true := by cases hs : s.off <;> simp_all
      have HO : Hid (s.off = false) := by show _ = _; cases hs : s.off <;> simp_all
      obtain ⟨n, rfl⟩ : ∃ n : Nat, i = (n : Int) := ⟨i.toNat, by omega⟩
      have hn : n < s.K.length := by omega
      have OK := Lib.hid H.out.ok
      have z := zero59
      have HZ : Hid (((List.replicate 64 (0 : UInt8)).map bv).length = 64) := by show _ = _; simp
      generalize (List.replicate 64 (0 : UInt8)).map bv = Z at z HZ
      clear h0 ho
      go_enter Try.func56, Try.ntmps56
      go_wp2_with (first
        | (go_at_call 73; refine (has_any H.out n).mono ?_; rintro e w' ⟨rfl, rfl⟩; rw [hd])
        | (go_at_call 43; refine (on_any H.out).mono ?_; rintro e w' ⟨rfl, rfl⟩; rw [ho'])
        | (go_at_call 74; refine (latest_any _ g F s n H.out hn).mono ?_; rintro e w1 ⟨⟨x, rfl, hx⟩, hb⟩; have hlx := Lib.hid (hx.length OK.out); have hx := Lib.hid hx; have hb := Lib.hid hb; have hox := Lib.hid (map_bv_one x); generalize hY : x.map bv = X at *; have hY := Lib.hid hY; have hlX : Hid (X.length = 64) := (by show _ = _; rw [← hY.out, List.length_map]; exact hlx.out))
        | (refine wpList_store_row rfl 70 (.tmp 6) (.tmp 16) rfl w1.heap.size X.toArray rfl rfl 70 _ (heap_alloc_new w1 _) (by rw [info59]; simp [hlX.out]) (by simp [hlX.out, HZ.out]) hox.out ?_))
      go_ret2
      have hq := setRow_heap (w1.alloc (.cells Z.toArray 70)) w1.heap.size _ X.toArray _ _ (heap_alloc_new w1 _)
      exact ⟨below_setRow (hb.out.alloc hb.out.size _) hb.out.size _, .inr (.inr ⟨HI.out, HO.out, x, w1.heap.size, hx.out, hb.out.size, by rw [hY.out]; exact hq, rfl⟩)⟩
  · have hd : decide (0 ≤ i ∧ i < (s.K.length : Int)) = false := decide_eq_false h0
    have HI := Lib.hid h0
    clear h0
    go_enter Try.func56, Try.ntmps56
    go_wp2_with (go_at_call 73; refine (has_any H.out i).mono ?_; rintro e w' ⟨rfl, rfl⟩; rw [hd])
    go_ret2
    exact ⟨Below.refl _ _, .inl ⟨HI.out, rfl⟩⟩
end Go.Proofs.Ytkbjhnlihnakkaa
