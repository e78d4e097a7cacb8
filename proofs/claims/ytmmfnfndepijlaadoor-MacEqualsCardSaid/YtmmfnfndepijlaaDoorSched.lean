/-
  What the program's schedule of a block comes to. Condition: the block has 64 bytes.
-/
import Derived.Test.YtmmfnfndepijlaaDoorBlk
import Derived.BigRegion
import Derived.StillTailTactics
import Derived.Deep.MidRow
import Derived.IntWalk
import Derived.Outline
namespace Go.Proofs.YtmmfnfndepijlaaDoor
open Go.RowKit

def SchedAt (b : List UInt8) (w : World) (k : Nat) (wr : World) : Prop :=
  Blk wr w.heap.size (b.map bv) 31 ∧ Blk wr (w.heap.size + 1) ((padw 64 []).map wv) 54 ∧ Blk wr (w.heap.size + 1 + 1) ((padw 64 (sched b k)).map wv) 54 ∧ Below w.heap.size w wr

theorem sched_start (b : List UInt8) (w : World) (C Z : Array Value) (hC : C = (b.map bv).toArray) (hZ : Z = ((padw 64 []).map wv).toArray) :
    SchedAt b w 0 (((w.alloc (.cells C 31)).alloc (.cells Z 54)).alloc (.cells Z 54)) := by
  subst hC hZ
  refine ⟨((Blk.new w _ _).alloc _).alloc _, ?_, ?_, (((Below.refl _ _).alloc (Nat.le_refl _) _).alloc (by simp) _).alloc (by simp; omega) _⟩
  · have := (Blk.new (w.alloc (.cells (b.map bv).toArray 31)) ((padw 64 []).map wv) 54).alloc (.cells ((padw 64 []).map wv).toArray 54)
    simpa using this
  · have := Blk.new ((w.alloc (.cells (b.map bv).toArray 31)).alloc (.cells ((padw 64 []).map wv).toArray 54)) ((padw 64 []).map wv) 54
    show Blk _ _ ((padw 64 []).map wv) _
    simpa using this

/-- a word more -/
theorem SchedAt.step {b : List UInt8} {w wr : World} {k : Nat} (H : SchedAt b w k wr) (hk : k < 64) (x : Nat) (hx : sched b (k + 1) = sched b k ++ [x]) (v : Int) (hv : v = (x : Int)) :
    SchedAt b w (k + 1) (wr.setCell ⟨w.heap.size + 1 + 1, k, none⟩ (.int .u32 v)).drew := by
  subst hv
  obtain ⟨h1, h2, h3, h4⟩ := H
  refine ⟨(h1.other _ _ (by show w.heap.size ≠ w.heap.size + 1 + 1; omega)).drew, (h2.other _ _ (by show w.heap.size + 1 ≠ w.heap.size + 1 + 1; omega)).drew, ?_, (h4.setCell (by show w.heap.size ≤ w.heap.size + 1 + 1; omega) _).drew⟩
  have := h3.set k (.int .u32 (x : Int))
  rw [padw_map_set x (by rw [length_sched]; exact hk) k (length_sched b k), ← hx] at this
  exact this.drew
theorem nextW_int (a b c d : Nat) : ((sg1 a : Nat) + (b : Int) + (sg0 c : Nat) + (d : Int)) % 4294967296 = ((nextW a b c d : Nat) : Int) := by
  unfold nextW add32
  generalize sg1 a = x
  generalize sg0 c = y
  omega
theorem wv_one (L : List Nat) : (L.map wv).toArray.all (·.oneCell') = true :=
  all_oneCell_toArray fun v hv => by obtain ⟨n, _, rfl⟩ := List.mem_map.1 hv; rfl
theorem bv_one (L : List UInt8) : (L.map bv).toArray.all (·.oneCell') = true :=
  all_oneCell_toArray fun v hv => by obtain ⟨n, _, rfl⟩ := List.mem_map.1 hv; rfl
theorem info40 : (Tryd.prog.info? 54).map (·.size) = some 64 := by kernel_rfl
theorem info41 : (Tryd.prog.info? 45).map (·.size) = some 8 := by kernel_rfl
theorem info44 : (Tryd.prog.info? 31).map (·.size) = some 64 := by kernel_rfl
theorem word4_bits (a b c d : Nat) (ha : a < 256) (hb : b < 256) (hc : c < 256) (hd : d < 256) :
    bits .or .u32 (bits .or .u32 (bits .or .u32 ((a : Int) * 16777216) ((b : Int) * 65536)) ((c : Int) * 256)) (d : Int) = ((word4 a b c d : Nat) : Int) := by
  rw [show (a : Int) * 16777216 = ((a * 16777216 : Nat) : Int) from by omega, show (b : Int) * 65536 = ((b * 65536 : Nat) : Int) from by omega, show (c : Int) * 256 = ((c * 256 : Nat) : Int) from by omega,
    u32_or_nat _ _ (by omega) (by omega), u32_or_nat _ _ (Nat.or_lt_two_pow (n := 32) (by omega) (by omega)) (by omega), u32_or_nat _ _ (Nat.or_lt_two_pow (n := 32) (Nat.or_lt_two_pow (n := 32) (by omega) (by omega)) (by omega)) (by omega)]
  rfl

set_option maxRecDepth 100000 in
set_option maxHeartbeats 1000000 in
theorem schedule_any (b : List UInt8) (w : World) (hb : b.length = 64) :
    Calls Tryd.prog 32 #[.agg (b.map bv).toArray] w fun e w' => e = .returned (.agg ((sched b 64).map wv).toArray) ∧ Below w.heap.size w w' := by
  have HB := Lib.hid hb
  clear hb
  obtain ⟨C, hC⟩ : ∃ C, C = (b.map bv).toArray := ⟨_, rfl⟩
  rw [← hC]
  have HC := Lib.hid hC
  clear hC
  obtain ⟨R, hR⟩ : ∃ R, R = (sched b 64).map wv := ⟨_, rfl⟩
  rw [← hR]
  have HR := Lib.hid hR
  clear hR
  go_enter Tryd.func32, Tryd.ntmps32
  go_wp2
  go_loopw [7] (fun i wr => ∃ k : Nat, k ≤ 16 ∧ i = .int .i64 k ∧ SchedAt b w k wr) (fun i _ => 16 - (intOf i).toNat)
  case atStart =>
    exact ⟨0, by omega, rfl, sched_start b w _ _ HC.out rfl⟩
  case round =>
    obtain ⟨k, hk, rfl, H⟩ := hrel
    by_cases hlt : k < 16
    · have c0 := H.1.byte (i := 4 * k) (by rw [HB.out]; omega)
      have c1 := H.1.byte (i := 4 * k + 1) (by rw [HB.out]; omega)
      have c2 := H.1.byte (i := 4 * k + 2) (by rw [HB.out]; omega)
      have c3 := H.1.byte (i := 4 * k + 3) (by rw [HB.out]; omega)
      have b0 := byteAt_lt b (4 * k)
      have b1 := byteAt_lt b (4 * k + 1)
      have b2 := byteAt_lt b (4 * k + 2)
      have b3 := byteAt_lt b (4 * k + 3)
      have d0 := H.2.2.1.word (i := k) (by rw [length_padw (by rw [length_sched]; omega)]; omega)
      have f0 := H.2.2.1.free k
      have HH := Lib.hid H
      clear H
      have HW : Hid (sched b (k + 1) = sched b k ++ [word4 (byteAt b (4 * k)) (byteAt b (4 * k + 1)) (byteAt b (4 * k + 2)) (byteAt b (4 * k + 3))]) := by
        show _ = _; simp only [sched, more]; rw [if_pos hlt]; rfl
      generalize byteAt b (4 * k) = x0 at *
      generalize byteAt b (4 * k + 1) = x1 at *
      generalize byteAt b (4 * k + 2) = x2 at *
      generalize byteAt b (4 * k + 3) = x3 at *
      go_wp2
      go_region
      go_wp2
      go_roundw
      case rel => exact ⟨k + 1, by omega, by go_num, HH.out.step (by omega) _ HW.out _ (word4_bits _ _ _ _ b0 b1 b2 b3)⟩
      case measure => simp [intOf]; omega
    · have HH : Hid (SchedAt b w 16 wr) := by
        have e : k = 16 := by omega
        show SchedAt b w 16 wr
        rw [← e]; exact H
      clear H
      go_wp2
      go_loopw [6] (fun i wr => ∃ k : Nat, 16 ≤ k ∧ k ≤ 64 ∧ i = .int .i64 k ∧ SchedAt b w k wr) (fun i _ => 64 - (intOf i).toNat)
      case atStart => exact ⟨16, by omega, by omega, rfl, HH.out⟩
      case round =>
        clear HH
        clear hk hlt
        obtain ⟨k, hk1, hk2, rfl, H⟩ := hrel
        by_cases hlt : k < 64
        · have d2 := H.2.2.1.word (i := k - 2) (by rw [length_padw (by rw [length_sched]; omega)]; omega)
          have d7 := H.2.2.1.word (i := k - 7) (by rw [length_padw (by rw [length_sched]; omega)]; omega)
          have d15 := H.2.2.1.word (i := k - 15) (by rw [length_padw (by rw [length_sched]; omega)]; omega)
          have d16 := H.2.2.1.word (i := k - 16) (by rw [length_padw (by rw [length_sched]; omega)]; omega)
          have d0 := H.2.2.1.word (i := k) (by rw [length_padw (by rw [length_sched]; omega)]; omega)
          have f0 := H.2.2.1.free k
          rw [padw_getD (by rw [length_sched]; omega)] at d2 d7 d15 d16
          have b2 := getD_lt (sched_lt b k) (k - 2)
          have b15 := getD_lt (sched_lt b k) (k - 15)
          have HW : Hid (sched b (k + 1) = sched b k ++ [nextW ((sched b k).getD (k - 2) 0) ((sched b k).getD (k - 7) 0) ((sched b k).getD (k - 15) 0) ((sched b k).getD (k - 16) 0)]) := by
            show _ = _; rw [sched, more, if_neg (by omega)]
          have HH := Lib.hid H
          clear H
          generalize (sched b k).getD (k - 2) 0 = x2 at *
          obtain ⟨j2, q2, l2, e2⟩ : ∃ j : Nat, IntKind.i64.wrap ((k : Int) - 2) = (j : Int) ∧ (j : Int) < 64 ∧ k - 2 = j := ⟨k - 2, by rw [IntWalk.i64_in _ (by omega)]; omega, by omega, rfl⟩
          rw [e2] at d2
          clear e2
          generalize (sched b k).getD (k - 7) 0 = x7 at *
          obtain ⟨j7, q7, l7, e7⟩ : ∃ j : Nat, IntKind.i64.wrap ((k : Int) - 7) = (j : Int) ∧ (j : Int) < 64 ∧ k - 7 = j := ⟨k - 7, by rw [IntWalk.i64_in _ (by omega)]; omega, by omega, rfl⟩
          rw [e7] at d7
          clear e7
          generalize (sched b k).getD (k - 15) 0 = x15 at *
          obtain ⟨j15, q15, l15, e15⟩ : ∃ j : Nat, IntKind.i64.wrap ((k : Int) - 15) = (j : Int) ∧ (j : Int) < 64 ∧ k - 15 = j := ⟨k - 15, by rw [IntWalk.i64_in _ (by omega)]; omega, by omega, rfl⟩
          rw [e15] at d15
          clear e15
          generalize (sched b k).getD (k - 16) 0 = x16 at *
          obtain ⟨j16, q16, l16, e16⟩ : ∃ j : Nat, IntKind.i64.wrap ((k : Int) - 16) = (j : Int) ∧ (j : Int) < 64 ∧ k - 16 = j := ⟨k - 16, by rw [IntWalk.i64_in _ (by omega)]; omega, by omega, rfl⟩
          rw [e16] at d16
          clear e16
          go_wp2
          have lk : (k : Int) < 64 := by omega
          refine wp_region_still_tail 23 (by kernel_rfl) (by kernel_rfl) ?_
          simp only [List.take_succ_cons, List.take_zero, List.drop_succ_cons, List.drop_zero]
          change wpStill _ _ wr.drew (fun a' => wpList _ _ _ _ a' wr.drew) _ _
          repeat still_step
          still_call (smallOne_still _ _ b2)
          repeat still_step
          still_call (smallZero_still _ _ b15)
          repeat still_step
          refine wpStill_nil ?_
          go_wp2
          go_roundw
          case rel => exact ⟨k + 1, by omega, by omega, by go_num, HH.out.step hlt _ HW.out _ (nextW_int _ _ _ _)⟩
          case measure => simp [intOf]; omega
        · have HH : Hid (SchedAt b w 64 wr) := by
            have e : k = 64 := by omega
            show SchedAt b w 64 wr
            rw [← e]; exact H
          clear H
          have HL : Hid (R.length = 64) := by show _ = _; rw [HR.out, List.length_map, length_sched]
          have HT : Hid (Blk wr (w.heap.size + 1 + 1) R 54) := by
            have h := HH.out.2.2.1
            rw [padw_full (length_sched b 64), ← HR.out] at h
            exact h
          have HZ := Lib.hid HH.out.2.1
          have BB := Lib.hid HH.out.2.2.2
          have H1 : Hid (R.toArray.all (·.oneCell') = true) := by show _ = _; rw [HR.out]; exact wv_one (sched b 64)
          clear HH
          go_wp2_with (first
            | (refine wpList_load_row rfl 54 (.tmp 3) rfl (w.heap.size + 1 + 1) rfl 54 R.toArray (0, 0) _ HT.out Tryd.underlying54 rfl (by rw [info40]; simp [HL.out]) ?_)
            | (refine wpList_store_row rfl 54 (.tmp 2) (.tmp 67) rfl (w.heap.size + 1) R.toArray rfl rfl 54 _ HZ.out (by rw [info40]; simp [HL.out]) (by simp [HL.out, length_padw]) H1.out ?_))
          have HQ := setRow_heap wr (w.heap.size + 1) _ R.toArray _ _ HZ.out
          exact bodyPost_ret (v := .agg R.toArray) (results_cell_row Tryd.results32 _ _ (w.heap.size + 1) 54 R.toArray (0, 0) _ rfl HQ Tryd.underlying54 rfl (by rw [info40]; simp [HL.out])) rfl ⟨rfl, below_setRow BB.out (by omega) _⟩
end Go.Proofs.YtmmfnfndepijlaaDoor
