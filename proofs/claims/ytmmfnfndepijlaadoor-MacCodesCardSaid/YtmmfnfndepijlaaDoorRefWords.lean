/-
  What the document's words of a block come to: the same Lean function as the program's. Condition: the block has 64 bytes.
-/
import Derived.Test.YtmmfnfndepijlaaDoorPad
namespace Go.Proofs.YtmmfnfndepijlaaDoor
open Go.RowKit

def WordsAt (b : List UInt8) (w : World) (k : Nat) (wr : World) : Prop :=
  Blk wr w.heap.size ((padw 64 (sched b k)).map wv) 43 ∧ Below w.heap.size w wr
theorem words_make (w : World) : (Instr.makeSlice 40 (.int .i64 64) (.int .i64 64)).run Tryd.prog w = .ok (.slice (some ⟨w.heap.size, 0, none⟩) 64 64) (w.alloc (.cells ((padw 64 []).map wv).toArray 43)) := by kernel_rfl
theorem WordsAt.step {b : List UInt8} {w wr : World} {k : Nat} (H : WordsAt b w k wr) (hk : k < 64) (x : Nat) (hx : sched b (k + 1) = sched b k ++ [x]) (v : Int) (hv : v = (x : Int)) :
    WordsAt b w (k + 1) (wr.setCell ⟨w.heap.size, k, none⟩ (.int .u32 v)).drew := by
  subst hv
  obtain ⟨h3, h4⟩ := H
  refine ⟨?_, (h4.setCell (Nat.le_refl _) _).drew⟩
  have := h3.set k (.int .u32 (x : Int))
  rw [padw_map_set x (by rw [length_sched]; exact hk) k (length_sched b k), ← hx] at this
  exact this.drew

theorem sg0_bits (x : Nat) (hx : x < 4294967296) : bits BinOp.xor IntKind.u32 (bits BinOp.xor IntKind.u32 ((rot x 7 : Nat) : Int) ((rot x 18 : Nat) : Int)) ((x : Int) / 8) = ((sg0 x : Nat) : Int) := by
  rw [show (x : Int) / 8 = ((x / 8 : Nat) : Int) by omega]
  exact xor3_bits _ _ _ (rot_lt _ hx) (rot_lt _ hx) (by omega)
theorem sg1_bits (x : Nat) (hx : x < 4294967296) : bits BinOp.xor IntKind.u32 (bits BinOp.xor IntKind.u32 ((rot x 17 : Nat) : Int) ((rot x 19 : Nat) : Int)) ((x : Int) / 1024) = ((sg1 x : Nat) : Int) := by
  rw [show (x : Int) / 1024 = ((x / 1024 : Nat) : Int) by omega]
  exact xor3_bits _ _ _ (rot_lt _ hx) (rot_lt _ hx) (by omega)

set_option maxRecDepth 100000 in
set_option maxHeartbeats 1000000 in
theorem refWords_any (A : Option Addr) (b : List UInt8) (c : Nat) (w : World) (hb : b.length = 64) (hs : Seen w A b) :
    Calls Tryd.prog 29 #[.slice A 64 c] w fun e w' => e = .returned (.slice (some ⟨w.heap.size, 0, none⟩) 64 64) ∧ Blk w' w.heap.size ((sched b 64).map wv) 43 ∧ Below w.heap.size w w' := by
  rcases hs with h | ⟨bb, off, rfl, hlb, hc⟩
  · rw [h] at hb; simp at hb
  have HC : Hid (∀ j, j < 64 → w.cell? ⟨bb, off + j, none⟩ = some (.int .u8 (byteAt b j : Nat))) := by
    intro j hj
    rw [hc j (by omega)]; unfold byteAt; rw [List.getD_eq_getElem?_getD, List.getElem?_eq_getElem (by omega)]; rfl
  clear hc
  have hmk := words_make
  have HST : Hid (WordsAt b w 0 (w.alloc (.cells ((padw 64 []).map wv).toArray 43))) := ⟨Blk.new w _ _, (Below.refl _ _).alloc (Nat.le_refl _) _⟩
  generalize ((padw 64 []).map wv).toArray = Z at hmk HST
  go_enter Tryd.func29, Tryd.ntmps29
  go_wp2
  clear hmk
  go_loopw [4] (fun i wr => ∃ k : Nat, k ≤ 16 ∧ i = .int .i64 k ∧ WordsAt b w k wr) (fun i _ => 16 - (intOf i).toNat)
  case atStart => exact ⟨0, by omega, rfl, HST.out⟩
  case round =>
    clear HST
    obtain ⟨k, hk, rfl, H⟩ := hrel
    by_cases hlt : k < 16
    · have cc := fun (j : Nat) (hj : j < 64) => (H.2.cell (p := ⟨bb, off + j, none⟩) hlb).trans (HC.out j hj)
      have c0 := cc (4 * k) (by omega)
      have c1 := cc (4 * k + 1) (by omega)
      have c2 := cc (4 * k + 2) (by omega)
      have c3 := cc (4 * k + 3) (by omega)
      clear cc
      have b0 := byteAt_lt b (4 * k)
      have b1 := byteAt_lt b (4 * k + 1)
      have b2 := byteAt_lt b (4 * k + 2)
      have b3 := byteAt_lt b (4 * k + 3)
      have d0 := H.1.word (i := k) (by rw [length_padw (by rw [length_sched]; omega)]; omega)
      have f0 := H.1.free k
      have HH := Lib.hid H
      clear H
      have HW : Hid (sched b (k + 1) = sched b k ++ [word4 (byteAt b (4 * k)) (byteAt b (4 * k + 1)) (byteAt b (4 * k + 2)) (byteAt b (4 * k + 3))]) := by
        show _ = _; simp only [sched, more]; rw [if_pos hlt]; rfl
      generalize byteAt b (4 * k) = x0 at *
      generalize byteAt b (4 * k + 1) = x1 at *
      generalize byteAt b (4 * k + 2) = x2 at *
      generalize byteAt b (4 * k + 3) = x3 at *
      go_wp2
      go_region
      go_wp2
      go_roundw
      case rel => exact ⟨k + 1, by omega, by go_num, HH.out.step (by omega) _ HW.out _ (word4_bits _ _ _ _ b0 b1 b2 b3)⟩
      case measure => simp [intOf]; omega
    · have HH : Hid (WordsAt b w 16 wr) := by
        have e : k = 16 := by omega
        show WordsAt b w 16 wr
        rw [← e]; exact H
      clear H
      go_wp2
      go_loopw [5] (fun i wr => ∃ k : Nat, 16 ≤ k ∧ k ≤ 64 ∧ i = .int .i64 k ∧ WordsAt b w k wr) (fun i _ => 64 - (intOf i).toNat)
      case atStart => exact ⟨16, by omega, by omega, rfl, HH.out⟩
      case round =>
        clear HH
        clear hk hlt
        obtain ⟨k, hk1, hk2, rfl, H⟩ := hrel
        by_cases hlt : k < 64
        · have d2 := H.1.word (i := k - 2) (by rw [length_padw (by rw [length_sched]; omega)]; omega)
          have d7 := H.1.word (i := k - 7) (by rw [length_padw (by rw [length_sched]; omega)]; omega)
          have d15 := H.1.word (i := k - 15) (by rw [length_padw (by rw [length_sched]; omega)]; omega)
          have d16 := H.1.word (i := k - 16) (by rw [length_padw (by rw [length_sched]; omega)]; omega)
          have d0 := H.1.word (i := k) (by rw [length_padw (by rw [length_sched]; omega)]; omega)
          have f0 := H.1.free k
          rw [padw_getD (by rw [length_sched]; omega)] at d2 d7 d15 d16
          have b2 := getD_lt (sched_lt b k) (k - 2)
          have b15 := getD_lt (sched_lt b k) (k - 15)
          have HW : Hid (sched b (k + 1) = sched b k ++ [nextW ((sched b k).getD (k - 2) 0) ((sched b k).getD (k - 7) 0) ((sched b k).getD (k - 15) 0) ((sched b k).getD (k - 16) 0)]) := by
            show _ = _; rw [sched, more, if_neg (by omega)]
          have HH := Lib.hid H
          clear H
          generalize (sched b k).getD (k - 2) 0 = x2 at *
          generalize (sched b k).getD (k - 7) 0 = x7 at *
          generalize (sched b k).getD (k - 15) 0 = x15 at *
          generalize (sched b k).getD (k - 16) 0 = x16 at *
          go_wp2_with fail
          refine (turned_any x15 _ b15 7 (by decide) (by decide)).mono ?_
          rintro e w' ⟨rfl, rfl⟩
          go_wp2_with fail
          refine (turned_any x15 _ b15 18 (by decide) (by decide)).mono ?_
          rintro e w' ⟨rfl, rfl⟩
          go_wp2_with fail
          refine (turned_any x2 _ b2 17 (by decide) (by decide)).mono ?_
          rintro e w' ⟨rfl, rfl⟩
          go_wp2_with fail
          refine (turned_any x2 _ b2 19 (by decide) (by decide)).mono ?_
          rintro e w' ⟨rfl, rfl⟩
          go_wp2_with fail
          rw [sg0_bits x15 b15, sg1_bits x2 b2]
          generalize bits BinOp.xor IntKind.u32 ((rot x15 7 : Nat) : Int) ((rot x15 18 : Nat) : Int) = q1
          generalize bits BinOp.xor IntKind.u32 ((rot x2 17 : Nat) : Int) ((rot x2 19 : Nat) : Int) = q2
          obtain ⟨j7, q7, l7, e7⟩ : ∃ j : Nat, IntKind.i64.wrap ((k : Int) - 7) = (j : Int) ∧ (j : Int) < 64 ∧ k - 7 = j := ⟨k - 7, by rw [IntWalk.i64_in _ (by omega)]; omega, by omega, rfl⟩
          rw [e7] at d7
          clear e7
          obtain ⟨j16, q16, l16, e16⟩ : ∃ j : Nat, IntKind.i64.wrap ((k : Int) - 16) = (j : Int) ∧ (j : Int) < 64 ∧ k - 16 = j := ⟨k - 16, by rw [IntWalk.i64_in _ (by omega)]; omega, by omega, rfl⟩
          rw [e16] at d16
          clear e16 d2 d15
          have lk : (k : Int) < 64 := by omega
          refine wp_region_still_tail 18 (by kernel_rfl) (by kernel_rfl) ?_
          simp only [List.take_succ_cons, List.take_zero, List.drop_succ_cons, List.drop_zero]
          change wpStill _ _ wr.drew (fun a' => wpList _ _ _ _ a' wr.drew) _ _
          repeat still_step
          refine wpStill_nil ?_
          go_wp2
          go_roundw
          case rel => exact ⟨k + 1, by omega, by omega, by go_num, HH.out.step hlt _ HW.out _ (nextW_int _ _ _ _)⟩
          case measure => simp [intOf]; omega
        · obtain rfl : k = 64 := by omega
          have HH := Lib.hid H
          clear H
          go_wp2_with fail
          go_ret
          exact ⟨rfl, by have h := HH.out.1; rw [padw_full (length_sched b 64)] at h; exact h, HH.out.2⟩
end Go.Proofs.YtmmfnfndepijlaaDoor
