/-
  What the program's extended comes to: the key, or its hash, with noughts behind it. Conditions: the key's length fits; the program's tables lie as their initialisers lay them.
-/
import Derived.Test.YtmmfnfndepijlaaDoorMask
import Derived.Test.YtmmfnfndepijlaaDoorSumState
namespace Go.Proofs.YtmmfnfndepijlaaDoor
open Go.RowKit

/-- what the program's row holds behind k rounds -/
def filledTo (l : List UInt8) (k : Nat) : List UInt8 := l.take k ++ List.replicate (64 - k) 0
theorem filledTo_zero (l : List UInt8) : filledTo l 0 = List.replicate 64 0 := by simp [filledTo]
theorem filledTo_all (l : List UInt8) : filledTo l l.length = fillL l := by simp [filledTo, fillL]
theorem length_filledTo (l : List UInt8) (k : Nat) (h : k ≤ l.length) (h' : k ≤ 64) : (filledTo l k).length = 64 := by simp [filledTo]; omega
theorem filledTo_next (l : List UInt8) (k : Nat) (h : k < l.length) (h' : k < 64) : (filledTo l k).set k l[k] = filledTo l (k + 1) := by
  have hl : (l.take k).length = k := by simp; omega
  unfold filledTo
  rw [List.set_append_right _ _ (by omega), hl, Nat.sub_self, List.take_succ_eq_append_getElem h, List.append_assoc]
  congr 1
  rw [show 64 - k = (64 - (k + 1)) + 1 by omega, List.replicate_succ]
  rfl

def ExtAt (w w1 : World) (l Z : List UInt8) (k : Nat) (wr : World) : Prop :=
  Blk wr w.heap.size (Z.map bv) 31 ∧ Blk wr w1.heap.size ((filledTo l k).map bv) 31 ∧ Below w1.heap.size w1 wr
theorem ExtAt.step {w w1 wr : World} {l Z : List UInt8} {k : Nat} (H : ExtAt w w1 l Z k wr) (hne : w.heap.size < w1.heap.size) (hk : k < l.length) (h64 : k < 64) (c : UInt8) (hc : l[k] = c) :
    ExtAt w w1 l Z (k + 1) (wr.setCell ⟨w1.heap.size, k, none⟩ (.int .u8 (c.toNat : Int))) := by
  subst hc
  obtain ⟨h1, h2, h3⟩ := H
  refine ⟨h1.other _ _ (by show w.heap.size ≠ w1.heap.size; omega), ?_, h3.setCell (Nat.le_refl _) _⟩
  rw [← filledTo_next l k hk h64, List.map_set]
  exact h2.set k _
set_option maxRecDepth 100000 in
set_option maxHeartbeats 1000000 in
theorem extended_any (A : Option Addr) (key : List UInt8) (c : Nat) (w : World) (hs : Seen w A key) (hc : key.length ≤ c) (hn : key.length ≤ 70368744177664) (ht : Tabs w) :
    Calls Tryd.prog 14 #[.slice A key.length c] w fun e w' => e = .returned (.agg ((fillL (keyL key)).map bv).toArray) ∧ Below w.heap.size w w' := by
  have HS := Lib.hid hs
  have HT := Lib.hid ht
  clear hs ht
  have z := zero64
  have HZ0 : Hid (∀ l, filledTo l 0 = List.replicate 64 (0 : UInt8)) := filledTo_zero
  have HZL : Hid ((List.replicate 64 (0 : UInt8)).length = 64) := List.length_replicate
  generalize List.replicate 64 (0 : UInt8) = Z at z HZL HZ0
  obtain ⟨C, hC⟩ : ∃ C, C = (Z.map bv).toArray := ⟨_, rfl⟩
  rw [← hC] at z
  have HC := Lib.hid hC
  clear hC
  obtain ⟨R, hR⟩ : ∃ R, R = (fillL (keyL key)).map bv := ⟨_, rfl⟩
  rw [← hR]
  have HR := Lib.hid hR
  clear hR
  obtain ⟨k1, hk1⟩ : ∃ k1, k1 = keyL key := ⟨_, rfl⟩
  rw [← hk1] at HR
  have HK := Lib.hid hk1
  have h64 : k1.length ≤ 64 := by rw [hk1]; exact keyL_short key
  clear hk1
  have B0 : Hid (Below w.heap.size w (w.alloc (.cells C 31))) := (Below.refl _ _).alloc (Nat.le_refl _) _
  have G0 : Hid (Blk (w.alloc (.cells C 31)) w.heap.size (Z.map bv) 31) := by show Blk _ _ _ _; rw [HC.out]; exact Blk.new w _ _
  have HRL : Hid (R.length = 64) := by show _ = _; rw [HR.out, List.length_map, length_fillL h64]
  have HR1 : Hid (R.toArray.all (·.oneCell') = true) := by show _ = _; rw [HR.out]; exact bv_one _
  by_cases hlong : 64 < key.length
  · have e1 : k1 = shaL key := by rw [HK.out]; unfold keyL; rw [if_pos hlong]
    go_enter Tryd.func14, Tryd.ntmps14
    go_wp2_with fail
    refine (sum_any _ A key c (HS.out.below B0.out) hc hn (HT.out.below B0.out)).mono ?_
    rintro e w1 ⟨A1, rfl, hs1, hb1⟩
    rw [← e1] at hs1
    have NL : Hid (k1.length = 32) := by show _ = _; rw [e1]; exact length_shaL _
    have S1 := Lib.hid hs1
    have B1 := Lib.hid (hop B0.out hb1)
    have G1 := Lib.hid (G0.out.below hb1 G0.out.lt)
    clear hs1 hb1 G0 B0 HS HT e1 HK hlong
    have LT : Hid (w.heap.size < w1.heap.size) := G1.out.lt
    have E0 : Hid (ExtAt w w1 k1 Z 0 (w1.alloc (.cells C 31))) := by
      refine ⟨G1.out.alloc _, ?_, (Below.refl _ _).alloc (Nat.le_refl _) _⟩
      rw [HZ0.out, HC.out]; exact Blk.new w1 _ _
    go_wp2_with fail
    go_loopw [12] (fun i wr => ∃ j : Nat, j ≤ 32 ∧ i = .int .i64 j ∧ ExtAt w w1 k1 Z j wr) (fun i _ => 32 - (intOf i).toNat)
    case atStart => exact ⟨0, by omega, rfl, E0.out⟩
    case round =>
      clear E0
      obtain ⟨j, hj, rfl, H⟩ := hrel
      by_cases hlt : j < 32
      · have hjl : j < k1.length := by have := NL.out; omega
        obtain ⟨b, off, hA, c0⟩ := (S1.out.below H.2.2).byte j hjl
        have hA1 := Lib.hid hA
        subst hA
        have d0 := H.2.1.byte_at (i := j) (by rw [length_filledTo _ _ (by omega) (by omega)]; omega)
        have f0 := H.2.1.free j
        obtain ⟨x, hx⟩ : ∃ x, k1[j] = x := ⟨_, rfl⟩
        rw [hx] at c0
        have HX := Lib.hid hx
        have HH := Lib.hid H
        clear H hx
        generalize (filledTo k1 j)[j]'_ = y at d0
        have lk : (j : Int) < 64 := by omega
        have lk2 : (j : Int) < 32 := by omega
        go_wp2
        go_roundw
        case rel => exact ⟨j + 1, by omega, by go_num, HH.out.step LT.out hjl (by omega) x HX.out⟩
        case measure => simp [intOf]; omega
      · obtain rfl : j = 32 := by omega
        have HT1 : Hid (Blk wr w1.heap.size R 31) := by
          have h := H.2.1
          rw [← NL.out, filledTo_all, ← HR.out] at h
          exact h
        have HZ := Lib.hid H.1
        have BB := Lib.hid (hop B1.out H.2.2)
        clear H hlt hj
        go_wp2_with (first
          | (refine wpList_load_row rfl 31 (.tmp 3) rfl w1.heap.size rfl 31 R.toArray (0, 0) _ HT1.out Tryd.underlying31 rfl (by rw [info44]; simp [HRL.out]) ?_)
          | (refine wpList_store_row rfl 31 (.tmp 2) (.tmp 22) rfl w.heap.size R.toArray rfl rfl 31 _ HZ.out (by rw [info44]; simp [HRL.out]) (by simp [HRL.out, HZL.out]) HR1.out ?_))
        have HQ := setRow_heap wr w.heap.size _ R.toArray _ _ HZ.out
        exact bodyPost_ret (v := .agg R.toArray) (results_cell_row Tryd.results14 _ _ w.heap.size 31 R.toArray (0, 0) _ rfl HQ Tryd.underlying31 rfl (by rw [info44]; simp [HRL.out])) rfl ⟨rfl, below_setRow BB.out (Nat.le_refl _) _⟩
  · have e1 : k1 = key := by rw [HK.out]; unfold keyL; rw [if_neg hlong]
    subst e1
    go_enter Tryd.func14, Tryd.ntmps14
    go_wp2_with fail
    have S1 : Hid (Seen (w.alloc (.cells C 31)) A k1) := HS.out.below B0.out
    have NL : Hid (k1.length = k1.length) := rfl
    have B1 := B0
    have G1 := G0
    have hsz : (w.alloc (.cells C 31)).heap.size = w.heap.size + 1 := by simp
    rw [← hsz]
    generalize w.alloc (.cells C 31) = w1 at *
    clear hsz
    have LT : Hid (w.heap.size < w1.heap.size) := G1.out.lt
    have E0 : Hid (ExtAt w w1 k1 Z 0 (w1.alloc (.cells C 31))) := by
      refine ⟨G1.out.alloc _, ?_, (Below.refl _ _).alloc (Nat.le_refl _) _⟩
      rw [HZ0.out, HC.out]; exact Blk.new w1 _ _

    go_loopw [12] (fun i wr => ∃ j : Nat, j ≤ k1.length ∧ i = .int .i64 j ∧ ExtAt w w1 k1 Z j wr) (fun i _ => k1.length - (intOf i).toNat)
    case atStart => exact ⟨0, by omega, rfl, E0.out⟩
    case round =>
      clear E0
      obtain ⟨j, hj, rfl, H⟩ := hrel
      by_cases hlt : j < k1.length
      · have hjl : j < k1.length := by have := NL.out; omega
        obtain ⟨b, off, hA, c0⟩ := (S1.out.below H.2.2).byte j hjl
        have hA1 := Lib.hid hA
        subst hA
        have d0 := H.2.1.byte_at (i := j) (by rw [length_filledTo _ _ (by omega) (by omega)]; omega)
        have f0 := H.2.1.free j
        obtain ⟨x, hx⟩ : ∃ x, k1[j] = x := ⟨_, rfl⟩
        rw [hx] at c0
        have HX := Lib.hid hx
        have HH := Lib.hid H
        clear H hx
        generalize (filledTo k1 j)[j]'_ = y at d0
        have lk : (j : Int) < 64 := by omega
        have lk2 : (j : Int) < k1.length := by omega
        go_wp2
        go_roundw
        case rel => exact ⟨j + 1, by omega, by go_num, HH.out.step LT.out hjl (by omega) x HX.out⟩
        case measure => simp [intOf]; omega
      · obtain rfl : j = k1.length := by omega
        have HT1 : Hid (Blk wr w1.heap.size R 31) := by
          have h := H.2.1
          rw [← NL.out, filledTo_all, ← HR.out] at h
          exact h
        have HZ := Lib.hid H.1
        have BB := Lib.hid (hop B1.out H.2.2)
        clear H hlt hj
        go_wp2_with (first
          | (refine wpList_load_row rfl 31 (.tmp 3) rfl w1.heap.size rfl 31 R.toArray (0, 0) _ HT1.out Tryd.underlying31 rfl (by rw [info44]; simp [HRL.out]) ?_)
          | (refine wpList_store_row rfl 31 (.tmp 2) (.tmp 22) rfl w.heap.size R.toArray rfl rfl 31 _ HZ.out (by rw [info44]; simp [HRL.out]) (by simp [HRL.out, HZL.out]) HR1.out ?_))
        have HQ := setRow_heap wr w.heap.size _ R.toArray _ _ HZ.out
        exact bodyPost_ret (v := .agg R.toArray) (results_cell_row Tryd.results14 _ _ w.heap.size 31 R.toArray (0, 0) _ rfl HQ Tryd.underlying31 rfl (by rw [info44]; simp [HRL.out])) rfl ⟨rfl, below_setRow BB.out (Nat.le_refl _) _⟩
end Go.Proofs.YtmmfnfndepijlaaDoor
