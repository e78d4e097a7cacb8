/-
  The statement ShaConstants: the constants, and what a sum begins with, are what the document says; what was told can be changed without a change of any. Condition: the row's own.
-/
import Derived.Test.YtoajhpbcpbaiiaaDoorShaHelp
import Derived.Test.YtoajhpbcpbaiiaaDoorRefTabs
namespace Go.Proofs.YtoajhpbcpbaiiaaDoor
open Go.RowKit

theorem words_make8 (w : World) : (Instr.makeSlice 24 (.int .i64 8) (.int .i64 8)).run Tryd.prog w = .ok (.slice (some ⟨w.heap.size, 0, none⟩) 8 8) (w.alloc (.cells ((padw 8 []).map wv).toArray 22)) := by kernel_rfl
theorem words_make64 (w : World) : (Instr.makeSlice 24 (.int .i64 64) (.int .i64 64)).run Tryd.prog w = .ok (.slice (some ⟨w.heap.size, 0, none⟩) 64 64) (w.alloc (.cells ((padw 64 []).map wv).toArray 22)) := by kernel_rfl
/-- a table, as far as it was laid out -/
def TabAt (n : Nat) (T : List Nat) (w : World) (k : Nat) (wr : World) : Prop := Blk wr w.heap.size ((padw n (T.take k)).map wv) 22 ∧ Below w.heap.size w wr
theorem take_next (T : List Nat) (k : Nat) (hk : k < T.length) : T.take (k + 1) = T.take k ++ [T.getD k 0] ∧ (T.take k).length = k := by
  rw [List.take_succ_eq_append_getElem hk, List.getD_eq_getElem?_getD, List.getElem?_eq_getElem hk, List.length_take]
  exact ⟨rfl, by omega⟩
theorem TabAt.step {n : Nat} {T : List Nat} {w wr : World} {k : Nat} (H : TabAt n T w k wr) (hT : T.length = n) (hk : k < n) : TabAt n T w (k + 1) (wr.setCell ⟨w.heap.size, k, none⟩ (.int .u32 (T.getD k 0 : Nat))) := by
  obtain ⟨h2, h3⟩ := H
  refine ⟨?_, h3.setCell (Nat.le_refl _) _⟩
  have hn := take_next T k (by omega)
  have := h2.set k (.int .u32 ((T.getD k 0 : Nat) : Int))
  rw [padw_map_set (T.getD k 0) (by rw [hn.2]; exact hk) k hn.2, ← hn.1] at this
  exact this
theorem tab_start (n : Nat) (T : List Nat) (w : World) : TabAt n T w 0 (w.alloc (.cells ((padw n []).map wv).toArray 22)) :=
  ⟨Blk.new w _ _, (Below.refl _ _).alloc (Nat.le_refl _) _⟩
theorem tab_end {n : Nat} {T : List Nat} {w wr : World} (H : TabAt n T w n wr) (hT : T.length = n) : Blk wr w.heap.size (T.map wv) 22 := by
  have h := H.1
  rw [List.take_of_length_le (Nat.le_of_eq hT), padw_full hT] at h
  exact h

set_option maxRecDepth 100000 in
theorem start_any (w : World) (ht : Tabs w) : Calls Tryd.prog 9 #[] w fun e w' => e = .returned (.slice (some ⟨w.heap.size, 0, none⟩) 8 8) ∧ Blk w' w.heap.size (H0.map wv) 22 ∧ Below w.heap.size w w' := by
  have hmk := words_make8
  have HST := Lib.hid (tab_start 8 H0 w)
  have HT := Lib.hid ht
  clear ht
  generalize ((padw 8 []).map wv).toArray = Z at hmk HST
  go_enter Tryd.func9, Tryd.ntmps9
  go_wp2
  clear hmk
  go_loopw [4] (fun i wr => ∃ k : Nat, k ≤ 8 ∧ i = .int .i64 k ∧ TabAt 8 H0 w k wr) (fun i _ => 8 - (intOf i).toNat)
  case atStart => exact ⟨0, by omega, rfl, HST.out⟩
  case round =>
    clear HST
    obtain ⟨k, hk, rfl, H⟩ := hrel
    by_cases hlt : k < 8
    · have lk : (k : Int) < 8 := by omega
      have c1 := (HT.out.below H.2).2.1 k hlt
      have d0 := H.1.word (i := k) (by rw [length_padw (by simp; omega)]; omega)
      have f0 := H.1.free k
      have HH := Lib.hid (H.step (T := H0) rfl hlt)
      clear H
      generalize H0.getD k 0 = x at *
      go_wp2
      go_roundw
      case rel => exact ⟨k + 1, by omega, by go_num, HH.out⟩
      case measure => simp [intOf]; omega
    · obtain rfl : k = 8 := by omega
      have HE := Lib.hid (tab_end H rfl)
      have BB := Lib.hid H.2
      clear H
      go_wp2
      go_ret
      exact ⟨rfl, HE.out, BB.out⟩
set_option maxRecDepth 100000 in
theorem constants_any (w : World) (ht : Tabs w) : Calls Tryd.prog 8 #[] w fun e w' => e = .returned (.slice (some ⟨w.heap.size, 0, none⟩) 64 64) ∧ Blk w' w.heap.size (K0.map wv) 22 ∧ Below w.heap.size w w' := by
  have hmk := words_make64
  have HST := Lib.hid (tab_start 64 K0 w)
  have HT := Lib.hid ht
  clear ht
  generalize ((padw 64 []).map wv).toArray = Z at hmk HST
  go_enter Tryd.func8, Tryd.ntmps8
  go_wp2
  clear hmk
  go_loopw [4] (fun i wr => ∃ k : Nat, k ≤ 64 ∧ i = .int .i64 k ∧ TabAt 64 K0 w k wr) (fun i _ => 64 - (intOf i).toNat)
  case atStart => exact ⟨0, by omega, rfl, HST.out⟩
  case round =>
    clear HST
    obtain ⟨k, hk, rfl, H⟩ := hrel
    by_cases hlt : k < 64
    · have lk : (k : Int) < 64 := by omega
      have c1 := (HT.out.below H.2).1 k hlt
      have d0 := H.1.word (i := k) (by rw [length_padw (by simp; omega)]; omega)
      have f0 := H.1.free k
      have HH := Lib.hid (H.step (T := K0) rfl hlt)
      clear H
      generalize K0.getD k 0 = x at *
      go_wp2
      go_roundw
      case rel => exact ⟨k + 1, by omega, by go_num, HH.out⟩
      case measure => simp [intOf]; omega
    · obtain rfl : k = 64 := by omega
      have HE := Lib.hid (tab_end H rfl)
      have BB := Lib.hid H.2
      clear H
      go_wp2
      go_ret
      exact ⟨rfl, HE.out, BB.out⟩

/-- two lists of words that are the same -/
theorem same_any (ga gb : Nat) (T : List Nat) (n : Nat) (w : World) (hT : T.length = n) (hn : n ≤ 64) (ha : Blk w ga (T.map wv) 22) (hb : Blk w gb (T.map wv) 22) :
    Calls Tryd.prog 10 #[.slice (some ⟨ga, 0, none⟩) n n, .slice (some ⟨gb, 0, none⟩) n n] w fun e w' => e = .returned (.bool true) ∧ ∃ m, w' = w.drewN m := by
  have HA := Lib.hid ha
  have HB := Lib.hid hb
  have HT := Lib.hid hT
  have hnn : ((n : Int) != (n : Int)) = false := by simp
  clear ha hb hT
  go_enter Tryd.func10, Tryd.ntmps10
  go_wp2
  clear hnn
  go_loopw [5] (fun i wr => ∃ k m : Nat, k ≤ n ∧ i = .int .i64 k ∧ wr = w.drewN m) (fun i _ => n - (intOf i).toNat)
  case atStart => exact ⟨0, 0, by omega, rfl, rfl⟩
  case round =>
    obtain ⟨k, m, hk, rfl, rfl⟩ := hrel
    by_cases hlt : k < n
    · have c1 := HA.out.word (i := k) (by rw [HT.out]; exact hlt)
      have c2 := HB.out.word (i := k) (by rw [HT.out]; exact hlt)
      generalize T.getD k 0 = x at *
      have hx : ((x : Int) != (x : Int)) = false := by simp
      have lk : (k : Int) < (n : Int) := by omega
      go_wp2
      go_region
      go_wp2
      go_roundw
      case rel => exact ⟨k + 1, m + 1, by omega, by go_num, rfl⟩
      case measure => simp [intOf]; omega
    · go_wp2
      go_ret
      exact ⟨rfl, m, rfl⟩
theorem below_of_drewN {w w' : World} {m : Nat} (h : w' = w.drewN m) : Below w.heap.size w w' := by rw [h]; exact below_drewN (Below.refl _ _) m
theorem same_below (ga gb : Nat) (T : List Nat) (n : Nat) (w : World) (hT : T.length = n) (hn : n ≤ 64) (ha : Blk w ga (T.map wv) 22) (hb : Blk w gb (T.map wv) 22) :
    Calls Tryd.prog 10 #[.slice (some ⟨ga, 0, none⟩) n n, .slice (some ⟨gb, 0, none⟩) n n] w fun e w' => e = .returned (.bool true) ∧ Below w.heap.size w w' :=
  (same_any ga gb T n w hT hn ha hb).mono fun _ _ ⟨h, _, hm⟩ => ⟨h, below_of_drewN hm⟩

/-- the statement's second half: the tables are told anew -/
theorem told_again (w W : World) (B : Below w.heap.size w W) (ht : Tabs w) : Tabs W := ht.below B

set_option maxRecDepth 100000 in
set_option maxHeartbeats 1000000 in
theorem shaConstants_walk (a0 a1 : Int) (w : World) (_ : -9223372036854775808 ≤ a0) (_ : a0 ≤ 9223372036854775807) (_ : 0 ≤ a1) (_ : a1 ≤ 4294967295) (ht : Tabs w) :
    Calls Tryd.prog 3 #[.int .i64 a0, .int .u32 a1] w fun e w' => e = .returned (.bool true) ∧ Below w.heap.size w w' := by
  have HT := Lib.hid ht
  clear ht
  go_enter Tryd.func3, Tryd.ntmps3
  go_wp2_with fail
  refine (awake_any _ HT.out).mono ?_
  rintro e w1 ⟨rfl, hb1⟩
  have B1 := Lib.hid hb1
  clear hb1
  go_wp2_with fail
  refine (constants_any _ (HT.out.below B1.out)).mono ?_
  rintro e w2 ⟨rfl, hk2, hb2⟩
  have K2 := Lib.hid hk2
  have B2 := Lib.hid (hop B1.out hb2)
  have hzk : w.heap.size ≤ w1.heap.size := B1.out.size
  clear hk2 hb2
  generalize w1.heap.size = gk at *
  clear B1 w1
  go_wp2_with fail
  refine (start_any _ (HT.out.below B2.out)).mono ?_
  rintro e w3 ⟨rfl, hs3, hb3⟩
  have S3 := Lib.hid hs3
  have K3 := Lib.hid (K2.out.below hb3 K2.out.lt)
  have B3 := Lib.hid (hop B2.out hb3)
  have hzs : w.heap.size ≤ w2.heap.size := B2.out.size
  have hks : gk < w2.heap.size := K2.out.lt
  clear hs3 hb3 K2
  generalize w2.heap.size = gs at *
  clear B2 w2
  go_wp2_with fail
  refine (refConstants_any _).mono ?_
  rintro e w4 ⟨rfl, hw4⟩
  have b4 : Below w3.heap.size w3 w4 := by rw [hw4]; exact (Below.refl _ _).alloc (Nat.le_refl _) _
  have R4 : Hid (Blk w4 w3.heap.size (K0.map wv) 22) := by rw [hw4]; exact Blk.new _ _ _
  have K4 := Lib.hid (K3.out.below b4 K3.out.lt)
  have S4 := Lib.hid (S3.out.below b4 S3.out.lt)
  have B4 := Lib.hid (hop B3.out b4)
  clear hw4 b4 K3 S3 B3
  go_wp2_with fail
  refine (same_below _ _ K0 64 _ rfl (by omega) K4.out R4.out).mono ?_
  rintro e w5 ⟨rfl, b5⟩
  have K5 := Lib.hid (K4.out.below b5 K4.out.lt)
  have S5 := Lib.hid (S4.out.below b5 S4.out.lt)
  have B5 := Lib.hid (hop B4.out b5)
  clear b5 K4 S4 R4 B4
  go_wp2_with fail
  refine (refStart_any _).mono ?_
  rintro e w6 ⟨rfl, hw6⟩
  have b6 : Below w5.heap.size w5 w6 := by rw [hw6]; exact (Below.refl _ _).alloc (Nat.le_refl _) _
  have R6 : Hid (Blk w6 w5.heap.size (H0.map wv) 22) := by rw [hw6]; exact Blk.new _ _ _
  have K6 := Lib.hid (K5.out.below b6 K5.out.lt)
  have S6 := Lib.hid (S5.out.below b6 S5.out.lt)
  have B6 := Lib.hid (hop B5.out b6)
  clear hw6 b6 K5 S5 B5
  go_wp2_with fail
  refine (same_below _ _ H0 8 _ rfl (by omega) S6.out R6.out).mono ?_
  rintro e w7 ⟨rfl, b7⟩
  have K7 := Lib.hid (K6.out.below b7 K6.out.lt)
  have S7 := Lib.hid (S6.out.below b7 S6.out.lt)
  have B7 := Lib.hid (hop B6.out b7)
  clear b7 K6 S6 R6 B6
  by_cases hin : 0 ≤ a0 ∧ a0 < 8
  · obtain ⟨j, rfl⟩ := Int.eq_ofNat_of_zero_le hin.1
    have hj : j < 8 := by omega
    have hj0 : (0 : Int) ≤ (j : Int) := by omega
    have hj8 : (j : Int) < 8 := by omega
    have hj64 : (j : Int) < 64 := by omega
    clear hin
    have c1 := K7.out.word (i := j) (by show j < 64; omega)
    have f1 := K7.out.free j
    have HNE : Hid (gs ≠ gk) := by show _ ≠ _; omega
    have S8 := Lib.hid (S7.out.other ⟨gk, j, none⟩ (.int .u32 a1) HNE.out)
    have c2 := S8.out.word (i := j) (by show j < 8; omega)
    have f2 := S8.out.free j
    have B8 : Hid (Below w.heap.size w ((w7.setCell ⟨gk, j, none⟩ (.int .u32 a1)).setCell ⟨gs, j, none⟩ (.int .u32 a1))) := (B7.out.setCell hzk _).setCell hzs _
    clear K7 S7 S8 B7
    go_wp2_with fail
    refine (constants_any _ (HT.out.below B8.out)).mono ?_
    rintro e w9 ⟨rfl, hk9, hb9⟩
    rw [show ((w7.setCell ⟨gk, j, none⟩ (.int .u32 a1)).setCell ⟨gs, j, none⟩ (.int .u32 a1)).heap.size = w7.heap.size from by simp] at hk9
    have K9 := Lib.hid hk9
    have B9 := Lib.hid (hop B8.out hb9)
    clear hk9 hb9
    go_wp2_with fail
    refine (refConstants_any _).mono ?_
    rintro e w10 ⟨rfl, hw10⟩
    have b10 : Below w9.heap.size w9 w10 := by rw [hw10]; exact (Below.refl _ _).alloc (Nat.le_refl _) _
    have R10 : Hid (Blk w10 w9.heap.size (K0.map wv) 22) := by rw [hw10]; exact Blk.new _ _ _
    have K10 := Lib.hid (K9.out.below b10 K9.out.lt)
    have B10 := Lib.hid (hop B9.out b10)
    clear hw10 b10 K9 B9
    go_wp2_with fail
    refine (same_below _ _ K0 64 _ rfl (by omega) K10.out R10.out).mono ?_
    rintro e w11 ⟨rfl, b11⟩
    have B11 := Lib.hid (hop B10.out b11)
    clear b11 K10 R10 B10
    go_wp2_with fail
    refine (start_any _ (HT.out.below B11.out)).mono ?_
    rintro e w12 ⟨rfl, hk12, hb12⟩
    have K12 := Lib.hid hk12
    have B12 := Lib.hid (hop B11.out hb12)
    clear hk12 hb12
    go_wp2_with fail
    refine (refStart_any _).mono ?_
    rintro e w13 ⟨rfl, hw13⟩
    have b13 : Below w12.heap.size w12 w13 := by rw [hw13]; exact (Below.refl _ _).alloc (Nat.le_refl _) _
    have R13 : Hid (Blk w13 w12.heap.size (H0.map wv) 22) := by rw [hw13]; exact Blk.new _ _ _
    have K13 := Lib.hid (K12.out.below b13 K12.out.lt)
    have B13 := Lib.hid (hop B12.out b13)
    clear hw13 b13 K12 B12
    go_wp2_with fail
    refine (same_below _ _ H0 8 _ rfl (by omega) K13.out R13.out).mono ?_
    rintro e w14 ⟨rfl, b14⟩
    have B14 := Lib.hid (hop B13.out b14)
    clear b14 K13 R13 B13
    go_wp2_with fail
    refine (awake_any _ (HT.out.below B14.out)).mono ?_
    rintro e w15 ⟨rfl, b15⟩
    have B15 := Lib.hid (hop B14.out b15)
    clear b15
    go_wp2_with fail
    go_ret
    exact ⟨rfl, B15.out⟩
  · have B8 := B7
    clear K7 S7 B7
    by_cases h0 : 0 ≤ a0
    · have h8 : ¬ a0 < 8 := by omega
      clear hin
      go_wp2_with fail
      refine (constants_any _ (HT.out.below B8.out)).mono ?_
      rintro e w9 ⟨rfl, hk9, hb9⟩
      have K9 := Lib.hid hk9
      have B9 := Lib.hid (hop B8.out hb9)
      clear hk9 hb9
      go_wp2_with fail
      refine (refConstants_any _).mono ?_
      rintro e w10 ⟨rfl, hw10⟩
      have b10 : Below w9.heap.size w9 w10 := by rw [hw10]; exact (Below.refl _ _).alloc (Nat.le_refl _) _
      have R10 : Hid (Blk w10 w9.heap.size (K0.map wv) 22) := by rw [hw10]; exact Blk.new _ _ _
      have K10 := Lib.hid (K9.out.below b10 K9.out.lt)
      have B10 := Lib.hid (hop B9.out b10)
      clear hw10 b10 K9 B9
      go_wp2_with fail
      refine (same_below _ _ K0 64 _ rfl (by omega) K10.out R10.out).mono ?_
      rintro e w11 ⟨rfl, b11⟩
      have B11 := Lib.hid (hop B10.out b11)
      clear b11 K10 R10 B10
      go_wp2_with fail
      refine (start_any _ (HT.out.below B11.out)).mono ?_
      rintro e w12 ⟨rfl, hk12, hb12⟩
      have K12 := Lib.hid hk12
      have B12 := Lib.hid (hop B11.out hb12)
      clear hk12 hb12
      go_wp2_with fail
      refine (refStart_any _).mono ?_
      rintro e w13 ⟨rfl, hw13⟩
      have b13 : Below w12.heap.size w12 w13 := by rw [hw13]; exact (Below.refl _ _).alloc (Nat.le_refl _) _
      have R13 : Hid (Blk w13 w12.heap.size (H0.map wv) 22) := by rw [hw13]; exact Blk.new _ _ _
      have K13 := Lib.hid (K12.out.below b13 K12.out.lt)
      have B13 := Lib.hid (hop B12.out b13)
      clear hw13 b13 K12 B12
      go_wp2_with fail
      refine (same_below _ _ H0 8 _ rfl (by omega) K13.out R13.out).mono ?_
      rintro e w14 ⟨rfl, b14⟩
      have B14 := Lib.hid (hop B13.out b14)
      clear b14 K13 R13 B13
      go_wp2_with fail
      refine (awake_any _ (HT.out.below B14.out)).mono ?_
      rintro e w15 ⟨rfl, b15⟩
      have B15 := Lib.hid (hop B14.out b15)
      clear b15
      go_wp2_with fail
      go_ret
      exact ⟨rfl, B15.out⟩
    · clear hin
      go_wp2_with fail
      refine (constants_any _ (HT.out.below B8.out)).mono ?_
      rintro e w9 ⟨rfl, hk9, hb9⟩
      have K9 := Lib.hid hk9
      have B9 := Lib.hid (hop B8.out hb9)
      clear hk9 hb9
      go_wp2_with fail
      refine (refConstants_any _).mono ?_
      rintro e w10 ⟨rfl, hw10⟩
      have b10 : Below w9.heap.size w9 w10 := by rw [hw10]; exact (Below.refl _ _).alloc (Nat.le_refl _) _
      have R10 : Hid (Blk w10 w9.heap.size (K0.map wv) 22) := by rw [hw10]; exact Blk.new _ _ _
      have K10 := Lib.hid (K9.out.below b10 K9.out.lt)
      have B10 := Lib.hid (hop B9.out b10)
      clear hw10 b10 K9 B9
      go_wp2_with fail
      refine (same_below _ _ K0 64 _ rfl (by omega) K10.out R10.out).mono ?_
      rintro e w11 ⟨rfl, b11⟩
      have B11 := Lib.hid (hop B10.out b11)
      clear b11 K10 R10 B10
      go_wp2_with fail
      refine (start_any _ (HT.out.below B11.out)).mono ?_
      rintro e w12 ⟨rfl, hk12, hb12⟩
      have K12 := Lib.hid hk12
      have B12 := Lib.hid (hop B11.out hb12)
      clear hk12 hb12
      go_wp2_with fail
      refine (refStart_any _).mono ?_
      rintro e w13 ⟨rfl, hw13⟩
      have b13 : Below w12.heap.size w12 w13 := by rw [hw13]; exact (Below.refl _ _).alloc (Nat.le_refl _) _
      have R13 : Hid (Blk w13 w12.heap.size (H0.map wv) 22) := by rw [hw13]; exact Blk.new _ _ _
      have K13 := Lib.hid (K12.out.below b13 K12.out.lt)
      have B13 := Lib.hid (hop B12.out b13)
      clear hw13 b13 K12 B12
      go_wp2_with fail
      refine (same_below _ _ H0 8 _ rfl (by omega) K13.out R13.out).mono ?_
      rintro e w14 ⟨rfl, b14⟩
      have B14 := Lib.hid (hop B13.out b14)
      clear b14 K13 R13 B13
      go_wp2_with fail
      refine (awake_any _ (HT.out.below B14.out)).mono ?_
      rintro e w15 ⟨rfl, b15⟩
      have B15 := Lib.hid (hop B14.out b15)
      clear b15
      go_wp2_with fail
      go_ret
      exact ⟨rfl, B15.out⟩
end Go.Proofs.YtoajhpbcpbaiiaaDoor
