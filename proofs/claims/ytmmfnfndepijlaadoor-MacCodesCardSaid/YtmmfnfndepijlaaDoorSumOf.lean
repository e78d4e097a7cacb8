/-
  What the program's sumOf comes to: the sum of the key with the bytes behind it. Conditions: the key has 64 bytes; the bytes' length fits; the program's tables lie as their initialisers lay them.
-/
import Derived.Test.YtmmfnfndepijlaaDoorExt
namespace Go.Proofs.YtmmfnfndepijlaaDoor
open Go.RowKit

theorem Blk.seen {w : World} {g : Nat} {l : List UInt8} {t : TypeId} (h : Blk w g (l.map bv) t) : Seen w (some ⟨g, 0, none⟩) l :=
  .inr ⟨g, 0, rfl, h.lt, fun j hj => by rw [Nat.zero_add]; exact h.byte_at hj⟩
theorem Apart.below {w w' : World} {g : Nat} {A : Option Addr} {l : List UInt8} (h : Apart w g A l) (hb : Below w.heap.size w w') : Apart w' g A l := by
  rcases h with rfl | ⟨b, off, rfl, hlt, hne, hc⟩
  · exact .inl rfl
  · exact .inr ⟨b, off, rfl, by have := hb.size; omega, hne, fun j hj => (hb.cell (p := ⟨b, off + j, none⟩) hlt).trans (hc j hj)⟩
theorem seen_lt {w w' : World} {g : Nat} {A : Option Addr} {l : List UInt8} (h : Seen w A l) (hb : Below w.heap.size w w') (hg : w.heap.size ≤ g) : Apart w' g A l := by
  rcases h with rfl | ⟨b, off, rfl, hlt, hc⟩
  · exact .inl rfl
  · exact .inr ⟨b, off, rfl, by have := hb.size; omega, by omega, fun j hj => (hb.cell (p := ⟨b, off + j, none⟩) hlt).trans (hc j hj)⟩

set_option maxRecDepth 100000 in
set_option maxHeartbeats 400000 in
theorem sumOf_any (k : List UInt8) (A : Option Addr) (b : List UInt8) (c : Nat) (w : World) (hk : k.length = 64) (hs : Seen w A b) (hc : b.length ≤ c) (hn : b.length ≤ 70368744177600) (ht : Tabs w) :
    Calls Tryd.prog 15 #[.agg (k.map bv).toArray, .slice A b.length c] w fun e w' => ∃ A', e = .returned (.slice A' 32 32) ∧ Seen w' A' (shaL (k ++ b)) ∧ Below w.heap.size w w' := by
  have HS := Lib.hid hs
  have HT := Lib.hid ht
  have HK := Lib.hid hk
  clear hs ht hk
  obtain ⟨C, hC⟩ : ∃ C, C = (k.map bv).toArray := ⟨_, rfl⟩
  rw [← hC]
  have B0 : Hid (Below w.heap.size w (w.alloc (.cells C 31))) := (Below.refl _ _).alloc (Nat.le_refl _) _
  have G0 : Hid (Blk (w.alloc (.cells C 31)) w.heap.size (k.map bv) 31) := by show Blk _ _ _ _; rw [hC]; exact Blk.new w _ _
  clear hC
  go_enter Tryd.func15, Tryd.ntmps15
  go_wp2_with fail
  have hsz : (w.alloc (.cells C 31)).heap.size = w.heap.size + 1 := by simp
  have hlt : w.heap.size < (w.alloc (.cells C 31)).heap.size := by simp
  generalize w.alloc (.cells C 31) = w1 at *
  refine (new_any _).mono ?_
  rintro e w2 ⟨rfl, hw2⟩
  have B12 : Hid (Below w1.heap.size w1 w2) := by rw [hw2]; exact (Below.refl _ _).alloc (Nat.le_refl _) _
  have S2 : Hid (StAt w2 w1.heap.size []) := by rw [hw2]; exact new_state
  clear hw2
  have hg2 : 2 ≤ w1.heap.size := by have := HT.out.2.2; omega
  have N2 : Hid (w1.heap.size = w.heap.size + 1) := hsz
  have hgn : w.heap.size ≠ w.heap.size + 1 := by omega
  rw [hsz] at S2 hg2
  go_wp2_with fail
  refine (write_len _ (w.heap.size + 1) [] (some ⟨w.heap.size, 0, none⟩) k 64 64 HK.out S2.out (Apart.of_seen (G0.out.seen.below B12.out) (fun b off e => by injection e with e; injection e with e _ _; omega)) (Nat.le_refl _) (by simp) (HT.out.below (hop B0.out B12.out)) hg2).mono ?_
  rintro e w3 ⟨rfl, hst3, hg3⟩
  rw [List.nil_append] at hst3
  have S3 := Lib.hid hst3
  have B3 : Hid (Below w1.heap.size w1 w3) := below_only B12.out (by exact hg3) (by rw [hsz]; exact Nat.le_refl _)
  clear hst3 hg3 S2 B12
  go_wp2_with fail
  refine (write_any _ (w.heap.size + 1) k A b c S3.out (seen_lt (HS.out.below B0.out) B3.out (by rw [hsz]; exact Nat.le_refl _)) hc (by rw [HK.out]; omega) (HT.out.below (hop B0.out B3.out)) hg2).mono ?_
  rintro e w4 ⟨rfl, hst4, hg4⟩
  have S4 := Lib.hid hst4
  have B4 : Hid (Below w1.heap.size w1 w4) := below_only B3.out hg4 (by rw [hsz]; exact Nat.le_refl _)
  clear hst4 hg4 S3 B3
  go_wp2_with fail
  refine (stateSum_any _ (w.heap.size + 1) (k ++ b) S4.out (HT.out.below (hop B0.out B4.out)) (by rw [List.length_append, HK.out]; omega)).mono ?_
  rintro e w5 ⟨A', rfl, hs5, hb5⟩
  have S5 := Lib.hid hs5
  have B5 := Lib.hid (hop (hop B0.out B4.out) hb5)
  clear hs5 hb5
  go_wp2_with fail
  go_ret
  exact ⟨A', rfl, S5.out, B5.out⟩
end Go.Proofs.YtmmfnfndepijlaaDoor
