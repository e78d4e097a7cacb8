/-
  What the program's masked comes to: each byte of the key, its exclusive or with the mask. Condition: the key has 64 bytes.
-/
import Derived.Test.YtmmfnfndepijlaaDoorMacL
import Derived.Test.YtmmfnfndepijlaaDoorSched
namespace Go.Proofs.YtmmfnfndepijlaaDoor
open Go.RowKit

theorem zero64 (w : World) : (zeroValue 31).run Tryd.prog w = .ok (.agg ((List.replicate 64 (0 : UInt8)).map bv).toArray) w := by kernel_rfl
theorem bits_xor8 (a b : UInt8) : bits .xor .u8 (a.toNat : Int) (b.toNat : Int) = ((a ^^^ b).toNat : Int) := by
  rw [u8_xor_nat _ _ a.toNat_lt b.toNat_lt, UInt8.toNat_xor]
theorem Blk.byte_at {w : World} {g i : Nat} {b : List UInt8} {t : TypeId} (h : Blk w g (b.map bv) t) (hi : i < b.length) : w.cell? ⟨g, i, none⟩ = some (.int .u8 (b[i].toNat : Int)) := by
  rw [h.cell (by simpa using hi), List.getElem_map]; rfl

theorem Seen.byte {w : World} {A : Option Addr} {l : List UInt8} (h : Seen w A l) (k : Nat) (hk : k < l.length) : ∃ b off, A = some ⟨b, off, none⟩ ∧ w.cell? ⟨b, off + k, none⟩ = some (.int .u8 (l[k].toNat : Int)) := by
  obtain ⟨b, off, h1, _, h2⟩ := h.at_ hk
  exact ⟨b, off, h1, h2⟩

def MaskAt (w : World) (m : UInt8) (l Z : List UInt8) (k : Nat) (wr : World) : Prop :=
  Blk wr w.heap.size ((maskedTo m l k).map bv) 31 ∧ Blk wr (w.heap.size + 1) (Z.map bv) 31 ∧ Below w.heap.size w wr
theorem mask_start (w : World) (m : UInt8) (l Z : List UInt8) : MaskAt w m l Z 0 ((w.alloc (.cells (l.map bv).toArray 31)).alloc (.cells (Z.map bv).toArray 31)) := by
  refine ⟨by rw [maskedTo_zero]; exact (Blk.new w _ _).alloc _, ?_, ((Below.refl _ _).alloc (Nat.le_refl _) _).alloc (by simp) _⟩
  have := Blk.new (w.alloc (.cells (l.map bv).toArray 31)) (Z.map bv) 31
  simpa using this
theorem MaskAt.step {w wr : World} {m : UInt8} {l Z : List UInt8} {k : Nat} (H : MaskAt w m l Z k wr) (hk : k < l.length) (c : UInt8) (hc : l[k] = c) (v : Int) (hv : v = ((c ^^^ m).toNat : Int)) :
    MaskAt w m l Z (k + 1) (wr.setCell ⟨w.heap.size, k, none⟩ (.int .u8 v)) := by
  subst hv hc
  obtain ⟨h1, h2, h3⟩ := H
  refine ⟨?_, h2.other _ _ (by show w.heap.size + 1 ≠ w.heap.size; omega), h3.setCell (Nat.le_refl _) _⟩
  rw [← maskedTo_next m l k hk, List.map_set]
  exact h1.set k _

set_option maxRecDepth 100000 in
set_option maxHeartbeats 1000000 in
theorem masked_any (l : List UInt8) (m : UInt8) (w : World) (hl : l.length = 64) :
    Calls Tryd.prog 16 #[.agg (l.map bv).toArray, .int .u8 (m.toNat : Int)] w fun e w' => e = .returned (.agg ((xorL m l).map bv).toArray) ∧ Below w.heap.size w w' := by
  have HL := Lib.hid hl
  clear hl
  have z := zero64
  have HZL : Hid ((List.replicate 64 (0 : UInt8)).length = 64) := List.length_replicate
  generalize List.replicate 64 (0 : UInt8) = Z at z HZL
  have HS := Lib.hid (mask_start w m l Z)
  obtain ⟨C, hC⟩ : ∃ C, C = (l.map bv).toArray := ⟨_, rfl⟩
  rw [← hC] at HS ⊢
  clear hC
  obtain ⟨C1, hC1⟩ : ∃ C1, C1 = (Z.map bv).toArray := ⟨_, rfl⟩
  rw [← hC1] at HS z
  clear hC1
  have hm := m.toNat_lt
  obtain ⟨R, hR⟩ : ∃ R, R = (xorL m l).map bv := ⟨_, rfl⟩
  rw [← hR]
  have HR := Lib.hid hR
  clear hR
  go_enter Tryd.func16, Tryd.ntmps16
  go_wp2
  go_loopw [6] (fun i wr => ∃ k : Nat, k ≤ 64 ∧ i = .int .i64 k ∧ MaskAt w m l Z k wr) (fun i _ => 64 - (intOf i).toNat)
  case atStart => exact ⟨0, by omega, rfl, HS.out⟩
  case round =>
    clear HS
    obtain ⟨k, hk, rfl, H⟩ := hrel
    by_cases hlt : k < 64
    · have hkl : k < l.length := by rw [HL.out]; exact hlt
      have c0 := H.1.byte_at (i := k) (by rw [length_maskedTo]; exact hkl)
      rw [maskedTo_get m l k hkl] at c0
      have f0 := H.1.free k
      obtain ⟨c, hc⟩ : ∃ c, l[k] = c := ⟨_, rfl⟩
      rw [hc] at c0
      have HC := Lib.hid hc
      have HH := Lib.hid H
      clear H hc
      have hc8 := c.toNat_lt
      have lk : (k : Int) < 64 := by omega
      go_wp2
      go_roundw
      case rel => exact ⟨k + 1, by omega, by go_num, HH.out.step hkl c HC.out _ (bits_xor8 c m)⟩
      case measure => simp [intOf]; omega
    · obtain rfl : k = 64 := by omega
      have HT : Hid (Blk wr w.heap.size R 31) := by
        have h := H.1
        rw [← HL.out, maskedTo_all, ← HR.out] at h
        exact h
      have HZ := Lib.hid H.2.1
      have BB := Lib.hid H.2.2
      have HRL : Hid (R.length = 64) := by show _ = _; rw [HR.out, List.length_map, length_xorL, HL.out]
      have HR1 : Hid (R.toArray.all (·.oneCell') = true) := by show _ = _; rw [HR.out]; exact bv_one _
      clear H hlt hk
      go_wp2_with (first
        | (refine wpList_load_row rfl 31 (.tmp 2) rfl w.heap.size rfl 31 R.toArray (0, 0) _ HT.out Tryd.underlying31 rfl (by rw [info44]; simp [HRL.out]) ?_)
        | (refine wpList_store_row rfl 31 (.tmp 4) (.tmp 16) rfl (w.heap.size + 1) R.toArray rfl rfl 31 _ HZ.out (by rw [info44]; simp [HRL.out]) (by simp [HRL.out, HZL.out]) HR1.out ?_))
      have HQ := setRow_heap wr (w.heap.size + 1) _ R.toArray _ _ HZ.out
      exact bodyPost_ret (v := .agg R.toArray) (results_cell_row Tryd.results16 _ _ (w.heap.size + 1) 31 R.toArray (0, 0) _ rfl HQ Tryd.underlying31 rfl (by rw [info44]; simp [HRL.out])) rfl ⟨rfl, below_setRow BB.out (by omega) _⟩
end Go.Proofs.YtmmfnfndepijlaaDoor
