/-
  The calls of a disk, whatever is asked: what they answer and what they leave, as functions of the disk. Conditions: as each says (fewer than 2^62 calls, at most 1,000,000 writes in the cache).
-/
import Derived.Test.YtkbjhnlihnakkaaDkWrite
import Derived.Test.YtkbjhnlihnakkaaDkCrash
namespace Go.Proofs.Ytkbjhnlihnakkaa
open Go.RowKit

namespace Dsk
def werr (s : Dsk) (i : Int) (n : Nat) : Int := if (0 ≤ i ∧ i < s.K.length) ∧ n = 64 then (if s.off then 5 else 0) else 1
def wput (s : Dsk) (i : Int) (l : List UInt8) : Dsk := if s.werr i l.length = 0 then s.write i.toNat l else s
def sput (s : Dsk) : Dsk := if s.off then s else s.sync
/-- few calls, few writes in the cache -/
def Few (s : Dsk) (n : Nat) : Prop := s.calls ≤ n ∧ s.M.length ≤ n ∧ s.left < 9223372036854775808
theorem werr_zero {s : Dsk} {i : Int} {n : Nat} : s.werr i n = 0 ↔ (0 ≤ i ∧ i < s.K.length) ∧ n = 64 ∧ s.off = false := by
  unfold werr
  by_cases h : (0 ≤ i ∧ i < s.K.length) ∧ n = 64
  · rw [if_pos h]
    cases hs : s.off <;> simp [h]
  · rw [if_neg h]
    constructor
    · intro h; cases h
    · intro h'; exact absurd ⟨h'.1, h'.2.1⟩ h
theorem Few.wput {s : Dsk} {n : Nat} (h : s.Few n) (i : Int) (l : List UInt8) : (s.wput i l).Few (n + 1) := by
  unfold Dsk.wput
  split
  · refine ⟨Nat.succ_le_succ h.1, ?_, ?_⟩
    · show (s.M ++ [_]).length ≤ _; rw [List.length_append]; exact Nat.succ_le_succ h.2.1
    · show s.left - 1 < _; have := h.2.2; omega
  · exact ⟨Nat.le_succ_of_le h.1, Nat.le_succ_of_le h.2.1, h.2.2⟩
theorem Few.sput {s : Dsk} {n : Nat} (h : s.Few n) : s.sput.Few (n + 1) := by
  unfold Dsk.sput
  split
  · exact ⟨Nat.le_succ_of_le h.1, Nat.le_succ_of_le h.2.1, h.2.2⟩
  · exact ⟨Nat.succ_le_succ h.1, Nat.zero_le _, by show s.left - 1 < _; have := h.2.2; omega⟩
theorem Few.crash {s : Dsk} {n : Nat} (h : s.Few n) (p : Nat → Bool) : (s.crash p).Few n := ⟨h.1, Nat.zero_le _, by show 0 < _; decide⟩
theorem Few.arm {s : Dsk} {n : Nat} (h : s.Few n) (z : Int) (hz : z ≤ 9223372036854775807) : (s.arm z).Few n := by
  unfold Dsk.arm
  split
  · exact h
  · exact ⟨h.1, h.2.1, by show z.toNat < _; omega⟩
theorem Few.mono {s : Dsk} {n m : Nat} (h : s.Few n) (hm : n ≤ m) : s.Few m := ⟨Nat.le_trans h.1 hm, Nat.le_trans h.2.1 hm, h.2.2⟩
theorem Few.new (k : Nat) : (Dsk.new k).Few 0 := ⟨Nat.le_refl _, Nat.le_refl _, by show 0 < _; decide⟩
theorem klen_wput (s : Dsk) (i : Int) (l : List UInt8) : (s.wput i l).K.length = s.K.length := by unfold wput; split <;> rfl
theorem klen_sput (s : Dsk) : s.sput.K.length = s.K.length := by
  unfold sput
  split
  · rfl
  · exact kept_length _ _ _ _
theorem klen_arm (s : Dsk) (n : Int) : (s.arm n).K.length = s.K.length := by unfold arm; split <;> rfl
end Dsk

theorem write_all (w : World) (g : Nat) (F : Nat → Prop) (s : Dsk) (i : Int) (A : Option Addr) (l : List UInt8) (n c : Nat) (h : DiskAt w g F s) (hl : l.length = n) (hn : n ≤ 9223372036854775807) (hs : Seen w A l) (hf : s.Few 1000000) :
    Calls Try.prog 67 #[.pointer (some ⟨g, 0, none⟩), .int .i64 i, .slice A n c] w fun e w' => e = .returned (.int .i64 (s.werr i n)) ∧ Moved w g F (s.wput i l) w' := by
  by_cases h0 : (0 ≤ i ∧ i < s.K.length) ∧ n = 64
  · obtain ⟨h0, rfl⟩ := h0
    by_cases ho : s.off = true
    · have e1 : s.werr i 64 = 5 := by unfold Dsk.werr; rw [if_pos ⟨h0, rfl⟩, if_pos ho]
      have e2 : s.wput i l = s := by unfold Dsk.wput; rw [hl, e1]; rfl
      rw [e1, e2]
      refine (write_off w g F s i A c h h0 ho).mono ?_
      rintro e w' ⟨rfl, rfl⟩
      exact ⟨rfl, .still h (Below.refl _ _)⟩
    · have ho' : s.off = false := by cases hs : s.off <;> simp_all
      have e1 : s.werr i 64 = 0 := by unfold Dsk.werr; rw [if_pos ⟨h0, rfl⟩, if_neg ho]
      have e2 : s.wput i l = s.write i.toNat l := by unfold Dsk.wput; rw [hl, e1]; rfl
      rw [e1, e2]
      obtain ⟨k, rfl⟩ : ∃ k : Nat, i = (k : Int) := ⟨i.toNat, by omega⟩
      exact write_any w g F s k A l c h (by omega) ho' hl hs (by have := hf.1; omega) hf.2.2 hf.2.1
  · have e1 : s.werr i n = 1 := by unfold Dsk.werr; rw [if_neg h0]
    have e2 : s.wput i l = s := by unfold Dsk.wput; rw [hl, e1]; rfl
    rw [e1, e2]
    refine (write_arg w g F s i A n c h hn h0).mono ?_
    rintro e w' ⟨rfl, rfl⟩
    exact ⟨rfl, .still h (Below.refl _ _)⟩
theorem sync_all (w : World) (g : Nat) (F : Nat → Prop) (s : Dsk) (h : DiskAt w g F s) (hf : s.Few 1000000) :
    Calls Try.prog 68 #[.pointer (some ⟨g, 0, none⟩)] w fun e w' => e = .returned (.int .i64 (if s.off then 5 else 0)) ∧ Moved w g F s.sput w' := by
  unfold Dsk.sput
  by_cases ho : s.off = true
  · rw [if_pos ho, if_pos ho]
    refine (sync_off w g F s h ho).mono ?_
    rintro e w' ⟨rfl, rfl⟩
    exact ⟨rfl, .still h (Below.refl _ _)⟩
  · rw [if_neg ho, if_neg ho]
    exact sync_any w g F s h (by have := hf.1; omega) hf.2.2 (by cases hs : s.off <;> simp_all)
end Go.Proofs.Ytkbjhnlihnakkaa
