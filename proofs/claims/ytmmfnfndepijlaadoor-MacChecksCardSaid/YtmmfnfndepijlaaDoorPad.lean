/-
  What the program's padding comes to. Condition: the length fits (at most 2^47).
-/
import Derived.Test.YtmmfnfndepijlaaDoorState
namespace Go.Proofs.YtmmfnfndepijlaaDoor
open Go.RowKit

theorem info5 : (Tryd.prog.info? 5).map (fun i => (i.zero, i.size, i.bytes)) = some (some (.int .u8 0), 1, 1) := by kernel_rfl

theorem pad_make (n : Nat) (W : World) : (Instr.makeSlice 22 (.int .i64 (1 + -(((n : Int) + 1 + 8) % 64) % 64 + 8)) (.int .i64 (1 + -(((n : Int) + 1 + 8) % 64) % 64 + 8))).run Tryd.prog W
    = .ok (.slice (some ⟨W.heap.size, 0, none⟩) (zerosN n + 9) (zerosN n + 9)) (W.alloc (.cells (madeCells #[.int .u8 0] (zerosN n + 9)) 5)) := by
  have e : (1 + -(((n : Int) + 1 + 8) % 64) % 64 + 8 : Int) = ((zerosN n + 9 : Nat) : Int) := by unfold zerosN; omega
  rw [e]
  exact run_make_row' (P := Tryd.prog) 22 5 (.int .u8 0) 1 Tryd.underlying22 info5 rfl .i64 .i64 _ (by unfold zerosN; omega) (by unfold zerosN; omega) W

/-- what the row holds behind k rounds -/
def padCell (z u k j : Nat) : Value := if j = 0 then .int .u8 128 else if z + 9 ≤ k + j then .int .u8 (u / 256 ^ (z + 8 - j) % 256 : Nat) else .int .u8 0
theorem pad_shift (u k : Nat) : (u : Int) / 2 ^ (8 * k) % 256 = ((u / 256 ^ k % 256 : Nat) : Int) := by
  rw [show 256 ^ k = 2 ^ (8 * k) from by rw [Nat.pow_mul], Int.natCast_emod, Int.natCast_ediv, Int.natCast_pow]; rfl
theorem padCell_next (z u k : Nat) (hk : k < 8) (j : Nat) (hj : j < z + 9) : (if j = z + 8 - k then Value.int .u8 (u / 256 ^ k % 256 : Nat) else padCell z u k j) = padCell z u (k + 1) j := by
  by_cases e : j = z + 8 - k
  · subst e
    rw [if_pos rfl, padCell, if_neg (by omega), if_pos (by omega), show z + 8 - (z + 8 - k) = k by omega]
  · rw [if_neg e, padCell, padCell]
    by_cases h0 : j = 0
    · rw [if_pos h0, if_pos h0]
    · rw [if_neg h0, if_neg h0]
      by_cases h : z + 9 ≤ k + j
      · rw [if_pos h, if_pos (by omega)]
      · rw [if_neg h, if_neg (by omega)]
theorem pad_first (z u j : Nat) (hj : j < z + 9) : (if j = 0 then Value.int .u8 128 else Value.int .u8 0) = padCell z u 0 j := by
  unfold padCell
  by_cases h : j = 0
  · rw [if_pos h, if_pos h]
  · rw [if_neg h, if_neg h, if_neg (by omega)]
theorem be8_get (u i : Nat) (hi : i < 8) (h : i < (be8 u).length) : ((be8 u)[i]).toNat = u / 256 ^ (7 - i) % 256 := by
  rcases below8 hi with rfl | rfl | rfl | rfl | rfl | rfl | rfl | rfl <;> simp [be8]
theorem pad_get' (n j : Nat) (hj : j < ((128 : UInt8) :: (List.replicate (zerosN n) 0 ++ be8 (8 * n))).length) : padCell (zerosN n) (8 * n) 8 j = .int .u8 ((((128 : UInt8) :: (List.replicate (zerosN n) 0 ++ be8 (8 * n)))[j]).toNat : Int) := by
  have hl : j < zerosN n + 9 := by simp [length_be8] at hj; omega
  unfold padCell
  rcases j with _ | j
  · rfl
  · rw [if_neg (by omega)]
    simp only [List.getElem_cons_succ]
    by_cases h : j < zerosN n
    · rw [if_neg (by omega), List.getElem_append_left (by simpa using h)]
      simp
    · rw [if_pos (by omega), List.getElem_append_right (by simpa using h), be8_get _ _ (by simp; omega)]
      simp only [List.length_replicate]
      rw [show zerosN n + 8 - (j + 1) = 7 - (j - zerosN n) by omega]
theorem pad_get (n : Nat) (j : Nat) (hj : j < (padL n).length) : padCell (zerosN n) (8 * n) 8 j = .int .u8 ((padL n)[j].toNat : Int) := pad_get' n j hj
theorem pad_seen {w : World} {g : Nat} {t : TypeId} {n : Nat} (h : w.rowIs g t (zerosN n + 9) (padCell (zerosN n) (8 * n) 8)) : Seen w (some ⟨g, 0, none⟩) (padL n) :=
  Seen.of_row h (by rw [length_padL]; omega) (fun i hi => pad_get n i hi)

set_option maxHeartbeats 400000 in
theorem padding_any (n : Nat) (w : World) (hn : n ≤ 140737488355328) :
    Calls Tryd.prog 28 #[.int .i64 n] w fun e w' =>
      e = .returned (.slice (some ⟨w.heap.size, 0, none⟩) (zerosN n + 9) (zerosN n + 9)) ∧ Seen w' (some ⟨w.heap.size, 0, none⟩) (padL n) ∧ Below w.heap.size w w' := by
  have hmk := pad_make n
  have HS := fun (W : World) (h : W.rowIs w.heap.size 5 (zerosN n + 9) (padCell (zerosN n) (8 * n) 8)) => pad_seen (n := n) h
  have HS' := Lib.hid HS
  clear HS
  have hz : zerosN n < 64 := by unfold zerosN; omega
  generalize zerosN n = z at *
  have hr0 := World.rowIs_made w (.int .u8 0) (z + 9) 5
  have c0 := hr0.cell (i := 0) (by omega)
  have f0 := hr0.frozen 0
  have HR0 := Lib.hid hr0
  clear hr0
  go_enter Tryd.func28, Tryd.ntmps28
  go_wp2_with fail
  obtain ⟨u, hu⟩ : ∃ u : Nat, u = 8 * n := ⟨_, rfl⟩
  have hlt : u < 18446744073709551616 := by omega
  rw [show (n : Int) * 8 = (u : Int) by omega]
  rw [← hu] at HS'
  have HU := Lib.hid hu
  clear hu hmk c0 f0
  go_loopw [24] (fun i wr => ∃ k : Nat, k ≤ 8 ∧ i = .int .i64 k ∧ wr.rowIs w.heap.size 5 (z + 9) (padCell z u k) ∧ Below w.heap.size w wr) (fun i _ => 8 - (intOf i).toNat)
  case atStart =>
    have h := (HR0.out.set 0 (.int .u8 128)).congr (fun j hj => pad_first z u j hj)
    rw [World.setCell_alloc_at _ _ _ _ _ rfl] at h
    exact ⟨0, by omega, rfl, h, (Below.refl _ _).alloc (Nat.le_refl _) _⟩
  case round =>
    obtain ⟨k, hk, rfl, hrow, hbel⟩ := hrel
    have HR := Lib.hid hrow
    have HB := Lib.hid hbel
    clear HR0
    by_cases h8 : k < 8
    · have hc : wr.cell? ⟨w.heap.size, z + 8 - k, none⟩ = some (padCell z u k (z + 8 - k)) := hrow.cell (by omega)
      have hf : wr.frozen? ⟨w.heap.size, z + 8 - k, none⟩ = false := hrow.frozen _
      clear hrow hbel
      go_wp2_with fail
      go_roundw
      case rel =>
        rw [pad_shift u k]
        exact ⟨k + 1, by omega, by go_num, (HR.out.set (z + 8 - k) _).congr (padCell_next z u k h8), HB.out.setCell (Nat.le_refl _) _⟩
      case measure => simp [intOf]; omega
    · obtain rfl : k = 8 := by omega
      clear hrow hbel
      go_wp2_with fail
      go_ret
      exact ⟨rfl, HS'.out _ HR.out, HB.out⟩
end Go.Proofs.YtmmfnfndepijlaaDoor
