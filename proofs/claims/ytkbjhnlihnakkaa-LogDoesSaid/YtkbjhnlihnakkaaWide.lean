/-
  What Wide and Narrow, the program's and the document's, come to: one Lean function each. No conditions beyond how the bytes lie in memory.
-/
import Derived.Test.YtkbjhnlihnakkaaChecked
import Derived.Test.YtkbjhnlihnakkaaMem
namespace Go.Proofs.Ytkbjhnlihnakkaa
open Go.RowKit

theorem info8 : (Try.prog.info? 5).map (fun i => (i.zero, i.size, i.bytes)) = some (some (.int .u8 0), 1, 1) := by kernel_rfl

/-- The number of bytes, the first the most significant. -/
def nar : List UInt8 → Nat → Nat
  | [], x => x
  | c :: r, x => nar r (256 * x + c.toNat)

theorem nar_snoc (l : List UInt8) (c : UInt8) : ∀ x, nar (l ++ [c]) x = 256 * nar l x + c.toNat := by
  induction l with
  | nil => intro x; rfl
  | cons d r ih => intro x; simp only [List.cons_append, nar]; exact ih _
theorem nar_lt (l : List UInt8) : ∀ x k, x < 256 ^ k → nar l x < 256 ^ (k + l.length) := by
  induction l with
  | nil => intro x k h; exact h
  | cons d r ih =>
    intro x k h
    have := ih (256 * x + d.toNat) (k + 1) (by have := d.toNat_lt; rw [Nat.pow_succ]; omega)
    simpa [nar, Nat.add_assoc, Nat.add_comm 1] using this

/-- the eight bytes of a number: byte j -/
def wb (u j : Nat) : Nat := u / 256 ^ (7 - j) % 256
def wideOf (u : Nat) : List UInt8 := (List.range 8).map fun j => UInt8.ofNat (wb u j)

theorem nar_small {l : List UInt8} {k : Nat} (h : k ≤ 7) : nar (l.take k) 0 < 72057594037927936 := by
  have h1 := nar_lt (l.take k) 0 0 (by omega)
  have h2 : 256 ^ (0 + (l.take k).length) ≤ 256 ^ 7 := Nat.pow_le_pow_right (by omega) (by have := List.length_take_le k l; omega)
  have h3 : 256 ^ 7 = 72057594037927936 := by decide
  omega
theorem take_next (l : List UInt8) (k : Nat) (h : k < l.length) : l.take (k + 1) = l.take k ++ [l[k]] := by
  rw [List.take_succ_eq_append_getElem h]

set_option maxHeartbeats 400000 in
theorem narrow_any (A : Option Addr) (l : List UInt8) (c : Nat) (w : World) (hl : l.length = 8) (hs : Seen w A l) :
    Calls Try.prog 83 #[.slice A l.length c] w fun e w' =>
      e = .returned (.tuple #[.int .i64 (wrap64 (nar l 0 : Nat)), .int .i64 0]) ∧ w = w' := by
  have HS := Lib.hid hs
  have hle : l.length ≤ 8 := by omega
  have hge : 8 ≤ l.length := by omega
  have t0 : ((l.length : Int) != 8) = false := by simp [hl]
  clear hs hl
  go_enter Try.func83, Try.ntmps83
  go_wp2
  go_loop [4, 12] (fun s i => ∃ k y : Nat, k ≤ l.length ∧ i = .int .i64 k ∧ s = .int .u64 y ∧ Hid (y = nar (l.take k) 0)) (fun _ i => l.length - (intOf i).toNat)
  case atStart => exact ⟨0, 0, by omega, rfl, rfl, rfl⟩
  case round =>
    obtain ⟨k, y, hk, rfl, rfl, H⟩ := hrel
    by_cases hlt : k < l.length
    · obtain ⟨b, off, rfl, hb, hc⟩ := HS.out.at_ hlt
      have hy : y < 72057594037927936 := by rw [H.out]; exact nar_small (by omega)
      have h8 := l[k].toNat_lt
      have hn : Hid (256 * y + l[k].toNat = nar (l.take (k + 1)) 0) := by rw [take_next l k hlt]; show _ = _; rw [nar_snoc, H.out]
      generalize l[k].toNat = x at *
      have e2 : bits .or .u64 ((y : Int) * 256) (x : Int) = ((256 * y + x : Nat) : Int) := by
        rw [show (y : Int) * 256 = ((y * 256 : Nat) : Int) from by omega, u64_or_nat (y * 256) x (by omega) (by omega), nat_join 8 (y * 256) x (by omega) (by omega)]; omega
      go_wp2_with fail
      go_round
      case rel => exact ⟨k + 1, _, by omega, by go_num, rfl, hn.out⟩
      case measure => simp [intOf]; omega
    · have hn : Hid (y = nar l 0) := by show _ = _; rw [H.out, List.take_of_length_le (by omega)]
      go_wp2_with fail
      go_ret2
      exact ⟨by rw [← hn.out]; rfl, rfl⟩

set_option maxHeartbeats 400000 in
theorem narrow_no (A : Option Addr) (l : List UInt8) (c : Nat) (w : World) (hl : l.length ≠ 8) :
    Calls Try.prog 83 #[.slice A l.length c] w fun e w' =>
      e = .returned (.tuple #[.int .i64 0, .int .i64 1]) ∧ w = w' := by
  have t0 : ((l.length : Int) != 8) = true := by simp; omega
  clear hl
  go_enter Try.func83, Try.ntmps83
  go_wp2
  go_ret2
  exact ⟨rfl, rfl⟩

set_option maxHeartbeats 400000 in
theorem refNarrow_any (A : Option Addr) (l : List UInt8) (c : Nat) (w : World) (hl : l.length = 8) (hs : Seen w A l) :
    Calls Try.prog 63 #[.slice A l.length c] w fun e w' =>
      e = .returned (.tuple #[.int .i64 (wrap64 (nar l 0 : Nat)), .int .i64 0]) ∧ w = w' := by
  have HS := Lib.hid hs
  have hle : l.length ≤ 8 := by omega
  have hge : 8 ≤ l.length := by omega
  have t0 : ((l.length : Int) != 8) = false := by simp [hl]
  clear hs hl
  go_enter Try.func63, Try.ntmps63
  go_wp2
  go_loop [4, 5] (fun s i => ∃ k y : Nat, k ≤ 8 ∧ i = .int .i64 k ∧ s = .int .u64 y ∧ Hid (y = nar (l.take k) 0)) (fun _ i => 8 - (intOf i).toNat)
  case atStart => exact ⟨0, 0, by omega, rfl, rfl, rfl⟩
  case round =>
    obtain ⟨k, y, hk, rfl, rfl, H⟩ := hrel
    by_cases hlt : k < 8
    · have hlt' : k < l.length := by omega
      obtain ⟨b, off, rfl, hb, hc⟩ := HS.out.at_ hlt'
      have hy : y < 72057594037927936 := by rw [H.out]; exact nar_small (by omega)
      have h8 := l[k].toNat_lt
      have hn : Hid (256 * y + l[k].toNat = nar (l.take (k + 1)) 0) := by rw [take_next l k hlt']; show _ = _; rw [nar_snoc, H.out]
      generalize l[k].toNat = x at *
      go_wp2_with fail
      go_round
      case rel => exact ⟨k + 1, 256 * y + x, by omega, by go_num, by go_num, hn.out⟩
      case measure => simp [intOf]; omega
    · have hn : Hid (y = nar l 0) := by show _ = _; rw [H.out, List.take_of_length_le (by omega)]
      go_wp2_with fail
      go_ret2
      exact ⟨by rw [← hn.out]; rfl, rfl⟩

set_option maxHeartbeats 400000 in
theorem refNarrow_no (A : Option Addr) (l : List UInt8) (c : Nat) (w : World) (hl : l.length ≠ 8) :
    Calls Try.prog 63 #[.slice A l.length c] w fun e w' =>
      e = .returned (.tuple #[.int .i64 0, .int .i64 1]) ∧ w = w' := by
  have t0 : ((l.length : Int) != 8) = true := by simp; omega
  clear hl
  go_enter Try.func63, Try.ntmps63
  go_wp2
  go_ret2
  exact ⟨rfl, rfl⟩

theorem make8 (w : World) : (Instr.makeSlice 22 (.int .i64 8) (.int .i64 8)).run Try.prog w = .ok (.slice (some ⟨w.heap.size, 0, none⟩) 8 8) (w.alloc (.cells (madeCells #[.int .u8 0] 8) 5)) :=
  run_make_row' (P := Try.prog) 22 5 (.int .u8 0) 1 Try.underlying22 info8 rfl .i64 .i64 8 (by omega) (by omega) w

/-- what the row holds behind k rounds, from its end on -/
def wcell (u k j : Nat) : Value := if 8 ≤ k + j then .int .u8 (wb u j : Nat) else .int .u8 0

theorem wb_end (u k : Nat) (hk : k < 8) : wb u (7 - k) = u / 256 ^ k % 256 := by
  unfold wb; rw [show 7 - (7 - k) = k by omega]
theorem wb_shift (u k : Nat) (hk : k < 8) : (u : Int) / 2 ^ (8 * k) % 256 = ((wb u (7 - k) : Nat) : Int) := by
  rw [wb_end u k hk, show 256 ^ k = 2 ^ (8 * k) from by rw [Nat.pow_mul], Int.natCast_emod, Int.natCast_ediv, Int.natCast_pow]; rfl
theorem wcell_next (u k : Nat) (hk : k < 8) (j : Nat) (_hj : j < 8) : (if j = 7 - k then Value.int .u8 (wb u (7 - k) : Nat) else wcell u k j) = wcell u (k + 1) j := by
  by_cases e : j = 7 - k
  · subst e; rw [if_pos rfl, wcell, if_pos (by omega)]
  · rw [if_neg e, wcell, wcell]
    by_cases h : 8 ≤ k + j
    · rw [if_pos h, if_pos (by omega)]
    · rw [if_neg h, if_neg (by omega)]
theorem wide_seen {w : World} {g : Nat} {t : TypeId} {u k : Nat} (h : w.rowIs g t 8 (wcell u k)) (hk : 8 ≤ k) : Seen w (some ⟨g, 0, none⟩) (wideOf u) :=
  Seen.of_row h (by simp [wideOf]) (fun i hi => by
    rw [wcell, if_pos (by omega)]
    simp [wideOf]
    have : wb u i < 256 := Nat.mod_lt _ (by omega)
    omega)

set_option maxHeartbeats 400000 in
theorem wide_any (n : Int) (w : World) :
    Calls Try.prog 49 #[.int .i64 n] w fun e w' =>
      ∃ A, e = .returned (.slice A 8 8) ∧ Seen w' A (wideOf (n % 18446744073709551616).toNat) ∧ Below w.heap.size w w' := by
  have hmk := make8
  obtain ⟨u, hu⟩ : ∃ u : Nat, u = (n % 18446744073709551616).toNat := ⟨_, rfl⟩
  have ew : IntKind.u64.wrap n = (u : Int) := by rw [IntKind.wrap_u64]; omega
  have hlt : u < 18446744073709551616 := by omega
  have HU := Lib.hid hu
  clear hu
  go_enter Try.func49, Try.ntmps49
  go_wp2_with fail
  clear hmk ew
  go_loopw [9] (fun i wr => ∃ k : Nat, k ≤ 8 ∧ i = .int .i64 k ∧ wr.rowIs w.heap.size 5 8 (wcell u k) ∧ Below w.heap.size w wr) (fun i _ => 8 - (intOf i).toNat)
  case atStart => exact ⟨0, by omega, rfl, (World.rowIs_made w (.int .u8 0) 8 5).congr (fun i hi => by rw [wcell, if_neg (by omega)]), (Below.refl _ _).alloc (Nat.le_refl _) _⟩
  case round =>
    obtain ⟨k, hk, rfl, hrow, hbel⟩ := hrel
    have HR := Lib.hid hrow
    have HB := Lib.hid hbel
    by_cases h8 : k < 8
    · have hc : wr.cell? ⟨w.heap.size, 7 - k, none⟩ = some (wcell u k (7 - k)) := hrow.cell (by omega)
      have hf : wr.frozen? ⟨w.heap.size, 7 - k, none⟩ = false := hrow.frozen _
      clear hrow hbel
      go_wp2_with fail
      go_roundw
      case rel =>
        rw [wb_shift u k h8]
        exact ⟨k + 1, by omega, by go_num, (HR.out.set (7 - k) _).congr (wcell_next u k h8), HB.out.setCell (Nat.le_refl _) _⟩
      case measure => simp [intOf]; omega
    · clear hrow hbel
      go_wp2_with fail
      go_ret
      exact ⟨_, rfl, by rw [← HU.out]; exact wide_seen HR.out (by omega), HB.out⟩

set_option maxHeartbeats 400000 in
theorem refWide_any (n : Int) (w : World) :
    Calls Try.prog 70 #[.int .i64 n] w fun e w' =>
      ∃ A, e = .returned (.slice A 8 8) ∧ Seen w' A (wideOf (n % 18446744073709551616).toNat) ∧ Below w.heap.size w w' := by
  have hmk := make8
  obtain ⟨u, hu⟩ : ∃ u : Nat, u = (n % 18446744073709551616).toNat := ⟨_, rfl⟩
  have ew : IntKind.u64.wrap n = (u : Int) := by rw [IntKind.wrap_u64]; omega
  have hlt : u < 18446744073709551616 := by omega
  have HU := Lib.hid hu
  clear hu
  go_enter Try.func70, Try.ntmps70
  go_wp2_with fail
  clear hmk ew
  go_loopw [3, 5] (fun s i wr => ∃ k y : Nat, k ≤ 8 ∧ i = .int .i64 (7 - (k : Int)) ∧ y < 18446744073709551616 ∧ s = .int .u64 y ∧ Hid (y = u / 256 ^ k) ∧ wr.rowIs w.heap.size 5 8 (wcell u k) ∧ Below w.heap.size w wr) (fun _ i _ => (intOf i + 1).toNat)
  case atStart => exact ⟨0, u, by omega, rfl, hlt, rfl, by show _ = _; simp, (World.rowIs_made w (.int .u8 0) 8 5).congr (fun i hi => by rw [wcell, if_neg (by omega)]), (Below.refl _ _).alloc (Nat.le_refl _) _⟩
  case round =>
    obtain ⟨k, y, hk, rfl, hy, rfl, HY, hrow, hbel⟩ := hrel
    have HR := Lib.hid hrow
    have HB := Lib.hid hbel
    by_cases h8 : k < 8
    · have hc : wr.cell? ⟨w.heap.size, 7 - k, none⟩ = some (wcell u k (7 - k)) := hrow.cell (by omega)
      have hf : wr.frozen? ⟨w.heap.size, 7 - k, none⟩ = false := hrow.frozen _
      have HW : Hid ((y : Int) % 256 = ((wb u (7 - k) : Nat) : Int)) := by show _ = _; rw [wb_end u k h8, ← HY.out, Int.natCast_emod]; rfl
      have HN : Hid (y / 256 = u / 256 ^ (k + 1)) := by show _ = _; rw [HY.out, Nat.div_div_eq_div_mul, Nat.pow_succ]
      clear hrow hbel
      go_wp2_with fail
      go_roundw
      case rel =>
        rw [HW.out]
        exact ⟨k + 1, y / 256, by omega, by go_num, by omega, by go_num, HN.out, (HR.out.set (7 - k) _).congr (wcell_next u k h8), HB.out.setCell (Nat.le_refl _) _⟩
      case measure => simp [intOf]; omega
    · clear hrow hbel
      go_wp2_with fail
      go_ret
      exact ⟨_, rfl, by rw [← HU.out]; exact wide_seen HR.out (by omega), HB.out⟩
end Go.Proofs.Ytkbjhnlihnakkaa
