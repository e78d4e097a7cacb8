/-
  What the document's Hex comes to: a Lean function of the bytes (for seats in which the program's own is not reached). Condition: the bytes are at most 2^47 - 4096.
-/
import Derived.Test.YtmmfnfndepijlaaDoorChecked
import Derived.Test.YtmmfnfndepijlaaDoorApp
import Derived.Deep.RegionLaw
namespace Go.Proofs.YtmmfnfndepijlaaDoor
open Go.RowKit

theorem info8h : (Tryd.prog.info? 5).map (fun i => (i.zero, i.size, i.bytes)) = some (some (.int .u8 0), 1, 1) := by kernel_rfl

/-- the sign of a half -/
def sign (n : Nat) : UInt8 := UInt8.ofNat (if n < 10 then 48 + n else 87 + n)
def hexL : List UInt8 → List UInt8
  | [] => []
  | c :: r => sign (c.toNat / 16) :: sign (c.toNat % 16) :: hexL r
theorem hexL_length (l : List UInt8) : (hexL l).length = 2 * l.length := by
  induction l with
  | nil => rfl
  | cons c r ih => simp [hexL, ih]; omega
theorem hexL_snoc (l : List UInt8) (c : UInt8) : hexL (l ++ [c]) = hexL l ++ [sign (c.toNat / 16), sign (c.toNat % 16)] := by
  induction l with
  | nil => rfl
  | cons d r ih => simp [hexL, ih]

theorem make2 (n : Nat) (h : n ≤ 140737488351232) (W : World) : (Instr.makeSlice 22 (.int .i64 0) (.int .i64 (2 * (n : Int)))).run Tryd.prog W = .ok (.slice (some ⟨W.heap.size, 0, none⟩) 0 (2 * n)) (W.alloc (.cells (madeCells #[.int .u8 0] (2 * n)) 5)) := by
  obtain ⟨i0, hi, hz0, hz1, hz2⟩ := info_parts info8h
  have hr := run_make (P := Tryd.prog) W 22 5 i0 (.int .u8 0) Tryd.underlying22 hi hz0 .i64 .i64 0 (2 * (n : Int)) (by omega) (by omega) (by rw [hz2]; omega) (by omega)
  rw [hr, hz1, show (2 * (n : Int)).toNat = 2 * n from by omega, Nat.mul_one]
  rfl

/-- the program's own row of signs -/
theorem sign_at (n : Nat) (h : n < 16) : (⟨#[48, 49, 50, 51, 52, 53, 54, 55, 56, 57, 97, 98, 99, 100, 101, 102]⟩ : ByteArray)[n].toNat = (sign n).toNat := by
  have key : ∀ m : Fin 16, (⟨#[48, 49, 50, 51, 52, 53, 54, 55, 56, 57, 97, 98, 99, 100, 101, 102]⟩ : ByteArray)[m.val].toNat = (sign m.val).toNat := by decide
  exact key ⟨n, h⟩
theorem sign_hi (x : Nat) (h : ((x : Int) / 16).toNat < 16) : (⟨#[48, 49, 50, 51, 52, 53, 54, 55, 56, 57, 97, 98, 99, 100, 101, 102]⟩ : ByteArray)[((x : Int) / 16).toNat].toNat = (sign (x / 16)).toNat := by
  rw [sign_at _ h, show ((x : Int) / 16).toNat = x / 16 from by omega]
theorem sign_lo (x : Nat) (h : ((x : Int) % 16).toNat < 16) : (⟨#[48, 49, 50, 51, 52, 53, 54, 55, 56, 57, 97, 98, 99, 100, 101, 102]⟩ : ByteArray)[((x : Int) % 16).toNat].toNat = (sign (x % 16)).toNat := by
  rw [sign_at _ h, show ((x : Int) % 16).toNat = x % 16 from by omega]
theorem byte_int (c : UInt8) : (0 : Int) ≤ (c.toNat : Int) ∧ (c.toNat : Int) < 256 := by have := c.toNat_lt; constructor <;> omega
theorem pushed_sign (d : List UInt8) (c : UInt8) : pushed d (c.toNat : Int) = d ++ [c] := by
  unfold pushed; rw [Int.toNat_natCast, UInt8.ofNat_toNat]

theorem room_text {P : Program} {e : TypeId} {w w' : World} {d : List UInt8} {n cap : Nat} (h : Room e w d n cap w') (src dst : TypeId) (hs : P.underlying src = some (.slice e)) (he : P.underlying e = some (.int .u8)) (hd : P.underlying dst = some .string) :
    (convert src dst (.slice (some ⟨w.heap.size, 0, none⟩) n cap)).run P w' = .ok (.string ⟨d.toArray⟩) w' := by
  obtain ⟨rfl, hm⟩ := h.made
  exact (Seen.of_own hm.1).1.text src dst e hs he hd cap

set_option maxHeartbeats 400000 in
theorem refHex_any (A : Option Addr) (l : List UInt8) (c : Nat) (w : World) (hl : l.length ≤ 140737488351232) (hs : Seen w A l) :
    Calls Tryd.prog 13 #[.slice A l.length c] w fun e w' =>
      e = .returned (.string ⟨(hexL l).toArray⟩) ∧ Below w.heap.size w w' := by
  obtain ⟨i0, hi, hz0, hz1, hz2⟩ := info_parts info8h
  have HS := Lib.hid hs
  have hmk := make2 l.length hl
  clear hs
  go_enter Tryd.func13, Tryd.ntmps13
  go_wp2_with fail
  clear hmk
  go_loopw [4, 5] (fun v i wr => ∃ (k : Nat), k ≤ l.length ∧ i = .int .i64 k ∧ v = .slice (some ⟨w.heap.size, 0, none⟩) (2 * k) (2 * l.length) ∧ Room 5 w (hexL (l.take k)) (2 * k) (2 * l.length) wr) (fun _ i _ => l.length - (intOf i).toNat)
  case atStart => exact ⟨0, by omega, rfl, rfl, World.ownsRow_made w _ (2 * l.length) (Nat.le_refl _) (by unfold maxLen; omega) (by rw [size_madeCells, Nat.mul_one]), (Below.refl _ _).alloc (Nat.le_refl _) _⟩
  case round =>
    obtain ⟨k, hk, rfl, rfl, H⟩ := hrel
    by_cases hlt : k < l.length
    · obtain ⟨b, off, rfl, hb, hc⟩ := HS.out.at_ hlt
      have hc' : wr.cell? ⟨b, off + k, none⟩ = some (.int .u8 (l[k].toNat : Int)) := (H.2.cell (p := ⟨b, off + k, none⟩) hb).trans hc
      have HC := Lib.hid hc
      clear hc
      have hx := l[k].toNat_lt
      have HN : Hid (hexL (l.take (k + 1)) = hexL (l.take k) ++ [sign (l[k].toNat / 16), sign (l[k].toNat % 16)]) := by
        show _ = _; rw [List.take_succ_eq_append_getElem hlt, hexL_snoc]
      generalize l[k].toNat = x at *
      have q1 : (0 : Int) ≤ (x : Int) / 16 := by omega
      have q2 : (x : Int) / 16 < 16 := by omega
      have q3 : (0 : Int) ≤ (x : Int) % 16 := by omega
      have q4 : (x : Int) % 16 < 16 := by omega
      have g1 : ((x : Int) / 16).toNat < 16 := by omega
      have g2 : ((x : Int) % 16).toNat < 16 := by omega
      go_wp2_with (at_builtin; refine wpList_append_fit1 _ rfl _ _ 22 rfl 5 i0 Tryd.underlying22 hi hz1 w (hexL (l.take k)) (2 * k) (2 * l.length) _ rfl rfl H ?c1 ?c2 ?c3 ?_)
      case c1 => exact (byte_int _).1
      case c2 => exact (byte_int _).2
      case c3 => omega
      intro w1 H1
      have hc1 : w1.cell? ⟨b, off + k, none⟩ = some (.int .u8 (x : Int)) := (H1.2.cell (p := ⟨b, off + k, none⟩) hb).trans HC.out
      clear hc'
      go_wp2_with (at_builtin; refine wpList_append_fit1 _ rfl _ _ 22 rfl 5 i0 Tryd.underlying22 hi hz1 w _ (2 * k + 1) (2 * l.length) _ rfl rfl H1 ?c4 ?c5 ?c6 ?_)
      case c4 => exact (byte_int _).1
      case c5 => exact (byte_int _).2
      case c6 => omega
      intro w2 H2
      go_wp2_with fail
      go_roundw
      case rel =>
        rw [sign_at _ (by omega), sign_at _ (by omega), pushed_sign, pushed_sign] at H2
        exact ⟨k + 1, by omega, by go_num, by go_num, by rw [HN.out, show 2 * (k + 1) = 2 * k + 1 + 1 from by omega]; simpa using H2⟩
      case measure => simp [intOf]; omega
    · have HT : Room 5 w (hexL l) (2 * k) (2 * l.length) wr := by
        have e : l.take k = l := List.take_of_length_le (by omega)
        rw [e] at H; exact H
      have hb := H.2
      have HB := Lib.hid hb
      have hc := room_text HT 22 9 Tryd.underlying22 Tryd.underlying5 Tryd.underlying9
      clear hb H HT
      go_wp2_with fail
      go_ret
      exact ⟨rfl, HB.out⟩
end Go.Proofs.YtmmfnfndepijlaaDoor
