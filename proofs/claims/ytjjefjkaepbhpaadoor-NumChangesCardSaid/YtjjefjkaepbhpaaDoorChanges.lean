/-
  The statement NumChanges: a byte that is changed changes the sum (of at most 2000 bytes it is asked). No conditions beyond the row's own.
-/
import Derived.Test.YtjjefjkaepbhpaaDoorAwake
import Derived.Test.YtjjefjkaepbhpaaDoorOrd
namespace Go.Proofs.YtjjefjkaepbhpaaDoor
open Go.RowKit

set_option maxRecDepth 100000 in
set_option maxHeartbeats 1000000 in
theorem numChanges_skip (A : Option Addr) (l : List UInt8) (c : Nat) (k y : Int) (w : World) (hl : l.length ≤ 140737488351232) (ht : Tab w)
    (h : 2000 < l.length ∨ (l.length ≤ 2000 ∧ k < 0) ∨ (l.length ≤ 2000 ∧ 0 ≤ k ∧ (l.length : Int) ≤ k)) :
    Calls Tryd.prog 10 #[.slice A l.length c, .int .i64 k, .int .u8 y] w fun e w' => e = .returned (.bool true) ∧ Below w.heap.size w w' := by
  rcases h with h | ⟨h1, h2⟩ | ⟨h1, h2, h3⟩
  all_goals
    go_enter Tryd.func10, Tryd.ntmps10
    go_wp2_with fail
    refine (awake_any _ ht).mono ?_
    rintro e w1 ⟨rfl, hb1⟩
    have B1 := Lib.hid hb1
    clear hb1
    go_wp2_with fail
    all_goals go_ret
    all_goals exact ⟨rfl, B1.out⟩

set_option maxRecDepth 100000 in
set_option maxHeartbeats 1000000 in
theorem numChanges_same (A : Option Addr) (l : List UInt8) (c : Nat) (k : Nat) (w : World) (hl : l.length ≤ 2000) (hk : k < l.length) (hs : Seen w A l) (ht : Tab w) :
    Calls Tryd.prog 10 #[.slice A l.length c, .int .i64 (k : Int), .int .u8 (l[k].toNat : Int)] w fun e w' => e = .returned (.bool true) ∧ Below w.heap.size w w' := by
  obtain ⟨b, off, rfl, hlt, hc⟩ := hs.at_ hk
  have HC := Lib.hid hc
  clear hc hs
  generalize l[k].toNat = x at *
  have hxx : ((x : Int) == (x : Int)) = true := by simp
  go_enter Tryd.func10, Tryd.ntmps10
  go_wp2_with fail
  refine (awake_any _ ht).mono ?_
  rintro e w1 ⟨rfl, hb1⟩
  have B1 := Lib.hid hb1
  have hc1 : w1.cell? ⟨b, off + k, none⟩ = some (.int .u8 (x : Int)) := (hb1.cell (p := ⟨b, off + k, none⟩) hlt).trans HC.out
  clear hb1
  go_wp2_with fail
  all_goals go_ret
  all_goals exact ⟨rfl, B1.out⟩

set_option maxRecDepth 100000 in
set_option maxHeartbeats 1000000 in
theorem numChanges_other (A : Option Addr) (l : List UInt8) (c : Nat) (k : Nat) (y : UInt8) (w : World) (hl : l.length ≤ 2000) (hk : k < l.length) (hne : l[k] ≠ y) (hs : Seen w A l) (ht : Tab w) :
    Calls Tryd.prog 10 #[.slice A l.length c, .int .i64 (k : Int), .int .u8 (y.toNat : Int)] w fun e w' => e = .returned (.bool true) ∧ Below w.heap.size w w' := by
  obtain ⟨i0, hi, hz0, hz1, hz2⟩ := info_parts info8p
  have HS := Lib.hid hs
  have HX := Lib.hid (crc_changes l k hk y hne)
  obtain ⟨b, off, rfl, hlt, hc⟩ := hs.at_ hk
  have HC := Lib.hid hc
  have hxy : ((l[k].toNat : Int) == (y.toNat : Int)) = false := by
    rw [beq_eq_false_iff_ne]; intro h; exact hne (UInt8.toNat_inj.1 (by omega))
  have HK : Hid (k < l.length) := hk
  clear hc hs hne
  generalize l[k].toNat = x at *
  go_enter Tryd.func10, Tryd.ntmps10
  go_wp2_with fail
  refine (awake_any _ ht).mono ?_
  rintro e w1 ⟨rfl, hb1⟩
  have B1 := Lib.hid hb1
  have hc1 : w1.cell? ⟨b, off + k, none⟩ = some (.int .u8 (x : Int)) := (hb1.cell (p := ⟨b, off + k, none⟩) hlt).trans HC.out
  clear hb1
  have HO := Made.nil 5 w1
  go_wp2_with (at_builtin; refine wpList_append_bytes _ rfl _ _ 22 rfl 5 i0 (.int .u8 0) Tryd.underlying22 hi hz0 hz1 hz2 rfl w1 _ [] _ l c rfl rfl HO ?c1 ?c2 ?_)
  case c1 => exact HS.out.below B1.out
  case c2 => simp; omega
  intro v w2 HM _
  obtain ⟨g, cap, rfl, hBg⟩ : ∃ g cap, v = .slice (some ⟨g, 0, none⟩) l.length cap ∧ w1.heap.size ≤ g := by
    rcases HM.1.2 with ⟨_, h1⟩ | ⟨g, cap, cur, hv, hB, _⟩
    · have := HK.out; simp at h1; subst h1; simp at this
    · exact ⟨g, cap, hv, hB⟩
  have hown : w2.ownsRow w1.heap.size 5 1 (.slice (some ⟨g, 0, none⟩) l.length cap) l.length (l.map bv) := HM.1
  have hB2 : Hid (Below w1.heap.size w1 w2) := HM.2
  have hf2 : w2.frozen? ⟨g, k, none⟩ = false := hown.frozenAt k
  have hc2 : w2.cell? ⟨g, k, none⟩ = some (bv l[k]) := by rw [hown.cellAt k (by omega), List.getElem?_map, List.getElem?_eq_getElem hk]; rfl
  have hst := hown.stored k (bv y)
  have B3 : Hid (Below w1.heap.size w1 (w2.setCell ⟨g, k, none⟩ (bv y))) := hB2.out.setCell hBg _
  have S3 : Hid (Seen (w2.setCell ⟨g, k, none⟩ (bv y)) (some ⟨g, 0, none⟩) (l.set k y)) := by
    have h : (w2.setCell ⟨g, k, none⟩ (bv y)).ownsRow w1.heap.size 5 1 (.slice (some ⟨g, 0, none⟩) l.length cap) l.length ((l.set k y).map bv) := by
      rw [List.map_set]; exact hst.1
    exact (Seen.of_own h).1
  have L3 : Hid (l.length = (l.set k y).length) := by show _ = _; simp
  clear HM hown hst hc1
  unfold bv at hc2 B3 S3
  go_wp2_with fail
  refine (crc_any _ l c _ (by omega) (HS.out.below (hop B1.out B3.out))).mono ?_
  rintro e w4 ⟨rfl, rfl⟩
  go_wp2_with fail
  rw [L3.out]
  refine (crc_any _ (l.set k y) cap _ (by simp; omega) S3.out).mono ?_
  rintro e w5 ⟨rfl, rfl⟩
  generalize crcOf l = p at *
  generalize crcOf (l.set k y) = q at *
  have hpq : ((p : Int) != (q : Int)) = true := by
    rw [bne_iff_ne]; intro h; exact HX.out (by omega)
  go_wp2_with fail
  go_ret
  exact ⟨rfl, hop B1.out B3.out⟩

theorem numChanges_walk (A : Option Addr) (l : List UInt8) (c : Nat) (k y : Int) (w : World) (hl : l.length ≤ 140737488351232) (hs : Seen w A l) (_ : -9223372036854775808 ≤ k) (_ : k ≤ 9223372036854775807) (h0 : 0 ≤ y) (h1 : y ≤ 255) (ht : Tab w) :
    Calls Tryd.prog 10 #[.slice A l.length c, .int .i64 k, .int .u8 y] w fun e w' => e = .returned (.bool true) ∧ Below w.heap.size w w' := by
  by_cases h : 2000 < l.length ∨ (l.length ≤ 2000 ∧ k < 0) ∨ (l.length ≤ 2000 ∧ 0 ≤ k ∧ (l.length : Int) ≤ k)
  · exact numChanges_skip A l c k y w hl ht h
  · obtain ⟨m, rfl⟩ := Int.eq_ofNat_of_zero_le (show 0 ≤ k by omega)
    have hm : m < l.length := by omega
    obtain ⟨z, rfl⟩ : ∃ z : UInt8, y = (z.toNat : Int) := ⟨UInt8.ofNat y.toNat, by rw [UInt8.toNat_ofNat']; omega⟩
    by_cases hz : l[m] = z
    · subst hz
      exact numChanges_same A l c m w (by omega) hm hs ht
    · exact numChanges_other A l c m z w (by omega) hm hz hs ht
end Go.Proofs.YtjjefjkaepbhpaaDoor
