/-
  The chapter's examples, which every statement of this seat asks first: the program answers them all as the document says. Condition: the library's table of powers of ten reads as its initialiser lays it.
-/
import Derived.Test.YtjjefjkaepbhpaaDoorChecked
import Derived.Test.YtjjefjkaepbhpaaDoorShelf
import Derived.Test.YtjjefjkaepbhpaaDoorCrc
import Derived.Test.YtjjefjkaepbhpaaDoorWide
import Derived.Test.YtjjefjkaepbhpaaDoorGet
import Derived.Test.YtjjefjkaepbhpaaDoorPut
import Derived.Test.YtjjefjkaepbhpaaDoorHex
import Derived.Test.YtjjefjkaepbhpaaDoorUnhex
import Derived.Lib.AppendIntMem
import Derived.Lib.SlBytesConst
namespace Go.Proofs.YtjjefjkaepbhpaaDoor
open Go.RowKit

/-- The table that the library's Itoa reads. -/
def Tab (w : World) : Prop := Lib.TabIs Tryd.prog w "internal/strconv.uint64pow10" .u64 Lib.pow10Tab
theorem Tab.below {w w' : World} (h : Tab w) (hb : Below w.heap.size w w') : Tab w' := Lib.tabBelow_of_tabIs h w' hb

theorem grow_below (w : World) (k : Nat) (os : Array Obj) : Below w.heap.size w (Sort.grow (w.drewN k) os) :=
  ⟨rfl, rfl, rfl, by simp [Sort.grow], fun i hi => by
    show (w.heap ++ os)[i]? = _
    rw [Array.getElem?_append_left hi]⟩

set_option maxHeartbeats 400000 in
theorem show_any (n : Int) (w : World) (h0 : -9223372036854775808 ≤ n) (h1 : n ≤ 9223372036854775807) (ht : Tab w) :
    Calls Tryd.prog 18 #[.int .i64 n] w fun e w' =>
      e = .returned (.string ⟨(Lib.itoa n).toArray⟩) ∧ Below w.heap.size w w' := by
  go_enter Tryd.func18, Tryd.ntmps18
  go_wp2_with fail
  refine (Tryd.strconv_Itoa n h0 h1 _ ht).mono ?_
  rintro e w' ⟨rfl, k, os, rfl⟩
  have HB := grow_below w k os
  generalize Sort.grow (w.drewN k) os = w1 at *
  have HB' := Lib.hid HB
  clear HB
  go_wp2_with fail
  go_ret
  exact ⟨rfl, HB'.out⟩

theorem seen_lit (w : World) (e : TypeId) (l : List UInt8) : Seen (w.alloc (.cells (l.map bv).toArray e)) (some ⟨w.heap.size, 0, none⟩) l :=
  .inr ⟨w.heap.size, 0, rfl, by simp, fun j hj => by
    rw [World.cell?_alloc_at _ _ _ _ rfl, Nat.zero_add, List.getElem?_toArray, List.getElem?_map, List.getElem?_eq_getElem hj]; rfl⟩

/-! the examples, each with its answer written out -/
theorem ex_0A (w : World) : Calls Tryd.prog 12 #[.string ⟨#[48, 65]⟩] w fun e w' => ∃ A c, e = .returned (.tuple #[.slice A 0 c, .bool false]) ∧ Below w.heap.size w w' := by
  refine (unhex_any ⟨#[48, 65]⟩ w (by decide)).mono ?_
  rintro e w' ⟨A, c, rfl, hs, hb⟩
  have e : unh [48, 65] [] = none := by decide
  exact ⟨A, c, by rw [show (⟨#[48, 65]⟩ : ByteArray).data.toList = [48, 65] from rfl, e]; rfl, hb⟩
theorem ex_0a (w : World) : Calls Tryd.prog 12 #[.string ⟨#[48, 97]⟩] w fun e w' => ∃ A c, e = .returned (.tuple #[.slice A 1 c, .bool true]) ∧ Seen w' A [10] ∧ Below w.heap.size w w' := by
  refine (unhex_any ⟨#[48, 97]⟩ w (by decide)).mono ?_
  rintro e w' ⟨A, c, rfl, hs, hb⟩
  have e : unh [48, 97] [] = some [10] := by decide
  rw [show (⟨#[48, 97]⟩ : ByteArray).data.toList = [48, 97] from rfl, e] at hs
  exact ⟨A, c, by rw [show (⟨#[48, 97]⟩ : ByteArray).data.toList = [48, 97] from rfl, e]; rfl, hs, hb⟩
theorem ex_get (A : Option Addr) (w : World) (hs : Seen w A [172, 2, 7]) : Calls Tryd.prog 20 #[.slice A 3 3] w fun e w' => e = .returned (.tuple #[.int .i64 300, .int .i64 2]) ∧ w = w' := by
  refine (get_any A [172, 2, 7] 3 w (by decide) hs).mono ?_
  rintro e w' ⟨rfl, rfl⟩
  have e : getL [172, 2, 7] 0 0 = (300, 2) := by decide
  exact ⟨by rw [e]; rfl, rfl⟩
theorem ex_wide (w : World) : Calls Tryd.prog 26 #[.int .i64 258] w fun e w' => ∃ A, e = .returned (.slice A 8 8) ∧ Seen w' A [0, 0, 0, 0, 0, 0, 1, 2] ∧ Below w.heap.size w w' := by
  refine (wide_any 258 w).mono ?_
  rintro e w' ⟨A, rfl, hs, hb⟩
  have e : wideOf ((258 : Int) % 18446744073709551616).toNat = [0, 0, 0, 0, 0, 0, 1, 2] := by decide
  rw [e] at hs
  exact ⟨A, rfl, hs, hb⟩
theorem ex_hex (A : Option Addr) (w : World) (hs : Seen w A [10, 255]) : Calls Tryd.prog 14 #[.slice A 2 2] w fun e w' => e = .returned (.string ⟨#[48, 97, 102, 102]⟩) ∧ Below w.heap.size w w' := by
  refine (hex_any A [10, 255] 2 w (by decide) hs).mono ?_
  rintro e w' ⟨rfl, hb⟩
  have e : hexL [10, 255] = [48, 97, 102, 102] := by decide
  exact ⟨by rw [e], hb⟩
theorem ex_put (w : World) : Calls Tryd.prog 22 #[.slice none 0 0, .int .i64 300] w fun e w' => ∃ A c, e = .returned (.slice A 2 c) ∧ Seen w' A [172, 2] ∧ Below w.heap.size w w' := by
  refine (put_any none [] 0 300 w (by decide) (by decide) (.inl rfl)).mono ?_
  rintro e w' ⟨v, rfl, hm⟩
  have e : putL 300 = [172, 2] := by rw [putL_more (by decide), putL_small (by decide)]; decide
  rw [e] at hm
  obtain ⟨A, c, rfl, hs⟩ := hm.form
  exact ⟨A, c, rfl, hs, hm.2⟩
theorem ex_crc (A : Option Addr) (w : World) (hs : Seen w A [49, 50, 51, 52, 53, 54, 55, 56, 57]) : Calls Tryd.prog 28 #[.slice A 9 9] w fun e w' => e = .returned (.int .u32 3421780262) ∧ w = w' := by
  refine (crc_any A [49, 50, 51, 52, 53, 54, 55, 56, 57] 9 w (by decide) hs).mono ?_
  rintro e w' ⟨rfl, rfl⟩
  have e : crcOf [49, 50, 51, 52, 53, 54, 55, 56, 57] = 3421780262 := by decide +kernel
  exact ⟨by rw [e]; rfl, rfl⟩
theorem ex_show (w : World) (ht : Tab w) : Calls Tryd.prog 18 #[.int .i64 (-7)] w fun e w' => e = .returned (.string ⟨#[45, 55]⟩) ∧ Below w.heap.size w w' := by
  refine (show_any (-7) w (by decide) (by decide) ht).mono ?_
  rintro e w' ⟨rfl, hb⟩
  have e : Lib.itoa (-7) = [45, 55] := by rw [Lib.itoa, if_pos (by decide), Lib.decDigits_one (by decide)]; decide
  exact ⟨by rw [e], hb⟩

theorem seen_mark (w : World) (e : TypeId) (l : List UInt8) (fr : Nat × Nat) : Seen (w.alloc (.cells (l.map bv).toArray e fr)) (some ⟨w.heap.size, 0, none⟩) l :=
  .inr ⟨w.heap.size, 0, rfl, by simp, fun j hj => by
    have h : (w.alloc (.cells (l.map bv).toArray e fr)).heap[w.heap.size]? = some (.cells (l.map bv).toArray e fr) := by
      show (w.heap.push _)[w.heap.size]? = _
      simp
    simp only [World.cell?, h, Nat.zero_add]
    simp [hj, bv]⟩

set_option maxRecDepth 100000 in
set_option maxHeartbeats 1000000 in
theorem awake_any (w : World) (ht : Tab w) :
    Calls Tryd.prog 11 #[] w fun e w' => e = .returned (.bool true) ∧ Below w.heap.size w w' := by
  have hcc := fun (w : World) (C : Array Value) (n c : Nat) => Lib.run_convert_bytes_const (P := Tryd.prog) w 22 5 C n c Tryd.underlying22 Tryd.underlying5
  go_enter Tryd.func11, Tryd.ntmps11
  go_wp2_with fail
  refine (ex_0A _).mono ?_
  rintro e w1 ⟨A1, c1, rfl, hb1⟩
  have B1 := Lib.hid hb1
  clear hb1
  go_wp2_with fail
  refine (ex_0a _).mono ?_
  rintro e w2 ⟨A2, c2, rfl, hs2, hb2⟩
  have B2 := Lib.hid hb2
  have S2 := Lib.hid hs2
  clear hb2 hs2
  go_wp2_with fail
  refine (ex_get _ _ (seen_lit w2 5 [172, 2, 7])).mono ?_
  rintro e w3 ⟨rfl, rfl⟩
  go_wp2_with fail
  refine (ex_wide _).mono ?_
  rintro e w4 ⟨A4, rfl, hs4, hb4⟩
  have B4 := Lib.hid hb4
  have S4 := Lib.hid hs4
  clear hb4 hs4
  obtain ⟨b2, o2, rfl, l2, hc2⟩ := S2.out.at_ (k := 0) (by decide)
  obtain ⟨b4, o4, rfl, l4, hc6⟩ := S4.out.at_ (k := 6) (by decide)
  obtain ⟨b4', o4', e4, _, hc7⟩ := S4.out.at_ (k := 7) (by decide)
  injection e4 with e4
  injection e4 with e4 e5
  subst e4 e5
  have C2 := Lib.hid hc2
  have C6 := Lib.hid hc6
  have C7 := Lib.hid hc7
  clear hc2 hc6 hc7
  have T4 : Tab w4 := (((ht.below B1.out).below B2.out).below ((Below.refl _ _).alloc (Nat.le_refl _) _)).below B4.out
  have L24 : b2 < w4.heap.size := by have h := B4.out.size; have h2 : w2.heap.size < (w2.alloc (.cells #[bv 172, bv 2, bv 7] 5)).heap.size := by simp
                                     omega
  have D2 : Hid (w4.cell? ⟨b2, o2, none⟩ = some (.int .u8 10)) := by
    show _ = _
    rw [B4.out.cell (p := ⟨b2, o2, none⟩) (by have h2 : w2.heap.size < (w2.alloc (.cells #[bv 172, bv 2, bv 7] 5)).heap.size := by simp
                                              show b2 < _; omega), World.cell?_alloc_lt _ _ _ l2]
    exact C2.out
  have BW : Hid (Below w.heap.size w w4) := hop (hop (hop B1.out B2.out) ((Below.refl _ _).alloc (Nat.le_refl _) _)) B4.out
  clear B1 B2 B4 S2 S4 C2
  go_wp2_with fail
  refine (ex_hex _ _ (seen_lit w4 5 [10, 255])).mono ?_
  rintro e w5 ⟨rfl, hb5⟩
  have B5 : Hid (Below w4.heap.size w4 w5) := hop ((Below.refl _ _).alloc (Nat.le_refl _) _) hb5
  clear hb5
  have d2 : w5.cell? ⟨b2, o2, none⟩ = some (.int .u8 10) := (B5.out.cell (p := ⟨b2, o2, none⟩) L24).trans D2.out
  go_wp2_with fail
  refine (ex_put _).mono ?_
  rintro e w6 ⟨A6, c6, rfl, hs6, hb6⟩
  have B6 := Lib.hid hb6
  have h46 : Below w4.heap.size w4 w6 := hop B5.out B6.out
  have B46 := Lib.hid h46
  have k6 : w6.cell? ⟨b4, o4 + 6, none⟩ = some (.int .u8 1) := (h46.cell (p := ⟨b4, o4 + 6, none⟩) l4).trans C6.out
  have k7 : w6.cell? ⟨b4, o4 + 7, none⟩ = some (.int .u8 2) := (h46.cell (p := ⟨b4, o4 + 7, none⟩) l4).trans C7.out
  have hcv : (convert 22 9 (.slice A6 2 c6)).run Tryd.prog w6 = .ok (.string ⟨#[172, 2]⟩) w6 := hs6.text (P := Tryd.prog) 22 9 5 Tryd.underlying22 Tryd.underlying5 Tryd.underlying9 c6
  clear hb6 hs6 h46 d2
  go_wp2_with fail
  refine (ex_crc _ _ (seen_mark w6 5 [49, 50, 51, 52, 53, 54, 55, 56, 57] _)).mono ?_
  rintro e w7 ⟨rfl, rfl⟩
  go_wp2_with fail
  refine (ex_show _ ?_).mono ?_
  · exact (T4.below B46.out).below ((Below.refl _ _).alloc (Nat.le_refl _) _)
  rintro e w8 ⟨rfl, hb8⟩
  have BL : Hid (Below w.heap.size w w8) := hop (hop BW.out B46.out) (hop ((Below.refl _ _).alloc (Nat.le_refl _) _) hb8)
  clear hb8
  go_wp2_with fail
  go_ret
  exact ⟨rfl, BL.out⟩
end Go.Proofs.YtjjefjkaepbhpaaDoor
