/-
  The statement NumBack, the stage's theorem: what was told as text, or put into bytes, is read as it was, whatever stands behind. No conditions beyond the row's own.
-/
import Derived.Test.YtjjefjkaepbhpaaDoorAwake
import Derived.Test.YtjjefjkaepbhpaaDoorInv
import Derived.Deep.RegionHeldLaw
import Derived.Lib.ItoaLen
namespace Go.Proofs.YtjjefjkaepbhpaaDoor
open Go.RowKit

theorem text_later {w w' : World} {A : Option Addr} {l : List UInt8} (h : Seen w A l) (hb : Below w.heap.size w w') (c : Nat) :
    (convert 22 9 (.slice A l.length c)).run Tryd.prog w' = .ok (.string ⟨l.toArray⟩) w' :=
  (h.below hb).text 22 9 5 Tryd.underlying22 Tryd.underlying5 Tryd.underlying9 c

/-- Hex, its text under one name, and what Unhex says of it. -/
theorem hex_named (l : List UInt8) (hl : l.length ≤ 140737488351232) : ∃ T : ByteArray,
    (∀ W A c, Seen W A l → Calls Tryd.prog 14 #[.slice A l.length c] W fun e W' => e = .returned (.string T) ∧ Below W.heap.size W W') ∧
    (∀ W, Calls Tryd.prog 12 #[.string T] W fun e W' => ∃ A c, e = .returned (.tuple #[.slice A l.length c, .bool true]) ∧ Seen W' A l ∧ Below W.heap.size W W') := by
  refine ⟨⟨(hexL l).toArray⟩, fun W A c hs => hex_any A l c W hl hs, fun W => ?_⟩
  refine (unhex_any ⟨(hexL l).toArray⟩ W (by
    show (hexL l).toArray.size ≤ _
    rw [List.size_toArray, hexL_length]; omega)).mono ?_
  rintro e W' ⟨A, c, rfl, hs, hb⟩
  have e : unh (⟨(hexL l).toArray⟩ : ByteArray).data.toList [] = some l := unh_hex l []
  rw [e] at hs
  exact ⟨A, c, by rw [e]; rfl, hs, hb⟩

/-- Wide, and what Narrow says of it. -/
theorem wide_read (n : Int) (h0 : -9223372036854775808 ≤ n) (h1 : n ≤ 9223372036854775807) : ∃ L : List UInt8,
    (∀ W, Calls Tryd.prog 26 #[.int .i64 n] W fun e W' => ∃ A, e = .returned (.slice A 8 8) ∧ Seen W' A L ∧ Below W.heap.size W W') ∧
    (∀ W A, Seen W A L → Calls Tryd.prog 24 #[.slice A 8 8] W fun e W' => e = .returned (.tuple #[.int .i64 n, .int .i64 0]) ∧ W = W') := by
  refine ⟨wideOf (n % 18446744073709551616).toNat, fun W => wide_any n W, fun W A hs => ?_⟩
  have h := narrow_any A (wideOf (n % 18446744073709551616).toNat) 8 W (wideOf_length _) hs
  rw [wide_back n h0 h1, wideOf_length] at h
  exact h

set_option maxRecDepth 100000 in
set_option maxHeartbeats 2000000 in
theorem numBack_neg (A : Option Addr) (l : List UInt8) (c : Nat) (n : Int) (A9 : Option Addr) (l9 : List UInt8) (c9 : Nat) (w : World) (hl : l.length ≤ 140737488351232) (hs : Seen w A l)
    (h0 : -9223372036854775808 ≤ n) (hn : n < 0) (ht : Tab w) :
    Calls Tryd.prog 8 #[.slice A l.length c, .int .i64 n, .slice A9 l9.length c9] w fun e w' => e = .returned (.bool true) ∧ Below w.heap.size w w' := by
  have HS := Lib.hid hs
  obtain ⟨T, hh, hu⟩ := hex_named l hl
  obtain ⟨L, hw, hr⟩ := wide_read n h0 (by omega)
  have HH := Lib.hid hh
  have HU := Lib.hid hu
  have HW := Lib.hid hw
  have HR := Lib.hid hr
  clear hs hh hu hw hr
  go_enter Tryd.func8, Tryd.ntmps8
  go_wp2_with fail
  refine (awake_any _ ht).mono ?_
  rintro e w1 ⟨rfl, hb1⟩
  have B1 := Lib.hid hb1
  clear hb1
  go_wp2_with fail
  refine (HH.out _ _ _ (HS.out.below B1.out)).mono ?_
  rintro e w2 ⟨rfl, hb2⟩
  have B2 : Hid (Below w.heap.size w w2) := hop B1.out hb2
  clear hb2
  go_wp2_with fail
  refine (HU.out _).mono ?_
  rintro e w3 ⟨A3, c3, rfl, hs3, hb3⟩
  have S3 := Lib.hid hs3
  have B3 := Lib.hid hb3
  clear hs3 hb3
  go_wp2_with fail
  refine (HW.out _).mono ?_
  rintro e w4 ⟨A4, rfl, hs4, hb4⟩
  have S4 := Lib.hid hs4
  have B4 := Lib.hid hb4
  clear hs4 hb4
  go_wp2_with fail
  refine (HR.out _ _ S4.out).mono ?_
  rintro e w5 ⟨rfl, rfl⟩
  have BW : Hid (Below w.heap.size w w4) := hop B2.out (hop B3.out B4.out)
  have hu3 := text_later S3.out B4.out c3
  have hub := text_later HS.out BW.out c
  have hll : (l != l) = false := by simp
  have hnn : (n != n) = false := by simp
  go_wp2_with fail
  have hud := text_later (w' := w4.drew) HS.out BW.out.drew c
  clear hu3 hub
  go_region_held_law (fun _ => True) (trivial) (first
    | (go_at_call 22; refine (put_neg A l c n _ hl hn ?_).mono ?_; exact HS.out.below BW.out.drew; rintro e w6 ⟨v6, rfl, hm6⟩; obtain ⟨A6, c6, rfl, hs6⟩ := hm6.form; have hu6 := text_later hs6 (Below.refl _ _) c6; have B6 : Hid (Below w.heap.size w w6) := hop BW.out (undrew hm6.2); have hub6 := text_later HS.out B6.out c; clear hs6 hm6))
  all_goals go_wp2_with fail
  all_goals go_ret
  all_goals exact ⟨rfl, B6.out⟩

/-- Put behind nothing, its bytes under one name, and what Get says of them. -/
theorem put_read (n : Nat) (h : n ≤ 9223372036854775807) : ∃ L : List UInt8, L.length ≤ 9 ∧
    (∀ W, Calls Tryd.prog 22 #[.slice none 0 0, .int .i64 (n : Int)] W fun e W' => ∃ A c, e = .returned (.slice A L.length c) ∧ Seen W' A L ∧ Below W.heap.size W W') ∧
    (∀ t : List UInt8, ∀ W A c, L.length + t.length ≤ 9223372036854775807 → Seen W A (L ++ t) → Calls Tryd.prog 20 #[.slice A (L.length + t.length) c] W fun e W' => e = .returned (.tuple #[.int .i64 (n : Int), .int .i64 (L.length : Int)]) ∧ W = W') := by
  refine ⟨putL n, putL_length9 h, fun W => ?_, fun t W A c hl hs => ?_⟩
  · refine (put_any none [] 0 n W (by decide) h (.inl rfl)).mono ?_
    rintro e W' ⟨v, rfl, hm⟩
    obtain ⟨A, c, rfl, hs⟩ := hm.form
    exact ⟨A, c, rfl, hs, hm.2⟩
  · rw [← List.length_append] at hl ⊢
    have hg := get_any A (putL n ++ t) c W hl hs
    rw [get_put0 t n h] at hg
    exact hg

/-- Show, its text under one name, and what Parse says of it. -/
theorem show_read (n : Nat) (h : n ≤ 9223372036854775807) : ∃ (T : ByteArray) (x : Nat) (o : Bool), (n ≤ 999999999999999999 → x = n ∧ o = true) ∧
    (∀ W, Tab W → Calls Tryd.prog 18 #[.int .i64 (n : Int)] W fun e W' => e = .returned (.string T) ∧ Below W.heap.size W W') ∧
    (∀ W, Calls Tryd.prog 16 #[.string T] W fun e W' => e = .returned (.tuple #[.int .i64 (x : Int), .bool o]) ∧ W = W') := by
  refine ⟨⟨(Lib.itoa (n : Int)).toArray⟩, (parseOf (Lib.itoa (n : Int))).1, (parseOf (Lib.itoa (n : Int))).2, fun hn => ?_, fun W ht => show_any (n : Int) W (by omega) (by omega) ht, fun W => ?_⟩
  · rw [parse_show n hn]; exact ⟨rfl, rfl⟩
  · exact parse_any ⟨(Lib.itoa (n : Int)).toArray⟩ W (by
      have := Lib.itoa_length_le (n : Int) (by omega) (by omega)
      show (Lib.itoa (n : Int)).toArray.size ≤ _
      rw [List.size_toArray]; omega)

set_option maxRecDepth 100000 in
set_option maxHeartbeats 2000000 in
theorem numBack_pos (A : Option Addr) (l : List UInt8) (c : Nat) (n : Nat) (A9 : Option Addr) (l9 : List UInt8) (c9 : Nat) (w : World) (hl : l.length ≤ 140737488351232) (hs : Seen w A l)
    (hl9 : l9.length ≤ 140737488351232) (hs9 : Seen w A9 l9) (hn : n ≤ 9223372036854775807) (ht : Tab w) :
    Calls Tryd.prog 8 #[.slice A l.length c, .int .i64 (n : Int), .slice A9 l9.length c9] w fun e w' => e = .returned (.bool true) ∧ Below w.heap.size w w' := by
  obtain ⟨i0, hi, hz0, hz1, hz2⟩ := info_parts info8p
  have HS := Lib.hid hs
  obtain ⟨T, hh, hu⟩ := hex_named l hl
  obtain ⟨L, hw, hr⟩ := wide_read (n : Int) (by omega) (by omega)
  have HH := Lib.hid hh
  have HU := Lib.hid hu
  have HW := Lib.hid hw
  have HR := Lib.hid hr
  obtain ⟨P, hP9, hp, hg⟩ := put_read n hn
  obtain ⟨U, x, o, hxo, hsh, hpa⟩ := show_read n hn
  have HP := Lib.hid hp
  have HG := Lib.hid hg
  have HSH := Lib.hid hsh
  have HPA := Lib.hid hpa
  have HXO := Lib.hid hxo
  have HS9 := Lib.hid hs9
  clear hs hh hu hw hr hp hg hsh hpa hxo hs9
  go_enter Tryd.func8, Tryd.ntmps8
  go_wp2_with fail
  refine (awake_any _ ht).mono ?_
  rintro e w1 ⟨rfl, hb1⟩
  have B1 := Lib.hid hb1
  clear hb1
  go_wp2_with fail
  refine (HH.out _ _ _ (HS.out.below B1.out)).mono ?_
  rintro e w2 ⟨rfl, hb2⟩
  have B2 : Hid (Below w.heap.size w w2) := hop B1.out hb2
  clear hb2
  go_wp2_with fail
  refine (HU.out _).mono ?_
  rintro e w3 ⟨A3, c3, rfl, hs3, hb3⟩
  have S3 := Lib.hid hs3
  have B3 := Lib.hid hb3
  clear hs3 hb3
  go_wp2_with fail
  refine (HW.out _).mono ?_
  rintro e w4 ⟨A4, rfl, hs4, hb4⟩
  have S4 := Lib.hid hs4
  have B4 := Lib.hid hb4
  clear hs4 hb4
  go_wp2_with fail
  refine (HR.out _ _ S4.out).mono ?_
  rintro e w5 ⟨rfl, rfl⟩
  have BW : Hid (Below w.heap.size w w4) := hop B2.out (hop B3.out B4.out)
  have hu3 := text_later S3.out B4.out c3
  have hub := text_later HS.out BW.out c
  have hll : (l != l) = false := by simp
  have hnn : ((n : Int) != (n : Int)) = false := by simp
  go_wp2_with fail
  refine (HP.out _).mono ?_
  rintro e w6 ⟨A6, c6, rfl, hs6, hb6⟩
  have S6 := Lib.hid hs6
  have B6 := Lib.hid hb6
  clear hs6 hb6 hu3 hub hll hnn
  have HO := Made.nil 5 w6
  go_wp2_with (at_builtin; refine wpList_append_bytes _ rfl _ _ 22 rfl 5 i0 (.int .u8 0) Tryd.underlying22 hi hz0 hz1 hz2 rfl w6 _ [] A6 P c6 rfl rfl HO ?c1 ?c2 ?_)
  case c1 => exact S6.out
  case c2 => simp; omega
  intro v7 w7 HM7 hb7
  have B7 := Lib.hid hb7
  clear hb7
  have BX : Hid (Below w.heap.size w w7) := hop (hop BW.out B6.out) B7.out
  go_wp2_with (at_builtin; refine wpList_append_bytes _ rfl _ _ 22 rfl 5 i0 (.int .u8 0) Tryd.underlying22 hi hz0 hz1 hz2 rfl w6 v7 P A9 l9 c9 rfl rfl HM7 ?c3 ?c4 ?_)
  case c3 => exact HS9.out.below BX.out
  case c4 => omega
  intro v8 w8 HM8 hb8
  have B8 : Hid (Below w.heap.size w w8) := hop (hop BW.out B6.out) HM8.2
  clear hb8 HM7 HO
  obtain ⟨A8, c8, rfl, hs8⟩ := HM8.form
  have S8 := Lib.hid hs8
  clear hs8 HM8
  go_wp2_with fail
  ((with_reducible refine (HG.out l9 _ _ _ (by omega) S8.out).mono ?_))
  rintro e w9 ⟨rfl, rfl⟩
  go_wp2_with fail
  refine (HSH.out _ (ht.below B8.out)).mono ?_
  rintro e w9 ⟨rfl, hb9⟩
  have B9 : Hid (Below w.heap.size w w9) := hop B8.out hb9
  clear hb9
  go_wp2_with fail
  refine (HPA.out _).mono ?_
  rintro e w10 ⟨rfl, rfl⟩
  have e1 : ((n : Int) == (n : Int)) = true := by simp
  have e2 : ((P.length : Int) == (P.length : Int)) = true := by simp
  clear HG HSH HPA HP HR HW HU HH
  by_cases hbig : n ≤ 999999999999999999
  · obtain ⟨rfl, rfl⟩ := HXO.out hbig
    go_wp2_with fail
    all_goals go_ret
    all_goals exact ⟨rfl, B9.out⟩
  · clear HXO
    go_wp2_with fail
    all_goals go_ret
    all_goals exact ⟨rfl, B9.out⟩

theorem numBack_walk (A : Option Addr) (l : List UInt8) (c : Nat) (n : Int) (A9 : Option Addr) (l9 : List UInt8) (c9 : Nat) (w : World) (hl : l.length ≤ 140737488351232) (hs : Seen w A l)
    (h0 : -9223372036854775808 ≤ n) (h1 : n ≤ 9223372036854775807) (hl9 : l9.length ≤ 140737488351232) (hs9 : Seen w A9 l9) (ht : Tab w) :
    Calls Tryd.prog 8 #[.slice A l.length c, .int .i64 n, .slice A9 l9.length c9] w fun e w' => e = .returned (.bool true) ∧ Below w.heap.size w w' := by
  by_cases hn : n < 0
  · exact numBack_neg A l c n A9 l9 c9 w hl hs h0 hn ht
  · obtain ⟨m, rfl⟩ := Int.eq_ofNat_of_zero_le (show 0 ≤ n by omega)
    exact numBack_pos A l c m A9 l9 c9 w hl hs hl9 hs9 (by omega) ht
end Go.Proofs.YtjjefjkaepbhpaaDoor
