/-
  What the program's Encode comes to: the bytes of a frame, or none. Condition: the data are at most 2^46 bytes.
-/
import Derived.Test.YtkbjhnlihnakkaaFEnc
namespace Go.Proofs.Ytkbjhnlihnakkaa
open Go.RowKit

theorem make_room (n : Nat) (h : n ≤ 140737488351232) (W : World) : (Instr.makeSlice 22 (.int .i64 0) (.int .i64 (n : Int))).run Try.prog W = .ok (.slice (some ⟨W.heap.size, 0, none⟩) 0 n) (W.alloc (.cells (madeCells #[.int .u8 0] n) 5)) := by
  obtain ⟨i0, hi, hz0, hz1, hz2⟩ := info_parts info8p
  have hr := run_make (P := Try.prog) W 22 5 i0 (.int .u8 0) Try.underlying22 hi hz0 .i64 .i64 0 (n : Int) (by omega) (by omega) (by rw [hz2]; omega) (by omega)
  rw [hr, hz1, show ((n : Nat) : Int).toNat = n from by omega, Nat.mul_one]
  rfl
theorem crc_made (A : Option Addr) (l : List UInt8) (n c : Nat) (w : World) (hn : l.length = n) (hl : n ≤ 9223372036854775807) (hs : Seen w A l) :
    Calls Try.prog 50 #[.slice A n c] w fun e w' => e = .returned (.int .u32 (crcOf l : Nat)) ∧ w = w' := by
  subst hn
  exact crc_any A l c w hl hs
/-- the cells of a frame that lies in a block of its own -/
def boxed (w : World) (g s : Int) (v : Value) : World := w.alloc (.cells #[.int .i64 g, .int .i64 s, v] 77)
theorem boxed_cells {w W : World} {g s : Int} {v : Value} (hb : Below (boxed w g s v).heap.size (boxed w g s v) W) :
    W.cell? ⟨w.heap.size, 0, none⟩ = some (.int .i64 g) ∧ W.cell? ⟨w.heap.size, 1, none⟩ = some (.int .i64 s) ∧ W.cell? ⟨w.heap.size, 2, none⟩ = some v := by
  have B := (Blk.new w [.int .i64 g, .int .i64 s, v] 77).below hb (by simp [boxed])
  exact ⟨B.cell (i := 0) (by simp), B.cell (i := 1) (by simp), B.cell (i := 2) (by simp)⟩
theorem boxed_below (w : World) (g s : Int) (v : Value) : Below w.heap.size w (boxed w g s v) := (Below.refl _ _).alloc (Nat.le_refl _) _
theorem sum4_cells (x : Nat) (hx : x < 4294967296) : ((sum4 x).map bv).toArray = #[.int .u8 ((x : Int) / 16777216), .int .u8 ((x : Int) / 65536 % 256), .int .u8 ((x : Int) / 256 % 256), .int .u8 ((x : Int) % 256)] := by
  have e : ∀ (y : Nat) (z : Int), ((y % 256 : Nat) : Int) = z → bv (UInt8.ofNat (y % 256)) = .int .u8 z := fun y z h => by
    unfold bv; rw [UInt8.toNat_ofNat', ← h]; congr 1; omega
  simp only [sum4, List.map_cons, List.map_nil]
  rw [e _ ((x : Int) / 16777216) (by omega), e _ ((x : Int) / 65536 % 256) (by omega), e _ ((x : Int) / 256 % 256) (by omega), e _ ((x : Int) % 256) (by omega)]

set_option maxRecDepth 100000 in
set_option maxHeartbeats 2000000 in
theorem encode_may (g s : Int) (A : Option Addr) (d : List UInt8) (n c : Nat) (w : World) (hs : Seen w A d) (hn : d.length = n) (hm : mayB g s d.length = true) :
    Calls Try.prog 34 #[.agg #[.int .i64 g, .int .i64 s, .slice A n c]] w fun e w' => ∃ A' n' c', e = .returned (.slice A' n' c') ∧ MadeN 5 w (frameL g s d) A' n' c' w' := by
  obtain ⟨i0, hi, hz0, hz1, hz2⟩ := info_parts info8p
  obtain ⟨g0, g1, s0, s1, n1⟩ := mayB_true hm
  obtain ⟨S, hS⟩ : ∃ S : Nat, S = (frameL g s d).length := ⟨_, rfl⟩
  have hsz : sizeL (n : Int) = (S : Int) := by rw [hS, ← hn]; exact sizeL_frame hm
  have hS1 : 22 ≤ S := by rw [hS]; exact frameL_pos g s d
  have hS2 : S ≤ 65560 := by
    have := encF_fits g s d
    rw [encF_may hm] at this; omega
  have hn65 : n ≤ 65536 := by omega
  have HSZ := fun W => size_any (n : Int) W (by omega) (by omega)
  rw [hsz] at HSZ
  have HSZ' := Lib.hid HSZ
  have hig : inB g = true := decide_eq_true ⟨g0, g1⟩
  have his : inB s = true := decide_eq_true ⟨s0, s1⟩
  have HIG := fun W => inRange_any g W (by omega) (by omega)
  have HIS := fun W => inRange_any s W (by omega) (by omega)
  rw [hig] at HIG
  rw [his] at HIS
  have HIG' := Lib.hid HIG
  have HIS' := Lib.hid HIS
  have HN := Lib.hid hn
  have HS := Lib.hid (hs.below (boxed_below w g s (.slice A n c)))
  have HBX := Lib.hid (boxed_below w g s (.slice A n c))
  have HCELL : Hid (∀ W, Below (boxed w g s (.slice A n c)).heap.size (boxed w g s (.slice A n c)) W → W.cell? ⟨w.heap.size, 0, none⟩ = some (.int .i64 g) ∧ W.cell? ⟨w.heap.size, 1, none⟩ = some (.int .i64 s) ∧ W.cell? ⟨w.heap.size, 2, none⟩ = some (.slice A n c)) := fun W hb => boxed_cells hb
  obtain ⟨W0, hW0⟩ : ∃ W0, W0 = boxed w g s (.slice A n c) := ⟨_, rfl⟩
  rw [← hW0] at HS HBX HCELL
  have HW0 : Hid (W0 = w.alloc (.cells #[.int .i64 g, .int .i64 s, .slice A n c] 77)) := hW0
  clear hs hn hm hS hsz hig his HIG HIS HSZ hW0
  obtain ⟨b0, b1, b2⟩ := HCELL.out W0 (Below.refl _ _)
  go_enter Try.func34, Try.ntmps34
  go_wp2_with fail
  rw [← HW0.out]
  refine (HSZ'.out W0).mono ?_
  rintro e w1 ⟨rfl, hb1⟩
  have HB1 := Lib.hid hb1
  obtain ⟨p0, p1, p2⟩ := HCELL.out w1 hb1
  clear hb1 b0 b1 b2
  have t0 : ((S : Int) == 0) = false := by rw [beq_eq_false_iff_ne]; omega
  go_wp2_with fail
  refine (HIG'.out w1).mono ?_
  rintro e w1' ⟨rfl, rfl⟩
  go_wp2_with fail
  refine (HIS'.out w1).mono ?_
  rintro e w1' ⟨rfl, rfl⟩
  have hmk := make_room S (by omega) w1
  have HM0 : Hid (MadeN 5 W0 [] (some ⟨w1.heap.size, 0, none⟩) 0 S (w1.alloc (.cells (madeCells #[.int .u8 0] S) 5))) :=
    ⟨rfl, World.ownsRow_made w1 _ S HB1.out.size (by unfold maxLen; omega) (by simp [madeCells]), HB1.out.alloc HB1.out.size _⟩
  have L245 : Hid (([245] : List UInt8).length = 1) := rfl
  obtain ⟨D1, hD1⟩ : ∃ D : List UInt8, D = [] ++ [245] := ⟨_, rfl⟩
  obtain ⟨N1, hN1⟩ : ∃ N : Nat, N = 0 + 1 := ⟨_, rfl⟩
  have ED1 := Lib.hid hD1
  have EN1 := Lib.hid hN1
  clear hD1 hN1 p0 p1 p2
  go_wp2_with (at_builtin; refine wpList_append_new (w1.alloc (.cells (madeCells #[.int .u8 0] S) 5)) rfl (.tmp 26) (.tmp 27) 22 rfl 5 i0 (.int .u8 0) Try.underlying22 hi hz0 hz1 hz2 rfl W0 _ 0 S [] 1 _ [245] D1 N1 rfl (w1.heap.size + 1) (by simp) rfl HM0 rfl L245 ED1 EN1 (by omega) ?_)
  intro A2 c2 w2 HM2 _
  obtain ⟨p0, p1, p2⟩ := HCELL.out w2 HM2.out.2.2
  clear hmk HM0
  go_wp2_with fail
  refine (appendNumber_any W0 w2 A2 D1 N1 c2 n HM2.out (by omega) (by have := EN1.out; omega)).mono ?_
  rintro e w3 ⟨A3, N3, c3, rfl, hm3, hn3, _⟩
  have HM3 := Lib.hid hm3
  obtain ⟨q0, q1, q2⟩ := HCELL.out w3 hm3.2.2
  clear hm3 HM2 p0 p1 p2
  go_wp2_with fail
  refine (wide_any g w3).mono ?_
  rintro e w4 ⟨A4, rfl, hs4, hb4⟩
  have HS4 : Hid (Seen w4 A4 (wideI g)) := hs4
  have HM4 := Lib.hid (HM3.out.below hb4)
  have L8 : Hid ((wideI g).length = 8) := wideI_length g
  clear hs4 hb4 q0 q1 q2 HM3
  obtain ⟨D3, hD3⟩ : ∃ D : List UInt8, D = D1 ++ putL n := ⟨_, rfl⟩
  rw [← hD3] at HM4
  obtain ⟨D5, hD5⟩ : ∃ D : List UInt8, D = D3 ++ wideI g := ⟨_, rfl⟩
  obtain ⟨N5, hN5⟩ : ∃ N : Nat, N = N3 + 8 := ⟨_, rfl⟩
  have ED3 := Lib.hid hD3
  have ED5 := Lib.hid hD5
  have EN5 := Lib.hid hN5
  clear hD3 hD5 hN5
  have hN3 : N3 ≤ 10 := by have := EN1.out; omega
  go_wp2_with (at_builtin; refine wpList_append_to w4 rfl (.tmp 34) (.tmp 37) 22 rfl 5 i0 (.int .u8 0) Try.underlying22 hi hz0 hz1 hz2 rfl W0 A3 N3 c3 D3 A4 8 8 (wideI g) D5 N5 rfl rfl HM4 HS4 L8 ED5 EN5 (by omega) ?_)
  intro A5 c5 w5 HM5 _
  obtain ⟨p0, p1, p2⟩ := HCELL.out w5 HM5.out.2.2
  clear HM4 HS4
  go_wp2_with fail
  refine (wide_any s w5).mono ?_
  rintro e w6 ⟨A6, rfl, hs6, hb6⟩
  have HS6 : Hid (Seen w6 A6 (wideI s)) := hs6
  have HM6 := Lib.hid (HM5.out.below hb6)
  have L8' : Hid ((wideI s).length = 8) := wideI_length s
  clear hs6 hb6 p0 p1 p2 HM5
  obtain ⟨D7, hD7⟩ : ∃ D : List UInt8, D = D5 ++ wideI s := ⟨_, rfl⟩
  obtain ⟨N7, hN7⟩ : ∃ N : Nat, N = N5 + 8 := ⟨_, rfl⟩
  have ED7 := Lib.hid hD7
  have EN7 := Lib.hid hN7
  clear hD7 hN7
  have hN5 : N5 ≤ 18 := by have := EN5.out; omega
  go_wp2_with (at_builtin; refine wpList_append_to w6 rfl (.tmp 39) (.tmp 42) 22 rfl 5 i0 (.int .u8 0) Try.underlying22 hi hz0 hz1 hz2 rfl W0 A5 N5 c5 D5 A6 8 8 (wideI s) D7 N7 rfl rfl HM6 HS6 L8' ED7 EN7 (by omega) ?_)
  intro A7 c7 w7 HM7 _
  obtain ⟨p0, p1, p2⟩ := HCELL.out w7 HM7.out.2.2
  clear HM6 HS6
  have HSD := Lib.hid (HS.out.below HM7.out.2.2)
  obtain ⟨D8, hD8⟩ : ∃ D : List UInt8, D = D7 ++ d := ⟨_, rfl⟩
  obtain ⟨N8, hN8⟩ : ∃ N : Nat, N = N7 + n := ⟨_, rfl⟩
  have ED8 := Lib.hid hD8
  have EN8 := Lib.hid hN8
  clear hD8 hN8
  have hN7 : N7 ≤ 26 := by have := EN7.out; omega
  go_wp2_with (at_builtin; refine wpList_append_to w7 rfl (.tmp 44) (.tmp 46) 22 rfl 5 i0 (.int .u8 0) Try.underlying22 hi hz0 hz1 hz2 rfl W0 A7 N7 c7 D7 A n c d D8 N8 rfl rfl HM7 HSD HN ED8 EN8 (by omega) ?_)
  intro A8 c8 w8 HM8 _
  clear HM7 HSD p0 p1 p2
  have hN8 : N8 ≤ 70000 := by have := EN8.out; omega
  go_wp2_with fail
  refine (crc_made A8 D8 N8 c8 w8 HM8.out.1 (by omega) HM8.out.seen).mono ?_
  rintro e w9 ⟨rfl, rfl⟩
  have hxl := crcOf_lt D8
  have HX := Lib.hid (sum4_cells (crcOf D8) hxl)
  have HXL := Lib.hid (sum4_length (crcOf D8))
  obtain ⟨X, hX⟩ : ∃ X, X = crcOf D8 := ⟨_, rfl⟩
  rw [← hX] at HX hxl HXL
  rw [← hX]
  have EX := Lib.hid hX
  clear hX
  obtain ⟨D9, hD9⟩ : ∃ D : List UInt8, D = D8 ++ sum4 X := ⟨_, rfl⟩
  obtain ⟨N9, hN9⟩ : ∃ N : Nat, N = N8 + 4 := ⟨_, rfl⟩
  have ED9 := Lib.hid hD9
  have EN9 := Lib.hid hN9
  clear hD9 hN9
  go_wp2_with (at_builtin; refine wpList_append_new w8 rfl (.tmp 50) (.tmp 62) 22 rfl 5 i0 (.int .u8 0) Try.underlying22 hi hz0 hz1 hz2 rfl W0 A8 N8 c8 D8 4 _ (sum4 X) D9 N9 rfl _ rfl rfl HM8 HX.out HXL ED9 EN9 (by omega) ?_)
  intro A9 c9 w9 HM9 _
  go_wp2_with fail
  go_ret
  have hD : D9 = frameL g s d := by
    have h8 : D8 = headL g s d := by
      rw [ED8.out, ED7.out, ED5.out, ED3.out, ED1.out, headL, HN.out]
      simp
    rw [ED9.out, EX.out, h8, frameL, sumOf]
  have h9 := HM9.out
  rw [hD] at h9
  exact ⟨A9, N9, c9, rfl, h9.1, h9.2.since HBX.out⟩

set_option maxRecDepth 100000 in
set_option maxHeartbeats 1000000 in
theorem encode_not (g s : Int) (A : Option Addr) (d : List UInt8) (n c : Nat) (w : World) (hn : d.length = n) (hl : n ≤ 9223372036854775807) (g0 : -9223372036854775808 ≤ g) (g1 : g ≤ 9223372036854775807) (s0 : -9223372036854775808 ≤ s) (s1 : s ≤ 9223372036854775807) (hm : mayB g s d.length = false) :
    Calls Try.prog 34 #[.agg #[.int .i64 g, .int .i64 s, .slice A n c]] w fun e w' => e = .returned (.slice none 0 0) ∧ Below w.heap.size w w' := by
  have hm' := mayB_false hm
  rw [hn] at hm'
  have HBX := Lib.hid (boxed_below w g s (.slice A n c))
  have HCELL : Hid (∀ W, Below (boxed w g s (.slice A n c)).heap.size (boxed w g s (.slice A n c)) W → W.cell? ⟨w.heap.size, 0, none⟩ = some (.int .i64 g) ∧ W.cell? ⟨w.heap.size, 1, none⟩ = some (.int .i64 s) ∧ W.cell? ⟨w.heap.size, 2, none⟩ = some (.slice A n c)) := fun W hb => boxed_cells hb
  obtain ⟨W0, hW0⟩ : ∃ W0, W0 = boxed w g s (.slice A n c) := ⟨_, rfl⟩
  rw [← hW0] at HBX HCELL
  have HW0 : Hid (W0 = w.alloc (.cells #[.int .i64 g, .int .i64 s, .slice A n c] 77)) := hW0
  have HSZ := Lib.hid (fun W => size_any (n : Int) W (by omega) (by omega))
  clear hW0 hm hn
  by_cases hb : 65536 < n
  · have h0 : sizeL (n : Int) = 0 := if_pos (.inr (by omega))
    rw [h0] at HSZ
    clear h0 hm' hb
    go_enter Try.func34, Try.ntmps34
    go_wp2_with fail
    rw [← HW0.out]
    refine (HSZ.out W0).mono ?_
    rintro e w1 ⟨rfl, hb1⟩
    have HB1 := Lib.hid hb1
    clear hb1
    go_wp2_with fail
    go_ret
    exact ⟨rfl, HBX.out.trans (HB1.out.mono HBX.out.size)⟩
  · obtain ⟨S, hS⟩ : ∃ S : Nat, (S : Int) = sizeL (n : Int) ∧ 0 < S := by
      refine ⟨(putL n).length + n + 21, ?_, by omega⟩
      rw [sizeL, if_neg (by omega)]
      simp only [Int.toNat_natCast]
      omega
    rw [← hS.1] at HSZ
    have t0 : ((S : Int) == 0) = false := by rw [beq_eq_false_iff_ne]; omega
    clear hS
    have HIG := Lib.hid (fun W => inRange_any g W g0 g1)
    by_cases hg : 0 ≤ g ∧ g ≤ 1152921504606846976
    · have hig : inB g = true := decide_eq_true hg
      have his : inB s = false := decide_eq_false (by omega)
      have HIS := Lib.hid (fun W => inRange_any s W s0 s1)
      rw [hig] at HIG
      rw [his] at HIS
      clear hig his hm' hg hb
      go_enter Try.func34, Try.ntmps34
      go_wp2_with fail
      rw [← HW0.out]
      refine (HSZ.out W0).mono ?_
      rintro e w1 ⟨rfl, hb1⟩
      have HB1 := Lib.hid hb1
      obtain ⟨p0, p1, p2⟩ := HCELL.out w1 hb1
      clear hb1
      go_wp2_with fail
      refine (HIG.out w1).mono ?_
      rintro e w1' ⟨rfl, rfl⟩
      go_wp2_with fail
      refine (HIS.out w1).mono ?_
      rintro e w1' ⟨rfl, rfl⟩
      go_wp2_with fail
      go_ret
      exact ⟨rfl, HBX.out.trans (HB1.out.mono HBX.out.size)⟩
    · have hig : inB g = false := decide_eq_false hg
      rw [hig] at HIG
      clear hig hm' hg hb
      go_enter Try.func34, Try.ntmps34
      go_wp2_with fail
      rw [← HW0.out]
      refine (HSZ.out W0).mono ?_
      rintro e w1 ⟨rfl, hb1⟩
      have HB1 := Lib.hid hb1
      obtain ⟨p0, p1, p2⟩ := HCELL.out w1 hb1
      clear hb1
      go_wp2_with fail
      refine (HIG.out w1).mono ?_
      rintro e w1' ⟨rfl, rfl⟩
      go_wp2_with fail
      go_ret
      exact ⟨rfl, HBX.out.trans (HB1.out.mono HBX.out.size)⟩

theorem encode_any (g s : Int) (A : Option Addr) (d : List UInt8) (n c : Nat) (w : World) (hs : Seen w A d) (hn : d.length = n) (hl : n ≤ 9223372036854775807) (g0 : -9223372036854775808 ≤ g) (g1 : g ≤ 9223372036854775807) (s0 : -9223372036854775808 ≤ s) (s1 : s ≤ 9223372036854775807) :
    Calls Try.prog 34 #[.agg #[.int .i64 g, .int .i64 s, .slice A n c]] w fun e w' => ∃ A' n' c', e = .returned (.slice A' n' c') ∧ MadeN 5 w (encF g s d) A' n' c' w' := by
  by_cases hm : mayB g s d.length = true
  · rw [encF_may hm]; exact encode_may g s A d n c w hs hn hm
  · have hm : mayB g s d.length = false := by simpa using hm
    rw [encF_not hm]
    refine (encode_not g s A d n c w hn hl g0 g1 s0 s1 hm).mono ?_
    rintro e w' ⟨rfl, hb⟩
    exact ⟨none, 0, 0, rfl, rfl, World.ownsRow_nil _ _ _ _, hb⟩
end Go.Proofs.Ytkbjhnlihnakkaa
