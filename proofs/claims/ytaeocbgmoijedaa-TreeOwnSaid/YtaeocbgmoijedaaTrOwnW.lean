/-
  The walk of the statement TreeOwn: what is handed in and answered is one's own. Condition: the byte is a byte.
-/
import Derived.Test.YtaeocbgmoijedaaTrWrit
import Derived.Test.YtaeocbgmoijedaaTrCopyT
namespace Go.Proofs.Ytaeocbgmoijedaa
open Go.RowKit

set_option maxHeartbeats 4000000 in
set_option maxRecDepth 100000 in
theorem treeOwn_walk (KA : Option Addr) (k : List UInt8) (kc : Nat) (VA : Option Addr) (v : List UInt8) (vc : Nat) (a2 : Int) (w : World) (hkl : k.length ≤ 140737488351232) (hk : Seen w KA k) (hvl : v.length ≤ 140737488351232) (hv : Seen w VA v) (hc0 : 0 ≤ a2) (hc1 : a2 ≤ 255) :
    Calls Try.prog 5 #[.slice KA k.length kc, .slice VA v.length vc, .int .u8 a2] w fun e w' => e = .returned (.bool true) ∧ Below w.heap.size w w' := by
  have HAW := Lib.hid (awake_any w)
  obtain ⟨nk, hnk⟩ : ∃ nk, nk = k.length := ⟨_, rfl⟩
  obtain ⟨nv, hnv⟩ : ∃ nv, nv = v.length := ⟨_, rfl⟩
  rw [← hnk] at hkl ⊢
  rw [← hnv] at hvl ⊢
  have HNK := Lib.hid hnk
  have HNV := Lib.hid hnv
  have SK := Lib.hid hk
  have SV := Lib.hid hv
  have HCB : Hid (0 ≤ a2 ∧ a2 < 256) := ⟨hc0, by omega⟩
  clear hk hv hnk hnv hc0 hc1
  obtain ⟨i0, hi, hz0, hz1, hz2⟩ := info_parts info8i
  go_enter Try.func5, Try.ntmps5
  go_wp2_with fail
  with_reducible refine HAW.out.mono ?_
  rintro e w1 ⟨rfl, hb1⟩
  have B1 := Lib.hid hb1
  clear hb1 HAW
  go_wp2_with fail
  with_reducible refine (new_any w1 1000).mono ?_
  rintro e w2 ⟨rfl, hb2, hsz, ht2⟩
  have T2 := Lib.hid ht2
  have B2 := Lib.hid (hop B1.out hb2)
  have HGW : Hid (w.heap.size ≤ w1.heap.size) := B1.out.size
  have HG2 : Hid (w1.heap.size < w2.heap.size) := by show _ < _; omega
  clear hsz ht2 hb2
  obtain ⟨g, hg⟩ : ∃ g, g = w1.heap.size := ⟨_, rfl⟩
  rw [← hg] at T2 HGW HG2 ⊢
  clear hg
  by_cases ck : 100 < nk
  · have ck' : (100 : Int) < (nk : Int) := by omega
    go_wp2_with fail
    go_ret
    exact ⟨rfl, B2.out⟩
  by_cases cv : 100 < nv
  · have cv' : (100 : Int) < (nv : Int) := by omega
    go_wp2_with fail
    go_ret
    exact ⟨rfl, B2.out⟩
  have ck' : ¬ (100 : Int) < (nk : Int) := by omega
  have cv' : ¬ (100 : Int) < (nv : Int) := by omega
  have dk : decide ((100 : Int) < (nk : Int)) = false := decide_eq_false ck'
  have dv : decide ((100 : Int) < (nv : Int)) = false := decide_eq_false cv'
  go_wp2_with (first
    | (at_builtin
       refine wpList_append_bytes w2 rfl _ _ 31 rfl 5 i0 (.int .u8 0) Try.underlying31 hi hz0 hz1 hz2 rfl w2 _ [] KA k kc rfl (by rw [← HNK.out]; rfl) (Made.nil _ _) (SK.out.below B2.out) (by rw [List.length_nil, ← HNK.out]; omega) ?_
       intro v3 w3 hm3 hb3
       obtain ⟨A3, c3, rfl, ha3⟩ := hm3.awayW
       have M3 : Hid (AwayW w3 (fun b => b < w2.heap.size) A3 k) := ha3
       have B23 : Hid (Below w2.heap.size w2 w3) := hm3.2
       rw [show (([] : List UInt8) ++ k).length = nk from HNK.out.symm]
       clear hm3 hb3 ha3)
    | (at_builtin
       refine wpList_append_bytes w3 rfl _ _ 31 rfl 5 i0 (.int .u8 0) Try.underlying31 hi hz0 hz1 hz2 rfl w3 _ [] VA v vc rfl (by rw [← HNV.out]; rfl) (Made.nil _ _) (SV.out.below (hop B2.out B23.out)) (by rw [List.length_nil, ← HNV.out]; omega) ?_
       intro v4 w4 hm4 hb4
       obtain ⟨A4, c4, rfl, ha4⟩ := hm4.awayW
       have M4 : Hid (AwayW w4 (fun b => b < w3.heap.size) A4 v) := ha4
       have B34 : Hid (Below w3.heap.size w3 w4) := hm4.2
       rw [show (([] : List UInt8) ++ v).length = nv from HNV.out.symm]
       clear hm4 hb4 ha4))
  have B24 := Lib.hid (hop B23.out B34.out)
  have B4 := Lib.hid (hop B2.out B24.out)
  obtain ⟨Z, hZ⟩ : ∃ Z : Nat → Prop, Z = fun b => w2.heap.size ≤ b ∧ b < w4.heap.size := ⟨_, rfl⟩
  have HZ : Hid (∀ b, Z b ↔ w2.heap.size ≤ b ∧ b < w4.heap.size) := fun b => by rw [hZ]
  clear hZ
  have T4 : Hid (TreeAt w4 (fun b => b = g ∨ Z b) g 1000 []) := (T2.out _ (.inl rfl)).below B24.out
  have M34 := Lib.hid (M3.out.moved (.of_below B34.out _) (fun _ h => .inl h))
  have HF4 : Hid (∀ b, (b = g ∨ Z b) → b < w4.heap.size) := fun b hb => by
    rcases hb with rfl | hb
    · exact T4.out.lt
    · exact ((HZ.out b).1 hb).2
  clear T2 dk dv ck' cv'
  with_reducible refine (put_named w4 (fun b => b = g ∨ Z b) HF4.out g 1000 [] A3 A4 k v nk c3 nv c4 T4.out (by simp) M34.out.seen HNK.out.symm M4.out.seen HNV.out.symm (by omega) (by omega)).mono ?_
  rintro e w5 ⟨r, L', rfl, ht5, hs5, hr5⟩
  have hL5 : L' = [(k, v)] := by
    rcases hr5 with ⟨h1, _⟩ | ⟨_, _, h⟩
    · rw [one_put, one_size, ← HNK.out, ← HNV.out] at h1; omega
    · rw [h, one_put]
  subst hL5
  have T5 := Lib.hid ht5
  have S5 := Lib.hid hs5
  have M35 := Lib.hid (M34.out.moved (hs5.mono (fun b hb => by rw [hb]; exact HG2.out)) (fun _ h => .inl h))
  have M45 := Lib.hid (M4.out.moved (hs5.mono (fun b hb => by rw [hb]; exact Nat.lt_of_lt_of_le HG2.out B23.out.size)) (fun _ h => .inl h))
  have B5 : Hid (Below w.heap.size w w5) := hs5.below B4.out (fun j hj => by have := HGW.out; omega)
  have HF5 : Hid (∀ b, (b = g ∨ Z b) → b < w5.heap.size) := fun b hb => Nat.lt_of_lt_of_le (HF4.out b hb) hs5.size
  clear ht5 hs5 hr5
  go_wp2_with fail
  with_reducible refine (tcopy_any w5 (fun b => b = g ∨ Z b) HF5.out g 1000 [(k, v)] T5.out).mono ?_
  rintro e w6 ⟨hb6, g', rfl, hg1, hg2, hu6⟩
  have U6 := Lib.hid hu6
  have HW56 : Hid (w5.heap.size ≤ w6.heap.size) := hb6.size
  have T6 : Hid (TreeAt w6 (fun b => (b = g ∨ Z b) ∨ b = g') g 1000 [(k, v)]) := T5.out.moved (.of_below hb6 _) (fun i hi => hi.imp id (fun e => by rw [e]; exact hg1)) (.inl (.inl rfl))
  have B6 := Lib.hid (hop B5.out hb6)
  have M36 := Lib.hid (M35.out.moved (.of_below hb6 _) (fun _ h => .inl h))
  have M46 := Lib.hid (M45.out.moved (.of_below hb6 _) (fun _ h => .inl h))
  have HG1 : Hid (w4.heap.size ≤ g') := Nat.le_trans S5.out.size hg1
  have HGL : Hid (g' < w6.heap.size) := hg2
  have HGG : Hid (g ≠ g') := by show _ ≠ _; have := T5.out.lt; omega
  have HO3 : Hid (∀ x, blkN A3 nk x → w2.heap.size ≤ x ∧ x < w3.heap.size) := fun x hx => by have := M3.out.out_ HNK.out.symm x hx; omega
  have HO4 : Hid (∀ x, blkN A4 nv x → w3.heap.size ≤ x ∧ x < w4.heap.size) := fun x hx => by have := M4.out.out_ HNV.out.symm x hx; omega
  have W36 := Lib.hid (M36.out.writ HNK.out.symm)
  have W46 := Lib.hid (M46.out.writ HNV.out.symm)
  clear hb6 hg1 hg2 hu6 M36 M46 M35 M45 M34 M3 M4
  go_wp2_with fail
  go_loopg [12] nk (fun kx s wr => ∃ i : Nat, i + kx = nk ∧ s = .int .i64 (i : Int) ∧ Spared w6 wr (blkN A3 nk) ∧ Writ wr A3 nk)
  case atStart => exact ⟨0, by omega, rfl, Spared.refl _ _, W36.out⟩
  case round =>
    obtain ⟨i, hi, rfl, hsp, hwr⟩ := hrel
    have HI := Lib.hid hi
    have HSP := Lib.hid hsp
    have HWR := Lib.hid hwr
    clear hi hsp hwr
    by_cases hlt : i < nk
    · have hkl : (i : Int) < (nk : Int) := by omega
      obtain ⟨b, off, rfl, ⟨u, hu⟩, hfz, hset⟩ := HWR.out.at_ hlt
      have HSET := Lib.hid hset
      have hwi : IntKind.i64.wrap ((i : Int) + 1) = ((i + 1 : Nat) : Int) := by rw [IntKind.wrap_i64]; omega
      clear hset
      go_wp2_with fail
      go_roundg (nk - (i + 1))
      case measure => have := HI.out; omega
      case rel => exact ⟨i + 1, by have := HI.out; omega, by go_num, HSP.out.trans (HSET.out _).2 (fun _ h => .inl h), (HSET.out _).1⟩
    · have hkl : ¬ (i : Int) < (nk : Int) := by omega
      rename World => w7
      have S67 : Hid (Spared w6 w7 Z) := HSP.out.mono (fun x hx => (HZ.out x).2 (by have := HO3.out x hx; have := B34.out.size; omega))
      have W47 : Hid (Writ w7 A4 nv) := W46.out.moved HSP.out (fun x h4 h3 => by have := HO3.out x h3; have := HO4.out x h4; omega)
      clear HSP HWR W36 W46 HI hlt HO3
      go_wp2_with fail
      go_loopg [13] nv (fun kx s wr2 => ∃ i : Nat, i + kx = nv ∧ s = .int .i64 (i : Int) ∧ Spared w7 wr2 (blkN A4 nv) ∧ Writ wr2 A4 nv)
      case atStart => exact ⟨0, by omega, rfl, Spared.refl _ _, W47.out⟩
      case round =>
        obtain ⟨j, hi, rfl, hsp, hwr⟩ := hrel
        have HI := Lib.hid hi
        have HSP := Lib.hid hsp
        have HWR := Lib.hid hwr
        clear hi hsp hwr hkl
        by_cases hlt : j < nv
        · have hkl : (j : Int) < (nv : Int) := by omega
          obtain ⟨b, off, rfl, ⟨u, hu⟩, hfz, hset⟩ := HWR.out.at_ hlt
          have HSET := Lib.hid hset
          have hwi : IntKind.i64.wrap ((j : Int) + 1) = ((j + 1 : Nat) : Int) := by rw [IntKind.wrap_i64]; omega
          clear hset
          go_wp2_with fail
          go_roundg (nv - (j + 1))
          case measure => have := HI.out; omega
          case rel => exact ⟨j + 1, by have := HI.out; omega, by go_num, HSP.out.trans (HSET.out _).2 (fun _ h => .inl h), (HSET.out _).1⟩
        · have hkl : ¬ (j : Int) < (nv : Int) := by omega
          rename World => w8
          have S68 : Hid (Spared w6 w8 Z) := S67.out.trans (HSP.out.mono (fun x hx => (HZ.out x).2 (by have := HO4.out x hx; have := B23.out.size; omega))) (fun _ h => .inl h)
          have T8 : Hid (TreeAt w8 (fun b => (b = g ∨ Z b) ∨ b = g') g 1000 [(k, v)]) := T6.out.moved (S68.out.mono (fun b hb => ⟨.inl (.inr hb), by have := (HZ.out b).1 hb; have := HG2.out; omega⟩)) (fun _ h => .inl h) (.inl (.inl rfl))
          have U8 : Hid (TreeAt w8 (fun b => (b = g ∨ Z b) ∨ b = g') g' 1000 [(k, v)]) := U6.out.moved (S68.out.mono (fun b hb => ⟨.inl (.inr hb), by have := (HZ.out b).1 hb; have := HG1.out; omega⟩)) (fun _ h => .inl h) (.inr rfl)
          have B8 : Hid (Below w.heap.size w w8) := S68.out.below B6.out (fun b hb => by have := (HZ.out b).1 hb; have := B2.out.size; omega)
          have HGL8 : Hid (g' < w8.heap.size ∧ g < w8.heap.size) := ⟨U8.out.lt, T8.out.lt⟩
          obtain ⟨F1, hF1⟩ : ∃ F1 : Nat → Prop, F1 = fun b => (b = g ∨ Z b) ∨ b = g' := ⟨_, rfl⟩
          rw [← hF1] at T8 U8
          have HF1 : Hid (∀ b, F1 b → b < w8.heap.size) := fun b hb => by
            rw [hF1] at hb
            rcases hb with hb | rfl
            · have h1 := HF5.out b hb; have h2 := HG1.out; have h3 := S68.out.size; have h4 := B6.out
              have h5 : w5.heap.size ≤ w6.heap.size := HW56.out
              omega
            · exact HGL8.out.1
          clear HSP HWR W47 S67 S68 HO4 HI hlt hF1 T6 U6 HG1 HG2 T4 T5 S5 HF4 HF5 HZ
          go_wp2_with fail
          with_reducible refine (get_named w8 F1 g 1000 [(k, v)] KA k nk kc T8.out (SK.out.below B8.out) HNK.out.symm).mono ?_
          rintro e w9 ⟨hb9, X, nx, cx, rfl, hx9, hn9⟩
          rw [one_has]
          rw [one_gv] at hx9 hn9
          obtain rfl : nx = nv := by rw [← hn9, ← HNV.out]
          have X9 := Lib.hid hx9
          have B9 := Lib.hid (hop B8.out hb9)
          obtain ⟨F2, hF2⟩ : ∃ F2 : Nat → Prop, F2 = fun b => F1 b ∨ (w8.heap.size ≤ b ∧ b < w9.heap.size) := ⟨_, rfl⟩
          have HF2 : Hid (∀ b, F2 b ↔ F1 b ∨ (w8.heap.size ≤ b ∧ b < w9.heap.size)) := fun b => by rw [hF2]
          have HL2 : Hid (∀ b, F2 b → b < w9.heap.size) := fun b hb => ((HF2.out b).1 hb).elim (fun h => Nat.lt_of_lt_of_le (HF1.out b h) hb9.size) (fun h => h.2)
          have T9 : Hid (TreeAt w9 F2 g 1000 [(k, v)]) := T8.out.moved (.of_below hb9 _) (fun i hi => ((HF2.out i).1 hi).imp id (fun h => h.1)) ((HF2.out g).2 (.inl T8.out.1))
          have U9 : Hid (TreeAt w9 F2 g' 1000 [(k, v)]) := U8.out.moved (.of_below hb9 _) (fun i hi => ((HF2.out i).1 hi).imp id (fun h => h.1)) ((HF2.out g').2 (.inl U8.out.1))
          have HOX : Hid (∀ x, blkN X nx x → w8.heap.size ≤ x ∧ x < w9.heap.size) := fun x hx => by have := X9.out.out_ hn9 x hx; omega
          have WX9 := Lib.hid (X9.out.writ hn9)
          clear hb9 hx9 hn9 hF2 T8 U8 X9
          go_wp2_with fail
          go_loopg [16] nx (fun kx s wr => ∃ i : Nat, i + kx = nx ∧ s = .int .i64 (i : Int) ∧ Spared w9 wr (blkN X nx) ∧ Writ wr X nx)
          case atStart => exact ⟨0, by omega, rfl, Spared.refl _ _, WX9.out⟩
          case round =>
            obtain ⟨j, hi, rfl, hsp, hwr⟩ := hrel
            have HI := Lib.hid hi
            have HSP := Lib.hid hsp
            have HWR := Lib.hid hwr
            clear hi hsp hwr hkl
            by_cases hlt : j < nx
            · have hkl : (j : Int) < (nx : Int) := by omega
              obtain ⟨b, off, rfl, ⟨u, hu⟩, hfz, hset⟩ := HWR.out.at_ hlt
              have HSET := Lib.hid hset
              have hwi : IntKind.i64.wrap ((j : Int) + 1) = ((j + 1 : Nat) : Int) := by rw [IntKind.wrap_i64]; omega
              clear hset
              go_wp2_with fail
              go_roundg (nx - (j + 1))
              case measure => have := HI.out; omega
              case rel => exact ⟨j + 1, by have := HI.out; omega, by go_num, HSP.out.trans (HSET.out _).2 (fun _ h => .inl h), (HSET.out _).1⟩
            · have hkl : ¬ (j : Int) < (nx : Int) := by omega
              rename World => w10
              have T10 : Hid (TreeAt w10 F2 g 1000 [(k, v)]) := T9.out.moved (HSP.out.mono (fun b hb => ⟨(HF2.out b).2 (.inr (HOX.out b hb)), by have := HOX.out b hb; have := HGL8.out; omega⟩)) (fun _ h => .inl h) T9.out.1
              have U10 : Hid (TreeAt w10 F2 g' 1000 [(k, v)]) := U9.out.moved (HSP.out.mono (fun b hb => ⟨(HF2.out b).2 (.inr (HOX.out b hb)), by have := HOX.out b hb; have := HGL8.out; omega⟩)) (fun _ h => .inl h) U9.out.1
              have B10 : Hid (Below w.heap.size w w10) := HSP.out.below B9.out (fun b hb => by have := HOX.out b hb; have := B8.out.size; omega)
              have HL10 : Hid (∀ b, F2 b → b < w10.heap.size) := fun b hb => Nat.lt_of_lt_of_le (HL2.out b hb) HSP.out.size
              have HGL10 : Hid (g' < w10.heap.size ∧ g < w10.heap.size) := ⟨U10.out.lt, T10.out.lt⟩
              clear HSP HWR WX9 HOX HI hlt T9 U9
              go_wp2_with fail
              with_reducible refine (scan_any w10 F2 g 1000 [(k, v)] none none [] [] 0 0 0 0 5 T10.out (Seen.nil _ _) rfl (Seen.nil _ _) rfl (by omega)).mono ?_
              rintro e w11 ⟨hb11, B0, acc, v11, rfl, hB0, hf, hacc⟩
              rw [one_scan] at hacc
              obtain ⟨A11, c11, rfl⟩ := hf.form
              obtain ⟨hn1, br, orow, A0, c0, rfl, hbr, hbr2, hcell, haw⟩ := found_one hf hacc
              rw [hn1]
              rw [← HNK.out] at hcell
              have B11 := Lib.hid (hop B10.out hb11)
              obtain ⟨F3, hF3⟩ : ∃ F3 : Nat → Prop, F3 = fun b => F2 b ∨ (w10.heap.size ≤ b ∧ b < w11.heap.size) := ⟨_, rfl⟩
              have HF3 : Hid (∀ b, F3 b ↔ F2 b ∨ (w10.heap.size ≤ b ∧ b < w11.heap.size)) := fun b => by rw [hF3]
              have HL3 : Hid (∀ b, F3 b → b < w11.heap.size) := fun b hb => ((HF3.out b).1 hb).elim (fun h => Nat.lt_of_lt_of_le (HL10.out b h) hb11.size) (fun h => h.2)
              have T11 : Hid (TreeAt w11 F3 g 1000 [(k, v)]) := T10.out.moved (.of_below hb11 _) (fun i hi => ((HF3.out i).1 hi).imp id (fun h => h.1)) ((HF3.out g).2 (.inl T10.out.1))
              have U11 : Hid (TreeAt w11 F3 g' 1000 [(k, v)]) := U10.out.moved (.of_below hb11 _) (fun i hi => ((HF3.out i).1 hi).imp id (fun h => h.1)) ((HF3.out g').2 (.inl U10.out.1))
              have HOA : Hid (∀ x, blkN A0 nk x → w10.heap.size ≤ x ∧ x < w11.heap.size ∧ x ≠ br) := fun x hx => by have := haw.out_ HNK.out.symm x hx; omega
              have WA11 := Lib.hid (haw.writ HNK.out.symm)
              have HCE : Hid (∀ W, Spared w11 W (blkN A0 nk) → W.cell? ⟨br, orow, none⟩ = some (.slice A0 nk c0)) := fun W hW =>
                (World.cell?_of_block (a := ⟨br, orow, none⟩) (hW.block br hbr2 (fun h => (HOA.out br h).2.2 rfl))).trans hcell
              clear hb11 hf hacc hbr hcell haw hF3 T10 U10 hn1 hB0
              go_wp2_with fail
              go_loopg [18] nk (fun kx s wr => ∃ i : Nat, i + kx = nk ∧ s = .int .i64 (i : Int) ∧ Spared w11 wr (blkN A0 nk) ∧ Writ wr A0 nk)
              case atStart => exact ⟨0, by omega, rfl, Spared.refl _ _, WA11.out⟩
              case round =>
                obtain ⟨j, hi, rfl, hsp, hwr⟩ := hrel
                have HI := Lib.hid hi
                have HSP := Lib.hid hsp
                have HWR := Lib.hid hwr
                clear hi hsp hwr hkl
                have hce := HCE.out _ HSP.out
                by_cases hlt : j < nk
                · have hkl : (j : Int) < (nk : Int) := by omega
                  obtain ⟨b, off, rfl, ⟨u, hu⟩, hfz, hset⟩ := HWR.out.at_ hlt
                  have HSET := Lib.hid hset
                  have hwi : IntKind.i64.wrap ((j : Int) + 1) = ((j + 1 : Nat) : Int) := by rw [IntKind.wrap_i64]; omega
                  clear hset
                  go_wp2_with fail
                  go_roundg (nk - (j + 1))
                  case measure => have := HI.out; omega
                  case rel => exact ⟨j + 1, by have := HI.out; omega, by go_num, HSP.out.trans (HSET.out _).2 (fun _ h => .inl h), (HSET.out _).1⟩
                · have hkl : ¬ (j : Int) < (nk : Int) := by omega
                  rename World => w12
                  have T12 : Hid (TreeAt w12 F3 g 1000 [(k, v)]) := T11.out.moved (HSP.out.mono (fun b hb => ⟨(HF3.out b).2 (.inr (by have := HOA.out b hb; omega)), by have := HOA.out b hb; have := HGL10.out; omega⟩)) (fun _ h => .inl h) T11.out.1
                  have U12 : Hid (TreeAt w12 F3 g' 1000 [(k, v)]) := U11.out.moved (HSP.out.mono (fun b hb => ⟨(HF3.out b).2 (.inr (by have := HOA.out b hb; omega)), by have := HOA.out b hb; have := HGL10.out; omega⟩)) (fun _ h => .inl h) U11.out.1
                  have B12 : Hid (Below w.heap.size w w12) := HSP.out.below B11.out (fun b hb => by have := HOA.out b hb; have := B10.out.size; omega)
                  have HL12 : Hid (∀ b, F3 b → b < w12.heap.size) := fun b hb => Nat.lt_of_lt_of_le (HL3.out b hb) HSP.out.size
                  clear HSP HWR WA11 HOA HI hlt T11 U11 HCE
                  go_wp2_with fail
                  with_reducible refine (get_named w12 F3 g 1000 [(k, v)] KA k nk kc T12.out (SK.out.below B12.out) HNK.out.symm).mono ?_
                  rintro e w13 ⟨hb13, Y, ny, cy, rfl, hy13, hn13⟩
                  rw [one_has]
                  rw [one_gv] at hy13 hn13
                  obtain rfl : ny = nx := by rw [← hn13, ← HNV.out]
                  have Y13 := Lib.hid hy13
                  have T13 := Lib.hid (T12.out.below hb13)
                  have U13 := Lib.hid (U12.out.below hb13)
                  have B13 := Lib.hid (hop B12.out hb13)
                  have HL13 : Hid (∀ b, F3 b → b < w13.heap.size) := fun b hb => Nat.lt_of_lt_of_le (HL12.out b hb) hb13.size
                  clear hb13 hy13 hn13
                  obtain ⟨w14, hw14⟩ : ∃ w14, w14 = w13.alloc (.cells #[.int .u8 a2, .int .u8 a2] 5) := ⟨_, rfl⟩
                  have HW14 : Hid (w13.alloc (.cells #[.int .u8 a2, .int .u8 a2] 5) = w14) := hw14.symm
                  have hb14 : Below w13.heap.size w13 w14 := by rw [hw14]; exact (Below.refl _ _).alloc (Nat.le_refl _) _
                  have SC14 : Hid (Seen w14 (some ⟨w13.heap.size, 0, none⟩) [UInt8.ofNat a2.toNat, UInt8.ofNat a2.toNat]) := by
                    have h := seen_mark w13 5 [UInt8.ofNat a2.toNat, UInt8.ofNat a2.toNat] (0, 0)
                    have e : [UInt8.ofNat a2.toNat, UInt8.ofNat a2.toNat].map bv = [.int .u8 a2, .int .u8 a2] := by
                      show [bv _, bv _] = _
                      rw [bv_ofInt a2 HCB.out.1 HCB.out.2]
                    rw [e] at h
                    rw [hw14]
                    exact h
                  have T14 := Lib.hid (T13.out.below hb14)
                  have U14 := Lib.hid (U13.out.below hb14)
                  have B14 := Lib.hid (hop B13.out hb14)
                  have Y14 := Lib.hid (Y13.out.moved (.of_below hb14 _) (fun _ h => .inl h))
                  have HL14 : Hid (∀ b, F3 b → b < w14.heap.size) := fun b hb => Nat.lt_of_lt_of_le (HL13.out b hb) hb14.size
                  clear hw14 hb14
                  go_wp2_with fail
                  rw [HW14.out]
                  with_reducible refine (put_named w14 F3 HL14.out g 1000 [(k, v)] KA (some ⟨w13.heap.size, 0, none⟩) k [UInt8.ofNat a2.toNat, UInt8.ofNat a2.toNat] nk kc 2 2 T14.out (by simp) (SK.out.below B14.out) HNK.out.symm SC14.out rfl (by omega) (by omega)).mono ?_
                  rintro e w15 ⟨r2, L15, rfl, _, hs15, _⟩
                  have HNG : Hid (g ≠ g') := HGG.out
                  have U15 : Hid (TreeAt w15 F3 g' 1000 [(k, v)]) := U14.out.moved (hs15.mono (fun b hb => by rw [hb]; exact ⟨T14.out.1, HNG.out⟩)) (fun _ h => .inl h) U14.out.1
                  have B15 : Hid (Below w.heap.size w w15) := hs15.below B14.out (fun j hj => by have := HGW.out; omega)
                  have Y15 := Lib.hid (Y14.out.moved (hs15.mono (fun b hb => by rw [hb]; exact T12.out.lt)) (fun _ h => .inl h))
                  clear hs15
                  go_wp2_with fail
                  with_reducible refine (get_named w15 F3 g' 1000 [(k, v)] KA k nk kc U15.out (SK.out.below B15.out) HNK.out.symm).mono ?_
                  rintro e w16 ⟨hb16, Q, nq, cq, rfl, hq16, hn16⟩
                  rw [one_has]
                  rw [one_gv] at hq16 hn16
                  obtain rfl : nq = ny := by rw [← hn16, ← HNV.out]
                  have Y16 := Lib.hid (Y15.out.seen.below hb16)
                  have B16 := Lib.hid (hop B15.out hb16)
                  have hv := HNV.out
                  have uY : (convert 31 9 (.slice Y nq cy)).run Try.prog w16 = .ok (.string ⟨v.toArray⟩) w16 := text_on Y16.out nq cy hn16 w16 (Below.refl _ _)
                  have uQ : (convert 31 9 (.slice Q nq cq)).run Try.prog w16 = .ok (.string ⟨v.toArray⟩) w16 := text_on hq16.seen nq cq hn16 w16 (Below.refl _ _)
                  have uV : (convert 31 9 (.slice VA nq vc)).run Try.prog w16 = .ok (.string ⟨v.toArray⟩) w16 := text_on SV.out nq vc hn16 w16 B16.out
                  clear hb16 hq16 hn16 hv
                  go_wp2_with fail
                  go_ret
                  exact ⟨rfl, B16.out⟩
end Go.Proofs.Ytaeocbgmoijedaa
