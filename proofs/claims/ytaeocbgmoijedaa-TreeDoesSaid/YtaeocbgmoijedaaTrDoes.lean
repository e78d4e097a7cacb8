/-
  The walk of the statement TreeDoes: a tree and the document's map, side by side. Condition: the number fits 64 bits.
-/
import Derived.Test.YtaeocbgmoijedaaTrDo
import Derived.Test.YtaeocbgmoijedaaTrCopyT
import Derived.BigQuiet
import Derived.Laws.Cover1
import Derived.Deep.RegionHeldLaw
namespace Go.Proofs.Ytaeocbgmoijedaa
open Go.RowKit

/-- going on with a copy -/
theorem Both.copied {w w1 w2 : World} {g gm g' : Nat} {room : Int} {L : List Kv} (h : Both w g gm room L) (h1 : Below w.heap.size w w1) (hg : w.heap.size ≤ g') (t : TreeAt w1 (fun b => (b = g ∨ b = gm) ∨ b = g') g' room L) (hs : Spared w1 w2 (fun b => b = g)) : Both w2 g' gm room L := by
  have hlg := h.tree.lt
  have hlm := h.map.lt
  refine ⟨by omega, t.moved (hs.mono (fun b hb => ⟨.inl (.inl hb), ?_⟩)) (fun i hi => ?_) (.inl rfl), h.map.moved (((Spared.of_below h1 (fun b => b = g)).trans hs (fun _ h => .inl h)).mono (fun b hb => ⟨.inl hb, fun e => h.ne (hb.symm.trans e)⟩)) (fun i hi => ?_) (.inr rfl)⟩
  · subst hb; omega
  · rcases hi with hi | hi
    · exact .inl (.inr hi)
    · exact .inl (.inl (.inr hi))
  · rcases hi with hi | hi
    · exact .inr (by omega)
    · exact .inl (.inr hi)
/-- calls of a tree that nobody asks again -/
theorem put_left (W : World) (F : Nat → Prop) (hF : ∀ b, F b → b < W.heap.size) (g : Nat) (room : Int) (L : List Kv) (t : TreeAt W F g room L) (hl : L.length ≤ 99999) (k : Key) (fr : Nat × Nat) (n : Nat) (hk : k.length = n) (hn : n ≤ 100) :
    Calls Try.prog 13 #[.pointer (some ⟨g, 0, none⟩), .slice (some ⟨W.heap.size, 0, none⟩) n n, .slice none 0 0] (W.alloc (.cells (k.map bv).toArray 5 fr)) fun e w' => ∃ (r : Int) (L' : List Kv), e = .returned (.int .i64 r) ∧ TreeAt w' F g room L' ∧ Spared W w' (fun b => b = g) := by
  have hb : Below W.heap.size W (W.alloc (.cells (k.map bv).toArray 5 fr)) := (Below.refl _ _).alloc (Nat.le_refl _) _
  refine (put_named _ F (fun b hb2 => Nat.lt_of_lt_of_le (hF b hb2) hb.size) g room L _ none k [] n n 0 0 (t.below hb) hl (seen_mark W 5 k fr) hk (Seen.nil _ _) rfl (by omega) (by omega)).mono ?_
  rintro e w' ⟨r, L', rfl, h1, h2, _⟩
  exact ⟨r, L', rfl, h1, (Spared.of_below hb _).trans h2 (fun _ h => .inl h)⟩
theorem del_left (W : World) (F : Nat → Prop) (hF : ∀ b, F b → b < W.heap.size) (g : Nat) (room : Int) (L : List Kv) (t : TreeAt W F g room L) (k : Key) (fr : Nat × Nat) (n : Nat) (hk : k.length = n) (hn : n ≤ 100) :
    Calls Try.prog 14 #[.pointer (some ⟨g, 0, none⟩), .slice (some ⟨W.heap.size, 0, none⟩) n n] (W.alloc (.cells (k.map bv).toArray 5 fr)) fun e w' => ∃ r : Bool, e = .returned (.bool r) ∧ Spared W w' (fun b => b = g) := by
  have hb : Below W.heap.size W (W.alloc (.cells (k.map bv).toArray 5 fr)) := (Below.refl _ _).alloc (Nat.le_refl _) _
  refine (del_named _ F (fun b hb2 => Nat.lt_of_lt_of_le (hF b hb2) hb.size) g room L _ k n n (t.below hb) (seen_mark W 5 k fr) hk (by omega)).mono ?_
  rintro e w' ⟨rfl, _, h2⟩
  exact ⟨_, rfl, (Spared.of_below hb _).trans h2 (fun _ h => .inl h)⟩
/-- both, in blocks of the call's own -/
def DoesAt (w : World) (g gm : Nat) (room : Int) (wr : World) (L : List Kv) : Prop := Below w.heap.size w wr ∧ Both wr g gm room L ∧ w.heap.size ≤ g ∧ w.heap.size ≤ gm

set_option maxHeartbeats 4000000 in
set_option maxRecDepth 100000 in
theorem treeDoes_walk (a0 : Int) (A : Option Addr) (l : List TOp) (c : Nat) (w : World) (_b0l : -9223372036854775808 ≤ a0) (_b0h : a0 ≤ 9223372036854775807) (hl : l.length ≤ 9223372036854775807) (hs : TsSeen w A l) :
    Calls Try.prog 3 #[.int .i64 a0, .slice A l.length c] w fun e w' => e = .returned (.bool true) ∧ Below w.heap.size w w' := by
  have hcc := fun (w : World) (C : Array Value) (n c : Nat) => Lib.run_convert_bytes_const (P := Try.prog) w 31 5 C n c Try.underlying31 Try.underlying5
  have HAW := Lib.hid (awake_any w)
  have HS := Lib.hid hs
  obtain ⟨n, hn⟩ : ∃ n, n = l.length := ⟨_, rfl⟩
  rw [← hn] at hl ⊢
  have HN := Lib.hid hn
  clear hs hn
  go_enter Try.func3, Try.ntmps3
  go_wp2_with fail
  with_reducible refine HAW.out.mono ?_
  rintro e w1 ⟨rfl, hb1⟩
  have B1 := Lib.hid hb1
  have S1 : Hid (TsSeen w1 A l) := HS.out.below hb1
  clear hb1 HAW
  go_wp2_with fail
  with_reducible refine (few_any A l n c w1 S1.out HN.out.symm).mono ?_
  rintro e w1' ⟨rfl, rfl⟩
  obtain ⟨fb, hfb⟩ : ∃ fb, fb = fewB l := ⟨_, rfl⟩
  rw [← hfb]
  have HFW := Lib.hid hfb
  clear hfb
  go_wp2_with fail
  with_reducible refine (new_any w1 a0).mono ?_
  rintro e w2 ⟨rfl, hb2, hsz, ht2⟩
  have T2 := Lib.hid (ht2 (fun b => b = w1.heap.size ∨ b = w2.heap.size) (.inl rfl))
  have B2 := Lib.hid (hop B1.out hb2)
  have HGW : Hid (w.heap.size ≤ w1.heap.size) := B1.out.size
  have HGM : Hid (w1.heap.size < w2.heap.size) := by show _ < _; omega
  clear hsz ht2 hb2
  obtain ⟨g, hg⟩ : ∃ g, g = w1.heap.size := ⟨_, rfl⟩
  rw [← hg] at T2 HGW HGM ⊢
  clear hg
  cases fb
  · go_wp2_with fail
    go_ret
    exact ⟨rfl, B2.out⟩
  have M3 : Hid (DoesAt w g w2.heap.size a0 (w2.alloc (.cells #[.int .i64 a0, .slice none 0 0] 30)) []) :=
    ⟨B2.out.alloc B2.out.size _, ⟨Nat.ne_of_lt HGM.out, T2.out.below ((Below.refl _ _).alloc (Nat.le_refl _) _), .inr rfl, Srt.nil, Nat.zero_le _, none, 0, [], rfl, Blk.new w2 [.int .i64 a0, .slice none 0 0] _, .inl rfl, Nat.le_refl _, fun x hx => by cases hx⟩, HGW.out, B2.out.size⟩
  clear T2 B2 B1 S1
  go_wp2_with fail
  obtain ⟨gm, hgm⟩ : ∃ gm, gm = w2.heap.size := ⟨_, rfl⟩
  rw [← hgm] at M3 ⊢
  have hn3 : n ≤ 300 := by have := (few_at HFW.out.symm).1; have := HN.out; omega
  go_loopg [7, 9] n (fun kx s7 s9 wr => ∃ (k g : Nat) (L : List Kv), k + kx = n ∧ s9 = .int .i64 (k : Int) ∧ s7 = .pointer (some ⟨g, 0, none⟩) ∧ L.length ≤ k ∧ DoesAt w g gm a0 wr L)
  case atStart => exact ⟨0, g, [], by omega, rfl, rfl, Nat.le_refl _, M3.out⟩
  case round =>
    clear HGW HGM M3 hgm
    obtain ⟨k, g, L, hk, rfl, rfl, hll, hm⟩ := hrel
    have HK := Lib.hid hk
    have BR : Hid (Below w.heap.size w wr) := hm.1
    have BO : Hid (Both wr g gm a0 L) := hm.2.1
    have HG : Hid (w.heap.size ≤ g ∧ w.heap.size ≤ gm) := hm.2.2
    clear hm hk
    by_cases hlt : k < n
    · have hkl : (k : Int) < (n : Int) := by omega
      have hkn : k < l.length := by have := HN.out; omega
      obtain ⟨b, off, m, z, K, V, ck, cv, y, x, kd, nm, rfl, e1, e2, e3, e4, hym, hxz, hm1, hz1, e5, e6, hsy, hsx, hcl⟩ := HS.out.call HFW.out.symm k hkn
      obtain ⟨o0, o1, o2, o3⟩ := hcl wr BR.out
      have HCL := Lib.hid hcl
      have HYM := Lib.hid hym
      have HXZ := Lib.hid hxz
      have HSY := Lib.hid hsy
      have HSX := Lib.hid hsx
      have hwi : IntKind.i64.wrap ((k : Int) + 1) = ((k + 1 : Nat) : Int) := by rw [IntKind.wrap_i64]; omega
      clear hcl hym hxz hsy hsx e1 e2 e3 e4 e5 e6 hkn
      have HGG0 := HG
      rcases Classical.em (kd = 4) with k4 | k4
      case' inl =>
        subst k4
        clear o1 o2 o3
        go_wp2_with fail
        with_reducible refine (tcopy_any wr _ BO.out.lt g a0 L BO.out.tree).mono ?_
        rintro e w3 ⟨hb3, g3, rfl, hg3, hg4, ht3⟩
        have HG3 : Hid (wr.heap.size ≤ g3 ∧ g3 < w3.heap.size) := ⟨hg3, hg4⟩
        have HB3 := Lib.hid hb3
        have T3 := Lib.hid ht3
        have B3 := Lib.hid (hop BR.out hb3)
        have O3 := Lib.hid (BO.out.tree.below hb3)
        have HLT3 : Hid (∀ b, b = g ∨ b = gm → b < w3.heap.size) := fun b hb => Nat.lt_of_lt_of_le (BO.out.lt b hb) hb3.size
        have HPL : Hid (Calls Try.prog 13 #[.pointer (some ⟨g, 0, none⟩), .slice (some ⟨w3.heap.size, 0, none⟩) 6 6, .slice none 0 0] (w3.alloc (.cells #[.int .u8 99, .int .u8 111, .int .u8 112, .int .u8 105, .int .u8 101, .int .u8 100] 5 (6, 7))) fun e w' => ∃ (r : Int) (L' : List Kv), e = .returned (.int .i64 r) ∧ TreeAt w' (fun b => b = g ∨ b = gm) g a0 L' ∧ Spared w3 w' (fun b => b = g)) :=
          put_left w3 _ HLT3.out g a0 L O3.out (by omega) [99, 111, 112, 105, 101, 100] (6, 7) 6 rfl (by decide)
        clear hb3 hg3 hg4 ht3 o0
        go_wp2_with fail
        with_reducible refine HPL.out.mono ?_
        rintro e w4 ⟨r4, L4, rfl, ht4, hs4⟩
        have S34 := Lib.hid hs4
        have HLT4 : Hid (∀ b, b = g ∨ b = gm → b < w4.heap.size) := fun b hb => Nat.lt_of_lt_of_le (HLT3.out b hb) hs4.size
        have HDL : Hid (Calls Try.prog 14 #[.pointer (some ⟨g, 0, none⟩), .slice (some ⟨w4.heap.size, 0, none⟩) 1 1] (w4.alloc (.cells #[.int .u8 97] 5 (1, 2))) fun e w' => ∃ r : Bool, e = .returned (.bool r) ∧ Spared w4 w' (fun b => b = g)) :=
          del_left w4 _ HLT4.out g a0 L4 ht4 [97] (1, 2) 1 rfl (by decide)
        clear ht4 hs4 HPL
        go_wp2_with fail
        with_reducible refine HDL.out.mono ?_
        rintro e w5 ⟨r5, rfl, hs5⟩
        have S35 := Lib.hid (S34.out.trans hs5 (fun _ h => .inl h))
        have BB : Hid (Both w5 g3 gm a0 L) := BO.out.copied HB3.out HG3.out.1 T3.out S35.out
        have BQ : Hid (Below w.heap.size w w5) := S35.out.below B3.out (fun j hj => by have := HG.out.1; omega)
        have HGG : Hid (w.heap.size ≤ g3 ∧ w.heap.size ≤ gm) := ⟨Nat.le_trans BR.out.size HG3.out.1, HG.out.2⟩
        obtain ⟨p0, p1, p2, p3⟩ := HCL.out w5 BQ.out
        clear hs5 S34 S35 HDL HG3 HB3 T3 B3 O3 HLT3 HLT4
        go_wp2_with fail
      case' inr =>
        have e4 : (kd == 4) = false := by rw [beq_eq_false_iff_ne]; exact k4
        obtain ⟨g3, hg3⟩ : ∃ g3, g3 = g := ⟨_, rfl⟩
        obtain ⟨w5, hw5⟩ : ∃ w5, w5 = wr := ⟨_, rfl⟩
        rw [← hg3, ← hw5]
        have BB : Hid (Both w5 g3 gm a0 L) := by rw [hg3, hw5]; exact BO
        have BQ : Hid (Below w.heap.size w w5) := by rw [hw5]; exact BR
        have HGG : Hid (w.heap.size ≤ g3 ∧ w.heap.size ≤ gm) := by rw [hg3]; exact HG
        obtain ⟨p0, p1, p2, p3⟩ := HCL.out w5 BQ.out
        clear hg3 hw5 o0 o1 o2 o3
        go_wp2_with fail
      all_goals
        have HSP : Hid (∀ W, Spared w5 W (fun b => b = g3 ∨ b = gm) → Below w.heap.size w W) := fun W hW => hW.below BQ.out (fun j hj => by have := HGG.out; omega)
        with_reducible refine (do_any w5 g3 gm a0 L K V y x m z ck cv _ nm BB.out (by have := HK.out; omega) (fun W hW => HSY.out.below (HSP.out W hW)) HYM.out (fun W hW => HSX.out.below (HSP.out W hW)) HXZ.out hm1 hz1).mono ?_
        rintro e w6 ⟨rfl, hs6, L6, hbo6, hl6⟩
        have B6 := Lib.hid (HSP.out w6 hs6)
        have BO6 := Lib.hid hbo6
        obtain ⟨MA, mc, els, he, hel, hb, hcl, hlc, hao, hn9⟩ := map_els hbo6.map
        obtain ⟨nz, hnz⟩ : ∃ nz, L6.length = nz := ⟨_, rfl⟩
        rw [hnz] at hb hl6
        have HNZ := Lib.hid hnz
        have hnz3 : nz ≤ 301 := by have := HK.out; omega
        have HC : Hid (∀ W, Below w6.heap.size w6 W → W.cell? ⟨gm, 1, none⟩ = some (.slice MA nz mc)) := fun W hW => (hb.below hW hb.lt).cell (i := 1) (by simp)
        have HHE : Hid (∀ W, Below w6.heap.size w6 W → Calls Try.prog 17 #[.pointer (some ⟨g3, 0, none⟩)] W fun e w' => (∃ H, e = .returned (.int .i64 H) ∧ HighOk H nz) ∧ Below W.heap.size W w') := fun W hW => by
          rw [← HNZ.out]; exact theight_any W _ g3 a0 L6 (BO6.out.tree.below hW)
        have bd : Below w6.heap.size w6 w6.drew := (Below.refl _ _).drew
        clear he hel hb hcl hlc hao hn9 hnz hs6 hbo6 HSP BB BQ p0 p1 p2 p3 BO BR
        go_wp2_with fail
        go_region_held_law (fun W => W.cell? ⟨gm, 1, none⟩ = some (.slice MA nz mc))
          (first | exact HC.out _ bd | exact HC.out _ B7 | exact HC.out _ B8)
          (first
            | (go_at_call 17; (with_reducible refine (HHE.out _ bd).mono ?_); rintro e w7 ⟨⟨H, rfl, hH⟩, hb7⟩; have B7 := hop bd hb7; have HHH := Lib.hid hH; clear hb7 hH)
            | (go_at_call 16; (with_reducible refine (high_any w7 H nz (Nat.le_trans hnz3 (by decide)) HHH.out).mono ?_); rintro e w8 ⟨rfl, hw8⟩; have B8 : Below w6.heap.size w6 w8 := (by rw [hw8]; exact B7); clear hw8))
        all_goals
          have B8H := Lib.hid B8
          have BO8 := Lib.hid (BO6.out.below B8)
          clear B7 B8 bd HHE HHH
          obtain ⟨sz, hsz⟩ : ∃ sz, sizeL L6 = sz := ⟨_, rfl⟩
          have HSO : Hid (∀ W, Below w8.heap.size w8 W → Calls Try.prog 18 #[.pointer (some ⟨g3, 0, none⟩)] W fun e w' => e = .returned (.bool true) ∧ Below W.heap.size W w') := fun W hW => tsound_any W _ g3 a0 L6 (BO8.out.tree.below hW)
          have HLE : Hid (∀ W, Below w8.heap.size w8 W → Calls Try.prog 19 #[.pointer (some ⟨g3, 0, none⟩)] W fun e w' => e = .returned (.int .i64 (nz : Int)) ∧ w' = W) := fun W hW => by
            rw [← HNZ.out]; exact len_any W _ g3 a0 L6 (BO8.out.tree.below hW)
          have HSI : Hid (∀ W, Below w8.heap.size w8 W → Calls Try.prog 20 #[.pointer (some ⟨g3, 0, none⟩)] W fun e w' => e = .returned (.int .i64 (sz : Int)) ∧ w' = W) := fun W hW => by
            rw [← hsz]; exact size_any W _ g3 a0 L6 (BO8.out.tree.below hW)
          have HRS : Hid (∀ W, Below w8.heap.size w8 W → Calls Try.prog 21 #[.pointer (some ⟨gm, 0, none⟩)] W fun e w' => e = .returned (.int .i64 (sz : Int)) ∧ Below W.heap.size W w') := fun W hW => by
            rw [← hsz]; exact rsize_any W _ gm a0 L6 (BO8.out.map.below hW)
          have HC8 : Hid (∀ W, Below w8.heap.size w8 W → W.cell? ⟨gm, 1, none⟩ = some (.slice MA nz mc)) := fun W hW => HC.out W (hop B8H.out hW)
          have bd8 : Below w8.heap.size w8 w8.drew := (Below.refl _ _).drew
          clear hsz
          go_wp2_with fail
          go_region_held_law (fun W => W.cell? ⟨gm, 1, none⟩ = some (.slice MA nz mc))
            (first | exact HC8.out _ bd8 | exact HC8.out _ B9 | exact HC8.out _ B10 | exact HC8.out _ B11 | exact HC8.out _ B12)
            (first
              | (go_at_call 18; (with_reducible refine (HSO.out _ bd8).mono ?_); rintro e w9 ⟨rfl, hb9⟩; have B9 := hop bd8 hb9; clear hb9)
              | (go_at_call 19; (with_reducible refine (HLE.out _ B9).mono ?_); rintro e w10 ⟨rfl, hw10⟩; have B10 : Below w8.heap.size w8 w10 := (by rw [hw10]; exact B9); clear hw10)
              | (go_at_call 20; (with_reducible refine (HSI.out _ B10).mono ?_); rintro e w11 ⟨rfl, hw11⟩; have B11 : Below w8.heap.size w8 w11 := (by rw [hw11]; exact B10); clear hw11)
              | (go_at_call 21; (with_reducible refine (HRS.out _ B11).mono ?_); rintro e w12 ⟨rfl, hb12⟩; have B12 := hop B11 hb12; clear hb12))
          all_goals
            go_wp2_with fail
            go_roundg (n - (k + 1))
            case measure => have := HK.out; omega
            case rel => exact ⟨k + 1, g3, L6, by have := HK.out; omega, rfl, rfl, by have := HNZ.out; omega, hop (hop B6.out B8H.out) B12, BO8.out.below B12, HGG.out⟩
    · have hkl : ¬ (k : Int) < (n : Int) := by omega
      have hL3 : L.length ≤ 300 := by have := HK.out; omega
      obtain ⟨MA, mc, els, he, hel, hb, hcl, hlc, hao, hn9⟩ := map_els BO.out.map
      have hkv := kv_of hcl hao
      rw [he] at hkv
      have KV := Lib.hid hkv
      obtain ⟨nz, hnz⟩ : ∃ nz, L.length = nz := ⟨_, rfl⟩
      rw [hnz] at hb hL3
      have HNZ := Lib.hid hnz
      have HC : Hid (∀ W, Below wr.heap.size wr W → W.cell? ⟨gm, 1, none⟩ = some (.slice MA nz mc)) := fun W hW => (hb.below hW hb.lt).cell (i := 1) (by simp)
      have HSC : Hid (∀ W, Below wr.heap.size wr W → Calls Try.prog 23 #[.pointer (some ⟨g, 0, none⟩), .slice none 0 0, .slice none 0 0, .int .i64 1000] W (RScanOut W L)) := fun W hW => by
        have := scan_named W _ g a0 L none none [] [] 0 0 0 0 1000 (BO.out.tree.below hW) (Seen.nil _ _) rfl (Seen.nil _ _) rfl (by omega)
        rw [scan_all 1000 L (by have := HNZ.out; omega) (by omega)] at this
        exact this
      have bd : Below wr.heap.size wr wr.drew := (Below.refl _ _).drew
      clear he hel hb hcl hlc hao hn9 hkv hnz hll
      go_wp2_with fail
      go_region_held_law (fun W => W.cell? ⟨gm, 1, none⟩ = some (.slice MA nz mc))
        (first | exact HC.out _ bd | exact HC.out _ B6 | exact HC.out _ B7)
        (first
          | (go_at_call 23; (with_reducible refine (HSC.out _ bd).mono ?_); rintro e w6 ⟨hb6, A6, n6, c6, rfl, hn6, hk6⟩; obtain rfl : n6 = nz := hn6.symm.trans HNZ.out; have B6 := hop bd hb6; have K6 := Lib.hid hk6; have K66 := Lib.hid (KV.out.below B6); clear hb6 hn6 hk6)
          | (go_at_call 22; (with_reducible refine (pairs_same w6 A6 MA L n6 c6 mc HNZ.out (Nat.le_trans hL3 (by decide)) K6.out K66.out).mono ?_); rintro e w7 ⟨rfl, hb7⟩; have B7 := hop B6 hb7; clear hb7))
      all_goals
        go_wp2_with fail
        go_ret
        exact ⟨rfl, hop BR.out B7⟩
end Go.Proofs.Ytaeocbgmoijedaa
