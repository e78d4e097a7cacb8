/-
  The walk of the statement TreeRoom: a tree with a room. Condition: the number fits 64 bits.
-/
import Derived.Test.YtaeocbgmoijedaaTrCall
import Derived.BigQuiet
import Derived.Laws.Cover1
import Derived.Deep.RegionHeldLaw
namespace Go.Proofs.Ytaeocbgmoijedaa
open Go.RowKit

/-- a tree with a room, which is kept -/
def RoomAt (w : World) (g : Nat) (room : Int) (wr : World) (L : List Kv) : Prop := Below w.heap.size w wr ∧ TreeAt wr (fun b => b = g) g room L ∧ (sizeL L : Int) ≤ room

set_option maxHeartbeats 4000000 in
set_option maxRecDepth 100000 in
theorem treeRoom_walk (a0 : Int) (A : Option Addr) (l : List TOp) (c : Nat) (w : World) (b0l : -9223372036854775808 ≤ a0) (b0h : a0 ≤ 9223372036854775807) (hl : l.length ≤ 9223372036854775807) (hs : TsSeen w A l) :
    Calls Try.prog 8 #[.int .i64 a0, .slice A l.length c] w fun e w' => e = .returned (.bool true) ∧ Below w.heap.size w w' := by
  have HAW := Lib.hid (awake_any w)
  have HS := Lib.hid hs
  obtain ⟨n, hn⟩ : ∃ n, n = l.length := ⟨_, rfl⟩
  rw [← hn] at hl ⊢
  have HN := Lib.hid hn
  clear hs hn
  go_enter Try.func8, Try.ntmps8
  go_wp2_with fail
  with_reducible refine HAW.out.mono ?_
  rintro e w1 ⟨rfl, hb1⟩
  have B1 := Lib.hid hb1
  have S1 : Hid (TsSeen w1 A l) := HS.out.below hb1
  clear hb1 HAW
  go_wp2_with fail
  with_reducible refine (few_any A l n c w1 S1.out HN.out.symm).mono ?_
  rintro e w1' ⟨rfl, rfl⟩
  have HFB : Hid (fewB l = fewB l) := rfl
  obtain ⟨fb, hfb⟩ : ∃ fb, fb = fewB l := ⟨_, rfl⟩
  rw [← hfb]
  have HFW := Lib.hid hfb
  clear HFB hfb
  go_wp2_with fail
  with_reducible refine (new_any w1 a0).mono ?_
  rintro e w2 ⟨rfl, hb2, hsz, ht2⟩
  have T2 := Lib.hid (ht2 (fun b => b = w1.heap.size) rfl)
  have B2 := Lib.hid (hop B1.out hb2)
  have HGW : Hid (w.heap.size ≤ w1.heap.size) := B1.out.size
  clear hsz ht2 hb2
  obtain ⟨g, hg⟩ : ∃ g, g = w1.heap.size := ⟨_, rfl⟩
  rw [← hg] at T2 HGW ⊢
  clear hg
  cases fb
  · go_wp2_with fail
    go_ret
    exact ⟨rfl, B2.out⟩
  by_cases c0 : a0 < 0
  · go_wp2_with fail
    go_ret
    exact ⟨rfl, B2.out⟩
  have d0 : decide (a0 < 0) = false := decide_eq_false c0
  have M2 : Hid (RoomAt w g a0 w2 []) := ⟨B2.out, T2.out, by show ((0 : Nat) : Int) ≤ a0; omega⟩
  clear T2 B2 B1 S1
  go_wp2_with fail
  clear d0 c0
  have hn3 : n ≤ 300 := by have := (few_at HFW.out.symm).1; have := HN.out; omega
  go_loopg [8] n (fun kx s wr => ∃ (k : Nat) (L : List Kv), k + kx = n ∧ s = .int .i64 (k : Int) ∧ L.length ≤ k ∧ RoomAt w g a0 wr L)
  case atStart => exact ⟨0, [], by omega, rfl, Nat.le_refl _, M2.out⟩
  case round =>
    obtain ⟨k, L, hk, rfl, hll, hm⟩ := hrel
    have HM := Lib.hid hm
    have HK := Lib.hid hk
    clear M2 hm
    by_cases hlt : k < n
    · have hkl : (k : Int) < (n : Int) := by omega
      have hkn : k < l.length := by have := HN.out; omega
      obtain ⟨b, off, m, z, K, V, ck, cv, y, x, kd, nm, rfl, e1, e2, e3, e4, hym, hxz, hm1, hz1, e5, e6, hsy, hsx, hcl⟩ := HS.out.call HFW.out.symm k hkn
      obtain ⟨o0, o1, o2, o3⟩ := hcl wr HM.out.1
      have HCL := Lib.hid hcl
      have HYM := Lib.hid hym
      have HXZ := Lib.hid hxz
      have SY := Lib.hid (hsy.below HM.out.1)
      have SX := Lib.hid (hsx.below HM.out.1)
      have HSY := Lib.hid hsy
      have HSX := Lib.hid hsx
      obtain ⟨S, hS⟩ : ∃ S, S = sizeL L := ⟨_, rfl⟩
      have TT : Hid (TreeAt wr (fun b => b = g) g a0 L) := HM.out.2.1
      have HSZ := Lib.hid (size_any wr _ g a0 L TT.out)
      rw [← hS] at HSZ
      have HSE := Lib.hid hS
      have hwi : IntKind.i64.wrap ((k : Int) + 1) = ((k + 1 : Nat) : Int) := by rw [IntKind.wrap_i64]; omega
      clear hcl hym hxz hsy hsx hS e1 e2 e3 e4 e5 e6 hkn o0 o3
      go_wp2_with fail
      with_reducible refine HSZ.out.mono ?_
      rintro e w3 ⟨rfl, rfl⟩
      go_wp2_with fail
      with_reducible refine (get_named w3 _ g a0 L _ y m ck TT.out SY.out HYM.out).mono ?_
      rintro e w4 ⟨hb4, X4, n4, c4, rfl, hs4, hn4⟩
      have S4 := Lib.hid hs4
      have N4 := Lib.hid hn4
      have T4 := Lib.hid (TT.out.below hb4)
      have B4 := Lib.hid (hop HM.out.1 hb4)
      have SY4 := Lib.hid (SY.out.below hb4)
      have SX4 := Lib.hid (SX.out.below hb4)
      obtain ⟨p0, p1, p2, p3⟩ := HCL.out w4 B4.out
      clear hb4 hs4 hn4 o1 o2 p0 p3
      obtain ⟨hb, hhb⟩ : ∃ hb, hb = hasL y L := ⟨_, rfl⟩
      have HHB := Lib.hid hhb
      rw [← hhb]
      have HPUT : Hid (∀ W, Below w4.heap.size w4 W → Calls Try.prog 13 #[.pointer (some ⟨g, 0, none⟩), .slice K m ck, .slice V z cv] W fun e w' => ∃ (r : Int) (L' : List Kv), e = .returned (.int .i64 r) ∧ TreeAt w' (fun b => b = g) g a0 L' ∧ Spared W w' (fun b => b = g) ∧ PutR a0 L y x r L') := fun W hW =>
        put_named W (fun b => b = g) (fun b hb => by subst hb; exact Nat.lt_of_lt_of_le T4.out.lt hW.size) g a0 L K V y x m ck z cv (T4.out.below hW) (by omega) (SY4.out.below hW) HYM.out (SX4.out.below hW) HXZ.out (by omega) (by omega)
      have HLTG : Hid (∀ j, j = g → j < w3.heap.size) := fun j hj => by subst hj; exact TT.out.lt
      have bd : Below w4.heap.size w4 w4.drew := (Below.refl _ _).drew
      have HB : Hid (∀ W, Below w.heap.size w W → W.cell? ⟨b, off + k * 4 + 1, none⟩ = some (.slice K m ck) ∧ W.cell? ⟨b, off + k * 4 + 2, none⟩ = some (.slice V z cv)) := fun W hW => ⟨(HCL.out W hW).2.1, (HCL.out W hW).2.2.1⟩
      have B4D : Below w.heap.size w w4.drew := B4.out.drew
      clear hhb p1 p2
      go_upto_region 11 with fail
      go_region_held_law (fun W => W.cell? ⟨b, off + k * 4 + 1, none⟩ = some (.slice K m ck) ∧ W.cell? ⟨b, off + k * 4 + 2, none⟩ = some (.slice V z cv))
        (first | exact HB.out _ B4D | exact HB.out _ B7)
        ((go_at_call 13; (with_reducible refine (HPUT.out _ bd).mono ?_); rintro e w7 ⟨r, L2, rfl, ht7, hs7, hr7⟩; have T7 := Lib.hid ht7; have B7 : Below w.heap.size w w7 := hs7.below B4D (fun j hj => by have := HGW.out; omega); have HR := Lib.hid hr7; have S7 := Lib.hid ((S4.out.moved (.of_below bd _) (fun _ h => .inl h)).moved (hs7.mono HLTG.out) (fun _ h => .inl h)); clear ht7 hs7 hr7))
      have SY7 := Lib.hid (HSY.out.below B7)
      have B7H := Lib.hid B7
      obtain ⟨q0, q1, q2, q3⟩ := HCL.out w7 B7
      clear bd B4D B7 q0 q3
      obtain ⟨S2, hS2⟩ : ∃ S2, S2 = sizeL L2 := ⟨_, rfl⟩
      have HS2 := Lib.hid hS2
      obtain ⟨h2, hh2⟩ : ∃ h2, h2 = hasL y L2 := ⟨_, rfl⟩
      have HH2 := Lib.hid hh2
      have HG7 := Lib.hid (get_named w7 _ g a0 L2 _ y m ck T7.out SY7.out HYM.out)
      rw [← hh2] at HG7
      clear hS2 hh2
      go_wp2_with fail
      with_reducible refine HG7.out.mono ?_
      rintro e w8 ⟨hb8, X8, n8, c8, rfl, hs8, hn8⟩
      have S8 := Lib.hid hs8.seen
      have N8 := Lib.hid hn8
      have T8 := Lib.hid (T7.out.below hb8)
      have B8 := Lib.hid (hop B7H.out hb8)
      have BW8 := Lib.hid hb8
      obtain ⟨z0, z1, z2, z3⟩ := HCL.out w8 B8.out
      clear hb8 hs8 hn8 q1 q2 z0 z1 z3
      have HSZ8 : Hid (∀ q, Calls Try.prog 20 #[.pointer (some ⟨g, 0, none⟩)] (w8.drewN q) fun e w' => e = .returned (.int .i64 (S2 : Int)) ∧ w' = w8.drewN q) := fun q => by
        rw [HS2.out]; exact size_any (w8.drewN q) _ g a0 L2 (T8.out.below (below_drewN (Below.refl _ _) q))
      rcases HR.out with ⟨hr1, rfl, hr2⟩ | ⟨hr1, rfl, hr2⟩
      · have HL2 := Lib.hid hr2
        obtain ⟨vt, hvt⟩ : ∃ vt, vt = gv y L := ⟨_, rfl⟩
        have S8' : Hid (Seen w8 X8 vt ∧ vt.length = n8) := ⟨by rw [hvt, ← HL2.out]; exact S8.out, by rw [hvt, ← HL2.out]; exact N8.out⟩
        have S4' : Hid (Seen w8 X4 vt ∧ vt.length = n4) := ⟨by rw [hvt]; exact S7.out.seen.below BW8.out, by rw [hvt]; exact N4.out⟩
        obtain rfl : S2 = S := by rw [HS2.out, HSE.out, HL2.out]
        obtain rfl : h2 = hb := by rw [HH2.out, HHB.out, HL2.out]
        have hs2 : ¬ a0 < (S2 : Int) := by have h1 := HM.out.2.2; rw [HSE.out]; omega
        have hs3 : decide (a0 < (S2 : Int)) = false := decide_eq_false hs2
        have cvA : ∀ q, (convert 31 9 (.slice X8 n8 c8)).run Try.prog (w8.drewN q) = .ok (.string ⟨vt.toArray⟩) (w8.drewN q) := fun q => by
          rw [← S8'.out.2]; exact (S8'.out.1.below (below_drewN (Below.refl _ _) q)).text (P := Try.prog) 31 9 5 Try.underlying31 Try.underlying5 Try.underlying9 c8
        have cvB : ∀ q, (convert 31 9 (.slice X4 n4 c4)).run Try.prog (w8.drewN q) = .ok (.string ⟨vt.toArray⟩) (w8.drewN q) := fun q => by
          rw [← S4'.out.2]; exact (S4'.out.1.below (below_drewN (Below.refl _ _) q)).text (P := Try.prog) 31 9 5 Try.underlying31 Try.underlying5 Try.underlying9 c4
        clear hr1 hr2 hvt
        go_wp2_with fail
        go_quiet (first | (go_at_call 20; exact Calls.quiet_of_same (HSZ8.out _)))
        go_wp2_with fail
        with_reducible refine (HSZ8.out _).mono ?_
        rintro e w9 ⟨rfl, rfl⟩
        go_wp2_with fail
        go_roundg (n - (k + 1))
        case measure => have := HK.out; omega
        case rel => exact ⟨k + 1, L, by have := HK.out; omega, rfl, by omega, below_drewN B8.out _, by have := T8.out.below (below_drewN (Below.refl _ _) nq); rw [HL2.out] at this; exact this, HM.out.2.2⟩
      · have HL2 := Lib.hid hr2
        have S8' : Hid (Seen w8 X8 x ∧ x.length = n8) := by
          have h1 : gv y L2 = x := by unfold gv; rw [HL2.out, hasL_putL, if_pos rfl, getL_putL]
          rw [← h1]; exact ⟨S8.out, N8.out⟩
        have SX8 := Lib.hid (HSX.out.below B8.out)
        obtain rfl : h2 = true := by rw [HH2.out, HL2.out, hasL_putL]
        have hs2 : ¬ a0 < (S2 : Int) := by rw [HS2.out, HL2.out]; omega
        have hs3 : decide (a0 < (S2 : Int)) = false := decide_eq_false hs2
        have cvA : ∀ q, (convert 31 9 (.slice X8 n8 c8)).run Try.prog (w8.drewN q) = .ok (.string ⟨x.toArray⟩) (w8.drewN q) := fun q => by
          rw [← S8'.out.2]; exact (S8'.out.1.below (below_drewN (Below.refl _ _) q)).text (P := Try.prog) 31 9 5 Try.underlying31 Try.underlying5 Try.underlying9 c8
        have cvB : ∀ q, (convert 31 9 (.slice V z cv)).run Try.prog (w8.drewN q) = .ok (.string ⟨x.toArray⟩) (w8.drewN q) := fun q => by
          rw [← HXZ.out]; exact (SX8.out.below (below_drewN (Below.refl _ _) q)).text (P := Try.prog) 31 9 5 Try.underlying31 Try.underlying5 Try.underlying9 cv
        have HROOM := Lib.hid hs2
        clear hr1 hr2
        go_wp2_with fail
        go_quiet (first | (go_at_call 20; exact Calls.quiet_of_same (HSZ8.out _)))
        go_wp2_with fail
        go_roundg (n - (k + 1))
        case measure => have := HK.out; omega
        case rel => exact ⟨k + 1, L2, by have := HK.out; omega, rfl, by have := put_length TT.out.srt y x; rw [HL2.out, this]; split <;> omega, below_drewN B8.out _, T8.out.below (below_drewN (Below.refl _ _) nq), by have := HROOM.out; have := HS2.out; omega⟩
    · have hkl : ¬ (k : Int) < (n : Int) := by omega
      go_wp2_with fail
      go_ret
      exact ⟨rfl, HM.out.1⟩
end Go.Proofs.Ytaeocbgmoijedaa
