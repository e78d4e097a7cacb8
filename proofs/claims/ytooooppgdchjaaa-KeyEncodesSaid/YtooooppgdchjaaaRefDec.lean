/-
  What the document's Decode comes to. Condition: the bytes are at most 2^42.
-/
import Derived.Test.YtooooppgdchjaaaDec
namespace Go.Proofs.Ytooooppgdchjaaa
open Go.RowKit

/-- ahead of the byte k -/
def DRR (w : World) (b : List UInt8) (D : Option (List (List UInt8))) (s p o i : Value) (wr : World) : Prop :=
  ∃ (k : Nat) (ps : List Piece) (pt : List UInt8) (A : Option Addr) (n c : Nat) (B : Option Addr) (m d : Nat), k ≤ b.length ∧ i = .int .i64 k ∧ s = .slice A n c ∧ p = .slice B m d ∧ o = .bool (decide (0 < m)) ∧ ps.length = n ∧ pt.length = m ∧ n ≤ k ∧ m ≤ k ∧
    decL (b.drop k) pt (bytesOf ps) = D ∧ DecAt 5 23 w ps pt (.slice A n c) (.slice B m d) wr

set_option maxRecDepth 100000 in
set_option maxHeartbeats 1000000 in
theorem refDecode_any (Ab : Option Addr) (b : List UInt8) (cb : Nat) (w : World) (hs : Seen w Ab b) (hb : b.length ≤ 4398046511104) :
    Calls Try.prog 13 #[.slice Ab b.length cb] w fun e w' => DecOut w (decL b [] []) e w' := by
  obtain ⟨i0, hi, hz0, hz1, hz2⟩ := info_parts infoByte
  obtain ⟨j0, gi, gz0, gz1, gz2⟩ := info_parts infoPiece
  have HS := Lib.hid hs
  obtain ⟨D, hD⟩ : ∃ D, D = decL b [] [] := ⟨_, rfl⟩
  rw [← hD]
  have HD := Lib.hid hD
  clear hs hD
  go_enter Try.func13, Try.ntmps13
  go_wp2_with fail
  go_loopw [4, 5, 6, 7] (fun s p o i wr => DRR w b D s p o i wr) (fun _ _ _ i _ => b.length - (intOf i).toNat)
  case atStart => exact ⟨0, [], [], none, 0, 0, none, 0, 0, by omega, rfl, rfl, rfl, rfl, rfl, rfl, by omega, by omega, by rw [HD.out]; rfl, DecAt.start _ _ _⟩
  case round =>
    clear HD
    obtain ⟨k, ps, pt, A, n, c, B, m, d, hk, rfl, rfl, rfl, rfl, hn, hm, hnk, hmk, hdec, hat⟩ := hrel
    have HN := Lib.hid hn
    have HM := Lib.hid hm
    have HDE := Lib.hid hdec
    have H := Lib.hid hat
    clear hn hm hdec hat
    by_cases hlt : k < b.length
    · obtain ⟨g, off, hA, hgw, hc⟩ := HS.out.at_ hlt
      subst hA
      have hc0 := (H.out.below.cell (p := ⟨g, off + k, none⟩) hgw).trans hc
      clear hc
      by_cases h0 : b[k] = 0
      · have t0 : (((b[k]).toNat : Int) != 0) = false := by rw [h0]; rfl
        by_cases hlast : k + 1 < b.length
        · obtain ⟨_, _, hA, _, hc⟩ := HS.out.at_ hlast
          injection hA with hA
          injection hA with hg hoff _
          subst hg hoff
          have hc1 := (H.out.below.cell (p := ⟨g, off + (k + 1), none⟩) hgw).trans hc
          clear hc
          have HP := Lib.hid (dec_pair (pt := pt) (L := bytesOf ps) hlast h0)
          rw [HDE.out] at HP
          obtain ⟨y, hy⟩ : ∃ y, y = b[k] := ⟨_, rfl⟩
          obtain ⟨z, hz⟩ : ∃ z, z = b[k + 1] := ⟨_, rfl⟩
          rw [← hy] at t0 hc0 h0
          rw [← hz] at HP hc1
          clear hy hz h0
          by_cases h255 : z = 255
          · have t1 : ((z.toNat : Int) == 255) = true := byte_is 255 rfl h255
            have t2 : ((z.toNat : Int) != 255) = false := by rw [bne, t1]; rfl
            have t3 : ((z.toNat : Int) != 1) = true := by rw [h255]; rfl
            rw [if_pos h255] at HP
            clear h255
            go_wp2_with (at_builtin; refine wpList_append_part wr rfl (.tmp 51) (.tmp 52) 23 rfl 5 i0 (.int .u8 0) Try.underlying23 hi hz0 hz1 hz2 rfl 23 w ps pt _ B m d 0 0 rfl rfl H.out HM.out rfl (by omega) ?_)
            intro B2 d2 w2 H2
            have H2' := Lib.hid H2
            clear H2
            go_wp2_with fail
            go_roundw
            case rel => exact ⟨k + 2, ps, pt ++ [0], A, n, c, B2, m + 1, d2, by omega, by go_num, rfl, rfl, by simp, HN.out, by rw [List.length_append, HM.out]; rfl, by omega, by omega, HP.out.symm, H2'.out⟩
            case measure => simp [intOf]; omega
          · have t1 : ((z.toNat : Int) == 255) = false := byte_not 255 rfl h255
            have t4 : ((z.toNat : Int) != 255) = true := by rw [bne, t1]; rfl
            rw [if_neg h255] at HP
            clear h255
            by_cases h1 : z = 1
            · have t2 : ((z.toNat : Int) != 1) = false := by rw [bne, byte_is 1 rfl h1]; rfl
              rw [if_pos h1] at HP
              clear h1
              have F2 := Lib.hid (H.out.piece (by rw [HM.out]; omega))
              have H2 := Lib.hid H.out.drop
              have EQ : Hid (pv (B, pt, d) = .slice B m d) := by show _ = _; rw [pv, HM.out]
              clear H
              go_wp2_with (at_builtin; refine wpList_append_piece wr rfl (.tmp 54) (.tmp 56) 22 rfl 23 j0 (.slice none 0 0) Try.underlying22 gi gz0 gz1 gz2 rfl 5 w ps [] (.slice none 0 0) A n c (B, pt, d) B m d rfl rfl H2.out HN.out EQ.out F2.out (by omega) ?_)
              intro A3 c3 w3 H3
              have H3' := Lib.hid H3
              clear H3 H2 F2 EQ
              go_wp2_with fail
              go_roundw
              case rel => exact ⟨k + 2, ps ++ [(B, pt, d)], [], A3, n + 1, c3, none, 0, 0, by omega, by go_num, rfl, rfl, rfl, by rw [List.length_append, HN.out]; rfl, rfl, by omega, by omega, by rw [bytesOf_more]; exact HP.out.symm, H3'.out⟩
              case measure => simp [intOf]; omega
            · have t2 : ((z.toNat : Int) != 1) = true := by rw [bne, byte_not 1 rfl h1]; rfl
              rw [if_neg h1] at HP
              clear h1
              go_wp2_with fail
              go_ret2
              exact DecOut.fail HP.out H.out.below
        · have HP := Lib.hid (dec_last (pt := pt) (L := bytesOf ps) hlt h0 (by omega))
          rw [HDE.out] at HP
          clear h0
          generalize b[k] = y at *
          go_wp2_with fail
          go_ret2
          exact DecOut.fail HP.out H.out.below
      · have t0 : (((b[k]).toNat : Int) != 0) = true := byte_ne h0
        have HP := Lib.hid (dec_step (pt := pt) (L := bytesOf ps) hlt h0)
        rw [HDE.out] at HP
        clear h0
        generalize b[k] = y at *
        have hy := y.toNat_lt
        go_wp2_with (at_builtin; refine wpList_append_part wr rfl (.tmp 19) (.tmp 24) 23 rfl 5 i0 (.int .u8 0) Try.underlying23 hi hz0 hz1 hz2 rfl 23 w ps pt _ B m d _ y rfl rfl H.out HM.out rfl (by omega) ?_)
        intro B2 d2 w2 H2
        have H2' := Lib.hid H2
        clear H2
        go_wp2_with fail
        go_roundw
        case rel => exact ⟨k + 1, ps, pt ++ [y], A, n, c, B2, m + 1, d2, by omega, by go_num, rfl, rfl, by simp, HN.out, by rw [List.length_append, HM.out]; rfl, by omega, by omega, HP.out.symm, H2'.out⟩
        case measure => simp [intOf]; omega
    · obtain rfl : k = b.length := by omega
      have HP := Lib.hid (dec_done (b := b) (pt := pt) (L := bytesOf ps))
      rw [HDE.out] at HP
      by_cases hm0 : m = 0
      · subst hm0
        have hp0 : pt = [] := List.eq_nil_of_length_eq_zero HM.out
        rw [if_pos hp0] at HP
        clear hp0
        go_wp2_with fail
        go_ret2
        exact ⟨A, ps, n, c, by rw [HP.out]; rfl, HN.out, H.out.shown, by rw [HP.out]; rfl, H.out.below⟩
      · have hp0 : pt ≠ [] := fun e => hm0 (by rw [← HM.out, e]; rfl)
        rw [if_neg hp0] at HP
        clear hp0
        have t3 : decide (0 < m) = true := by simp; omega
        go_wp2_with fail
        go_ret2
        exact DecOut.fail HP.out H.out.below
end Go.Proofs.Ytooooppgdchjaaa
