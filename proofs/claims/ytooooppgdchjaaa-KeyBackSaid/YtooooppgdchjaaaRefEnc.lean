/-
  What the document's Encode comes to. Condition: the key is at most 2^47 bytes.
-/
import Derived.Test.YtooooppgdchjaaaEnc
namespace Go.Proofs.Ytooooppgdchjaaa
open Go.RowKit

theorem length_esc (p : List UInt8) : p.length ≤ (escL p).length := by
  induction p with
  | nil => simp
  | cons c p ih => rw [escL_cons]; split <;> simp <;> omega

set_option maxRecDepth 100000 in
set_option maxHeartbeats 1000000 in
theorem refEncode_any (A : Option Addr) (ps : List Piece) (c : Nat) (w : World) (hs : SeenAll w A ps) (hn : ps.length ≤ 9223372036854775807) (hb : (encL (bytesOf ps)).length ≤ 140737488355328) :
    Calls Try.prog 16 #[.slice A ps.length c] w fun e w' => ∃ A' n' c', e = .returned (.slice A' n' c') ∧ MadeN 5 w (encL (bytesOf ps)) A' n' c' w' := by
  obtain ⟨i0, hi, hz0, hz1, hz2⟩ := info_parts infoByte
  have HS := Lib.hid hs
  have HB := Lib.hid hb
  clear hs hb
  go_enter Try.func16, Try.ntmps16
  go_wp2_with fail
  go_loopw [3, 4] (fun s i wr => EP w ps s i wr) (fun _ i _ => ps.length - (intOf i).toNat)
  case atStart => exact ⟨0, none, 0, 0, by omega, rfl, rfl, rfl, Made.nil _ _⟩
  case round =>
    obtain ⟨k, A1, n1, c1, hk, rfl, rfl, hm⟩ := hrel
    have HM := Lib.hid hm
    clear hm
    by_cases hlt : k < ps.length
    · obtain ⟨b, off, hA, hbw, hc, hsk, hck, hmk⟩ := HS.out.at_ k hlt
      subst hA
      have HN := Lib.hid (enc_next hlt)
      have hfit := enc_fits (ps := ps) (k + 1)
      rw [HN.out, List.length_append, HM.out.1] at hfit
      have HF := Lib.hid (Nat.le_trans hfit HB.out)
      clear hfit
      generalize ps[k].1 = Ak at *
      generalize ps[k].2.1 = lk at *
      generalize ps[k].2.2 = ck at *
      have HSK := Lib.hid hsk
      have HC := Lib.hid hc
      have HPL : Hid ((partL lk).length = (escL lk).length + 2) := by show _ = _; simp [partL]
      have HLE := Lib.hid (length_esc lk)
      clear hsk hc
      obtain ⟨d, hd⟩ : ∃ d, d = encL (bytesOf (ps.take k)) := ⟨_, rfl⟩
      rw [← hd] at HM HN
      have HD : Hid (d.length = n1) := HM.out.1
      clear hd
      have hlen : lk.length ≤ 140737488355328 := by have := HPL.out; have := HLE.out; have := HF.out; omega
      go_wp2_with fail
      go_loopw [3, 5] (fun s i wr => AP w d lk s i wr) (fun _ i _ => lk.length - (intOf i).toNat)
      case atStart => exact ⟨0, A1, n1, c1, by omega, rfl, rfl, by simpa using HM.out⟩
      case round =>
        clear HM
        obtain ⟨j, A2, n2, c2, hj, rfl, rfl, hm⟩ := hrel
        obtain ⟨D, hD⟩ : ∃ D, D = d ++ escL (lk.take j) := ⟨_, rfl⟩
        rw [← hD] at hm
        have ED := Lib.hid hD
        have HM := Lib.hid hm
        clear hm hD
        have hc' := (HM.out.2.2.cell (p := ⟨b, off + k, none⟩) hbw).trans HC.out
        have L1 : Hid (D.length = n2) := HM.out.1
        by_cases hjl : j < lk.length
        · obtain ⟨b2, off2, hB, hb2w, hc2⟩ := HSK.out.at_ hjl
          subst hB
          have HCJ := Lib.hid hc2
          have HN2 : Hid (d ++ escL (lk.take (j + 1)) = D ++ (if lk[j] = 0 then [0, 255] else [lk[j]])) := by show _ = _; rw [esc_next hjl, ED.out, List.append_assoc]
          have HF2 := Lib.hid (esc_fits (p := lk) (j + 1))
          have hcj := (HM.out.2.2.cell (p := ⟨b2, off2 + j, none⟩) hb2w).trans HCJ.out
          clear hc2
          generalize lk[j] = y at *
          have hy := y.toNat_lt
          have hnb : Hid (n2 + (if y = 0 then 2 else 1) ≤ 140737488355328) := by
            have h1 := L1.out
            have h2 := HF2.out
            have h3 := HPL.out
            have h5 := HD.out
            have h6 := congrArg List.length HN2.out
            have h7 := HF.out
            have h4 : (if y = 0 then [0, 255] else [y] : List UInt8).length = if y = 0 then 2 else 1 := by split <;> rfl
            rw [List.length_append, List.length_append, h4] at h6
            show _ ≤ _
            omega
          obtain ⟨D2, hD2⟩ : ∃ D2, D2 = D ++ [y] := ⟨_, rfl⟩
          have E2 := Lib.hid hD2
          have L2 : Hid (D2.length = n2 + 1) := by show _ = _; rw [hD2, List.length_append, L1.out, List.length_singleton]
          clear hD2
          by_cases h0 : y = 0
          · have t1 : ((y.toNat : Int) == 0) = true := by rw [h0]; rfl
            rw [if_pos h0] at HN2 hnb
            have hnb' := hnb.out
            have HZ := Lib.hid h0
            clear h0 hnb
            go_wp2_with (at_builtin; refine wpList_append_one wr rfl (.tmp 21) (.tmp 29) 23 rfl 5 i0 (.int .u8 0) Try.underlying23 hi hz0 hz1 hz2 rfl w A2 n2 c2 _ _ y rfl rfl HM.out.2 L1.out rfl (by omega) ?_)
            intro A3 c3 w3 HM3
            have H3 : Hid (Made 5 w D2 (.slice A3 (n2 + 1) c3) w3) := by show Made _ _ _ _ _; rw [E2.out]; exact HM3
            clear HM3 hc' hcj
            have hc' := (H3.out.2.cell (p := ⟨b, off + k, none⟩) hbw).trans HC.out
            have hcj := (H3.out.2.cell (p := ⟨b2, off2 + j, none⟩) hb2w).trans HCJ.out
            go_wp2_with (at_builtin; refine wpList_append_one w3 rfl (.tmp 39) (.tmp 40) 23 rfl 5 i0 (.int .u8 0) Try.underlying23 hi hz0 hz1 hz2 rfl w A3 (n2 + 1) c3 _ 255 255 rfl rfl H3.out L2.out rfl (by omega) ?_)
            intro A4 c4 w4 HM4
            have H4 : Hid (MadeN 5 w (d ++ escL (lk.take (j + 1))) A4 (n2 + 2) c4 w4) := by
              have e : d ++ escL (lk.take (j + 1)) = D2 ++ [255] := by rw [HN2.out, E2.out, HZ.out, List.append_assoc]; rfl
              refine ⟨by rw [e, List.length_append, L2.out]; rfl, ?_⟩
              rw [e]; exact HM4
            clear HM4
            go_wp2_with fail
            go_roundw
            case rel => exact ⟨j + 1, A4, n2 + 2, c4, by omega, by go_num, rfl, H4.out⟩
            case measure => simp [intOf]; omega
          · have t1 : ((y.toNat : Int) == 0) = false := by
              have : y.toNat ≠ 0 := fun e => h0 (UInt8.toNat_inj.1 e)
              rw [beq_eq_false_iff_ne]; omega
            rw [if_neg h0] at HN2 hnb
            have hnb' := hnb.out
            clear h0 hnb
            go_wp2_with (at_builtin; refine wpList_append_one wr rfl (.tmp 21) (.tmp 29) 23 rfl 5 i0 (.int .u8 0) Try.underlying23 hi hz0 hz1 hz2 rfl w A2 n2 c2 _ _ y rfl rfl HM.out.2 L1.out rfl (by omega) ?_)
            intro A3 c3 w3 HM3
            have H3 : Hid (MadeN 5 w (d ++ escL (lk.take (j + 1))) A3 (n2 + 1) c3 w3) := by
              refine ⟨by rw [HN2.out, ← E2.out]; exact L2.out, ?_⟩
              rw [HN2.out]; exact HM3
            clear HM3 hc' hcj
            have hc' := (H3.out.2.2.cell (p := ⟨b, off + k, none⟩) hbw).trans HC.out
            have hcj := (H3.out.2.2.cell (p := ⟨b2, off2 + j, none⟩) hb2w).trans HCJ.out
            go_wp2_with fail
            go_roundw
            case rel => exact ⟨j + 1, A3, n2 + 1, c3, by omega, by go_num, rfl, H3.out⟩
            case measure => simp [intOf]; omega
        · obtain rfl : j = lk.length := by omega
          have hnb : n2 + 2 ≤ 140737488355328 := by
            have h1 := L1.out
            have h3 := HPL.out
            have h5 := HD.out
            have h6 := congrArg List.length ED.out
            have h7 := HF.out
            rw [List.take_length, List.length_append] at h6
            omega
          obtain ⟨D2, hD2⟩ : ∃ D2, D2 = D ++ [0] := ⟨_, rfl⟩
          have E2 := Lib.hid hD2
          have L2 : Hid (D2.length = n2 + 1) := by show _ = _; rw [hD2, List.length_append, L1.out, List.length_singleton]
          clear hD2
          go_wp2_with (at_builtin; refine wpList_append_one wr rfl (.tmp 42) (.tmp 43) 23 rfl 5 i0 (.int .u8 0) Try.underlying23 hi hz0 hz1 hz2 rfl w A2 n2 c2 _ 0 0 rfl rfl HM.out.2 L1.out rfl (by omega) ?_)
          intro A3 c3 w3 HM3
          have H3 : Hid (Made 5 w D2 (.slice A3 (n2 + 1) c3) w3) := by show Made _ _ _ _ _; rw [E2.out]; exact HM3
          clear HM3
          go_wp2_with (at_builtin; refine wpList_append_one w3 rfl (.tmp 45) (.tmp 46) 23 rfl 5 i0 (.int .u8 0) Try.underlying23 hi hz0 hz1 hz2 rfl w A3 (n2 + 1) c3 _ 1 1 rfl rfl H3.out L2.out rfl (by omega) ?_)
          intro A4 c4 w4 HM4
          have H4 : Hid (MadeN 5 w (encL (bytesOf (ps.take (k + 1)))) A4 (n2 + 2) c4 w4) := by
            have e : encL (bytesOf (ps.take (k + 1))) = D2 ++ [1] := by rw [HN.out, partL, ← List.append_assoc, E2.out, ED.out, List.take_length, List.append_assoc, List.append_assoc, List.append_assoc]; rfl
            refine ⟨by rw [e, List.length_append, L2.out]; rfl, ?_⟩
            rw [e]; exact HM4
          clear HM4
          go_wp2_with fail
          go_roundw
          case rel => exact ⟨k + 1, A4, n2 + 2, c4, by omega, by go_num, rfl, H4.out⟩
          case measure => simp [intOf]; omega
    · obtain rfl : k = ps.length := by omega
      have H2 : Hid (MadeN 5 w (encL (bytesOf ps)) A1 n1 c1 wr) := by have h := HM.out; rw [List.take_length] at h; exact h
      clear HM
      go_wp2_with fail
      go_ret
      exact ⟨A1, n1, c1, rfl, H2.out⟩
end Go.Proofs.Ytooooppgdchjaaa
