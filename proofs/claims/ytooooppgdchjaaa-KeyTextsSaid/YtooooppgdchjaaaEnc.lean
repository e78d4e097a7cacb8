/-
  What the program's Encode and the document's come to: one Lean function of the parts. Condition: the key is at most 2^47 bytes.
-/
import Derived.Test.YtooooppgdchjaaaChecked
import Derived.Test.YtooooppgdchjaaaSeenAll
import Derived.Test.YtooooppgdchjaaaKeyL
namespace Go.Proofs.Ytooooppgdchjaaa
open Go.RowKit

theorem infoByte : (Try.prog.info? 5).map (fun i => (i.zero, i.size, i.bytes)) = some (some (.int .u8 0), 1, 1) := by kernel_rfl

theorem Seen.byte {w : World} {A : Option Addr} {l : List UInt8} (h : Seen w A l) (k : Nat) (hk : k < l.length) : ∃ b off, A = some ⟨b, off, none⟩ ∧ w.cell? ⟨b, off + k, none⟩ = some (.int .u8 (l[k].toNat : Int)) := by
  obtain ⟨b, off, h1, _, h2⟩ := h.at_ hk
  exact ⟨b, off, h1, h2⟩

/-- a row of the call's own, its length named apart -/
def MadeN (e : TypeId) (w0 : World) (l : List UInt8) (A : Option Addr) (n c : Nat) (w : World) : Prop := l.length = n ∧ Made e w0 l (.slice A n c) w

/-- ahead of round k of a part -/
def AP (w0 : World) (d p : List UInt8) (s i : Value) (wr : World) : Prop :=
  ∃ (k : Nat) (A : Option Addr) (n c : Nat), k ≤ p.length ∧ i = .int .i64 k ∧ s = .slice A n c ∧ MadeN 5 w0 (d ++ escL (p.take k)) A n c wr

theorem esc_next {p : List UInt8} {k : Nat} (h : k < p.length) : escL (p.take (k + 1)) = escL (p.take k) ++ (if p[k] = 0 then [0, 255] else [p[k]]) := by
  rw [List.take_succ_eq_append_getElem h, escL_append, escL_one]
theorem esc_fits {p : List UInt8} (k : Nat) : (escL (p.take k)).length ≤ (escL p).length := by
  rw [← List.take_append_drop k p, escL_append, List.length_append]
  rw [List.take_append_drop]
  omega

set_option maxRecDepth 100000 in
set_option maxHeartbeats 1000000 in
theorem appendPart_any (w0 w : World) (A : Option Addr) (d : List UInt8) (n c : Nat) (B : Option Addr) (p : List UInt8) (c' : Nat) (H : MadeN 5 w0 d A n c w) (hs : Seen w0 B p) (hb : n + (partL p).length ≤ 140737488355328) :
    Calls Try.prog 25 #[.slice A n c, .slice B p.length c'] w fun e w' => ∃ A' n' c', e = .returned (.slice A' n' c') ∧ MadeN 5 w0 (d ++ partL p) A' n' c' w' := by
  obtain ⟨i0, hi, hz0, hz1, hz2⟩ := info_parts infoByte
  have HS := Lib.hid hs
  have HH := Lib.hid H
  have HPL : Hid ((partL p).length = (escL p).length + 2) := by show _ = _; simp [partL]
  have HLP : Hid (p.length ≤ (escL p).length) := by
    show _ ≤ _
    clear HPL hb hs HS
    induction p with
    | nil => simp
    | cons c p ih => rw [escL_cons]; split <;> simp <;> omega
  have HD := Lib.hid H.1
  clear hs H
  have hlen : p.length ≤ 140737488355328 := by have := HPL.out; have := HLP.out; omega
  go_enter Try.func25, Try.ntmps25
  go_wp2_with fail
  go_loopw [0, 9] (fun s i wr => AP w0 d p s i wr) (fun _ i _ => p.length - (intOf i).toNat)
  case atStart => exact ⟨0, A, n, c, by omega, rfl, rfl, by simpa using HH.out⟩
  case round =>
    clear HH
    obtain ⟨k, A1, n1, c1, hk, rfl, rfl, hm⟩ := hrel
    obtain ⟨D, hD⟩ : ∃ D, D = d ++ escL (p.take k) := ⟨_, rfl⟩
    rw [← hD] at hm
    have ED := Lib.hid hD
    have HM := Lib.hid hm
    clear hm hD
    by_cases hlt : k < p.length
    · obtain ⟨b, off, hB, hc⟩ := (HS.out.below HM.out.2.2).byte k hlt
      subst hB
      have HN : Hid (d ++ escL (p.take (k + 1)) = D ++ (if p[k] = 0 then [0, 255] else [p[k]])) := by show _ = _; rw [esc_next hlt, ED.out, List.append_assoc]
      have HF := Lib.hid (esc_fits (p := p) (k + 1))
      generalize p[k] = y at *
      have hy := y.toNat_lt
      have L1 : Hid (D.length = n1) := HM.out.1
      have hnb : Hid (n1 + (if y = 0 then 2 else 1) ≤ 140737488355328) := by
        have h1 := L1.out
        have h2 := HF.out
        have h3 := HPL.out
        have h5 := HD.out
        have h6 := congrArg List.length HN.out
        have h4 : (if y = 0 then [0, 255] else [y] : List UInt8).length = if y = 0 then 2 else 1 := by split <;> rfl
        rw [List.length_append, List.length_append, h4] at h6
        show _ ≤ _
        omega
      obtain ⟨D2, hD2⟩ : ∃ D2, D2 = D ++ [y] := ⟨_, rfl⟩
      have E2 := Lib.hid hD2
      have L2 : Hid (D2.length = n1 + 1) := by show _ = _; rw [hD2, List.length_append, L1.out, List.length_singleton]
      clear hD2
      by_cases h0 : y = 0
      · have t1 : ((y.toNat : Int) == 0) = true := by rw [h0]; rfl
        rw [if_pos h0] at HN hnb
        have hnb' := hnb.out
        have HZ := Lib.hid h0
        clear h0 hnb
        go_wp2_with (at_builtin; refine wpList_append_one wr rfl (.tmp 13) (.tmp 15) 23 rfl 5 i0 (.int .u8 0) Try.underlying23 hi hz0 hz1 hz2 rfl w0 A1 n1 c1 _ _ y rfl rfl HM.out.2 L1.out rfl (by omega) ?_)
        intro A2 c2 w2 HM2
        have H2 : Hid (Made 5 w0 D2 (.slice A2 (n1 + 1) c2) w2) := by show Made _ _ _ _ _; rw [E2.out]; exact HM2
        clear HM2
        go_wp2_with (at_builtin; refine wpList_append_one w2 rfl (.tmp 19) (.tmp 20) 23 rfl 5 i0 (.int .u8 0) Try.underlying23 hi hz0 hz1 hz2 rfl w0 A2 (n1 + 1) c2 _ 255 255 rfl rfl H2.out L2.out rfl (by omega) ?_)
        intro A3 c3 w3 HM3
        have H3 : Hid (MadeN 5 w0 (d ++ escL (p.take (k + 1))) A3 (n1 + 2) c3 w3) := by
          have e : d ++ escL (p.take (k + 1)) = D2 ++ [255] := by rw [HN.out, E2.out, HZ.out, List.append_assoc]; rfl
          refine ⟨by rw [e, List.length_append, L2.out]; rfl, ?_⟩
          rw [e]; exact HM3
        clear HM3
        go_wp2_with fail
        go_roundw
        case rel => exact ⟨k + 1, A3, n1 + 2, c3, by omega, by go_num, rfl, H3.out⟩
        case measure => simp [intOf]; omega
      · have t1 : ((y.toNat : Int) == 0) = false := by
          have : y.toNat ≠ 0 := fun e => h0 (UInt8.toNat_inj.1 e)
          rw [beq_eq_false_iff_ne]; omega
        rw [if_neg h0] at HN hnb
        have hnb' := hnb.out
        clear h0 hnb
        go_wp2_with (at_builtin; refine wpList_append_one wr rfl (.tmp 13) (.tmp 15) 23 rfl 5 i0 (.int .u8 0) Try.underlying23 hi hz0 hz1 hz2 rfl w0 A1 n1 c1 _ _ y rfl rfl HM.out.2 L1.out rfl (by omega) ?_)
        intro A2 c2 w2 HM2
        have H2 : Hid (MadeN 5 w0 (d ++ escL (p.take (k + 1))) A2 (n1 + 1) c2 w2) := by
          refine ⟨by rw [HN.out, ← E2.out]; exact L2.out, ?_⟩
          rw [HN.out]; exact HM2
        clear HM2
        go_wp2_with fail
        go_roundw
        case rel => exact ⟨k + 1, A2, n1 + 1, c2, by omega, by go_num, rfl, H2.out⟩
        case measure => simp [intOf]; omega
    · obtain rfl : k = p.length := by omega
      have L1 : Hid (D.length = n1) := HM.out.1
      have hnb : n1 + 2 ≤ 140737488355328 := by
        have h1 := L1.out
        have h3 := HPL.out
        have h5 := HD.out
        have h6 := congrArg List.length ED.out
        rw [List.take_length, List.length_append] at h6
        omega
      have EP : Hid (d ++ partL p = D ++ [0, 1]) := by show _ = _; rw [partL, ← List.append_assoc, ED.out, List.take_length]
      go_wp2_with (at_builtin; refine wpList_append_laid wr rfl (.tmp 23) (.tmp 24) 23 rfl 5 i0 (.int .u8 0) Try.underlying23 hi hz0 hz1 hz2 rfl w0 A1 n1 c1 _ [0, 1] 2 _ rfl rfl HM.out.2 L1.out rfl rfl hnb ?_)
      intro A2 c2 w2 HM2
      have H2 : Hid (MadeN 5 w0 (d ++ partL p) A2 (n1 + 2) c2 w2) := by
        refine ⟨by rw [EP.out, List.length_append, L1.out]; rfl, ?_⟩
        rw [EP.out]; exact HM2
      clear HM2
      go_wp2_with fail
      go_ret
      exact ⟨A2, n1 + 2, c2, rfl, H2.out⟩

/-- ahead of round k of the parts -/
def EP (w : World) (ps : List Piece) (s i : Value) (wr : World) : Prop :=
  ∃ (k : Nat) (A : Option Addr) (n c : Nat), k ≤ ps.length ∧ i = .int .i64 k ∧ s = .slice A n c ∧ MadeN 5 w (encL (bytesOf (ps.take k))) A n c wr
theorem enc_next {ps : List Piece} {k : Nat} (h : k < ps.length) : encL (bytesOf (ps.take (k + 1))) = encL (bytesOf (ps.take k)) ++ partL ps[k].2.1 := by
  rw [List.take_succ_eq_append_getElem h, bytesOf, List.map_append, encL_append]
  simp [encL, bytesOf]
theorem enc_fits {ps : List Piece} (k : Nat) : (encL (bytesOf (ps.take k))).length ≤ (encL (bytesOf ps)).length := by
  have h := encL_append (bytesOf (ps.take k)) (bytesOf (ps.drop k))
  rw [show bytesOf (ps.take k) ++ bytesOf (ps.drop k) = bytesOf ps by rw [bytesOf, bytesOf, ← List.map_append, List.take_append_drop]; rfl] at h
  rw [h, List.length_append]
  omega

set_option maxRecDepth 100000 in
set_option maxHeartbeats 1000000 in
theorem encode_any (A : Option Addr) (ps : List Piece) (c : Nat) (w : World) (hs : SeenAll w A ps) (hn : ps.length ≤ 9223372036854775807) (hb : (encL (bytesOf ps)).length ≤ 140737488355328) :
    Calls Try.prog 15 #[.slice A ps.length c] w fun e w' => ∃ A' n' c', e = .returned (.slice A' n' c') ∧ MadeN 5 w (encL (bytesOf ps)) A' n' c' w' := by
  have HS := Lib.hid hs
  have HB := Lib.hid hb
  clear hs hb
  go_enter Try.func15, Try.ntmps15
  go_wp2_with fail
  go_loopw [3, 8] (fun s i wr => EP w ps s i wr) (fun _ i _ => ps.length - (intOf i).toNat)
  case atStart => exact ⟨0, none, 0, 0, by omega, rfl, rfl, rfl, Made.nil _ _⟩
  case round =>
    obtain ⟨k, A1, n1, c1, hk, rfl, rfl, hm⟩ := hrel
    have HM := Lib.hid hm
    clear hm
    by_cases hlt : k < ps.length
    · obtain ⟨b, off, hA, hbw, hc, hsk, hck, hmk⟩ := HS.out.at_ k hlt
      subst hA
      have hc' : wr.cell? ⟨b, off + k, none⟩ = some (.slice ps[k].1 ps[k].2.1.length ps[k].2.2) := (HM.out.2.2.cell (p := ⟨b, off + k, none⟩) hbw).trans hc
      have HN := Lib.hid (enc_next hlt)
      have hfit := enc_fits (ps := ps) (k + 1)
      rw [HN.out, List.length_append, HM.out.1] at hfit
      have HF := Lib.hid (Nat.le_trans hfit HB.out)
      clear hc hfit
      generalize ps[k].1 = Ak at *
      generalize ps[k].2.1 = lk at *
      generalize ps[k].2.2 = ck at *
      have HSK := Lib.hid hsk
      clear hsk
      go_wp2_with fail
      refine (appendPart_any w wr A1 _ n1 c1 Ak lk ck HM.out HSK.out HF.out).mono ?_
      rintro e w2 ⟨A2, n2, c2, rfl, hm2⟩
      have H2 : Hid (MadeN 5 w (encL (bytesOf (ps.take (k + 1)))) A2 n2 c2 w2) := by show MadeN _ _ _ _ _ _ _; rw [HN.out]; exact hm2
      clear hm2
      go_wp2_with fail
      go_roundw
      case rel => exact ⟨k + 1, A2, n2, c2, by omega, by go_num, rfl, H2.out⟩
      case measure => simp [intOf]; omega
    · obtain rfl : k = ps.length := by omega
      have H2 : Hid (MadeN 5 w (encL (bytesOf ps)) A1 n1 c1 wr) := by have h := HM.out; rw [List.take_length] at h; exact h
      clear HM
      go_wp2_with fail
      go_ret
      exact ⟨A1, n1, c1, rfl, H2.out⟩
end Go.Proofs.Ytooooppgdchjaaa
