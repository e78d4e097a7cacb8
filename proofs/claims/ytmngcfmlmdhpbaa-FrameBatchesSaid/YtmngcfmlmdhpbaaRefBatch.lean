/-
  What the document's Batch comes to: the bytes of the puts. Condition: they are at most 2^47 bytes.
-/
import Derived.Test.YtmngcfmlmdhpbaaFBatch
import Derived.Test.YtmngcfmlmdhpbaaRefF
namespace Go.Proofs.Ytmngcfmlmdhpbaa
open Go.RowKit

theorem refPut_on (w0 w : World) (A : Option Addr) (d : List UInt8) (n c m : Nat) (H : MadeN 5 w0 d A n c w) (hm : m ≤ 9223372036854775807) (hb : n ≤ 140737488000000) :
    Calls Try.prog 28 #[.slice A n c, .int .i64 (m : Int)] w fun e w' => ∃ A' n' c', e = .returned (.slice A' n' c') ∧ MadeN 5 w0 (d ++ putL m) A' n' c' w' := by
  refine (refPut_made A d n c m w H.1 (by omega) hm H.seen).mono ?_
  rintro e w' ⟨A', n', c', rfl, hm'⟩
  exact ⟨A', n', c', rfl, hm'.1, hm'.2.since H.2.2⟩

set_option maxRecDepth 100000 in
set_option maxHeartbeats 2000000 in
theorem refBatch_any (A : Option Addr) (ps : List PPut) (L c : Nat) (w : World) (hL : ps.length = L) (hs : PutsSeen w A ps) (hn : L ≤ 9223372036854775807) (hb : (batchL (valsOf ps)).length ≤ 140737488000000) :
    Calls Try.prog 23 #[.slice A L c] w fun e w' => ∃ A' n' c', e = .returned (.slice A' n' c') ∧ MadeN 5 w (batchL (valsOf ps)) A' n' c' w' := by
  obtain ⟨i0, hi, hz0, hz1, hz2⟩ := info_parts info8p
  have HS := Lib.hid hs
  have HL := Lib.hid hL
  have HB : Hid ((putL L).length + (putsV (valsOf ps)).length ≤ 140737488000000) := by
    show _ ≤ _; rw [batchL, valsOf_length, hL, List.length_append] at hb; exact hb
  have HBE : Hid (batchL (valsOf ps) = putL L ++ putsV (valsOf ps)) := by show _ = _; rw [batchL, valsOf_length, hL]
  clear hs hL hb
  have HM0 : Hid (MadeN 5 w [] none 0 0 w) := ⟨rfl, Made.nil _ _⟩
  go_enter Try.func23, Try.ntmps23
  go_wp2_with fail
  refine (refPut_on w w none [] 0 0 L HM0.out hn (by omega)).mono ?_
  rintro e w1 ⟨A1, n1, c1, rfl, hm1⟩
  have HM1 : Hid (MadeN 5 w (putL L) A1 n1 c1 w1) := hm1
  clear hm1
  go_wp2_with fail
  go_loopw [3, 4] (fun b i wr => BR w ps b i wr) (fun _ i _ => L - (intOf i).toNat)
  case atStart => exact ⟨0, A1, n1, c1, by omega, rfl, rfl, by rw [HL.out]; simpa [putsV, valsOf] using HM1.out⟩
  case round =>
    clear HM1
    obtain ⟨k, A2, n2, c2, hk, rfl, rfl, hm⟩ := hrel
    rw [HL.out] at hk hm
    obtain ⟨D, hD⟩ : ∃ D, D = putL L ++ putsV (valsOf (ps.take k)) := ⟨_, rfl⟩
    rw [← hD] at hm
    have ED := Lib.hid hD
    have HM := Lib.hid hm
    clear hD hm
    by_cases hlt : k < L
    · have hk' : k < ps.length := by rw [HL.out]; exact hlt
      obtain ⟨b, off, hA, hok, hat⟩ := HS.out.at_ k hk'
      subst hA
      have HN := Lib.hid (putsV_next hk')
      have HF := Lib.hid (putsV_fits (ps := ps) (k + 1))
      obtain ⟨q, hq⟩ : ∃ q, q = ps[k] := ⟨_, rfl⟩
      rw [← hq] at hok HN hat
      clear hq
      obtain ⟨⟨qA, ql, qc⟩, ⟨vA, vl, vc⟩, g⟩ := q
      obtain ⟨⟨hsq, hlq⟩, ⟨hsv, hlv⟩⟩ := hok
      simp only [pv] at hat hsq hlq hsv hlv
      obtain ⟨qn, hqn⟩ : ∃ qn, qn = ql.length := ⟨_, rfl⟩
      obtain ⟨vn, hvn⟩ : ∃ vn, vn = vl.length := ⟨_, rfl⟩
      rw [← hqn, ← hvn] at hat
      have HAT := Lib.hid hat
      have HQN : Hid (ql.length = qn) := hqn.symm
      have HVN : Hid (vl.length = vn) := hvn.symm
      have hq63 : qn ≤ 9223372036854775807 := by omega
      have hv63 : vn ≤ 9223372036854775807 := by omega
      have HSQ := Lib.hid hsq
      have HSV := Lib.hid hsv
      obtain ⟨e0, e1, e2⟩ := hat wr HM.out.2.2
      clear hsq hsv hlq hlv hqn hvn hat
      cases g with
      | true =>
        have HN' : Hid (putsV (valsOf (ps.take (k + 1))) = putsV (valsOf (ps.take k)) ++ (1 :: partP ql)) := HN.out
        have L1 : Hid (([1] : List UInt8).length = 1) := rfl
        obtain ⟨D1, hD1⟩ : ∃ D1, D1 = D ++ [1] := ⟨_, rfl⟩
        obtain ⟨N1, hN1⟩ : ∃ N1, N1 = n2 + 1 := ⟨_, rfl⟩
        have ED1 := Lib.hid hD1
        have EN1 := Lib.hid hN1
        have hfit : Hid (N1 + (partP ql).length ≤ 140737488000000) := by
          show _ ≤ _
          have h1 := HF.out
          have h2 := HB.out
          rw [HN'.out, List.length_append, List.length_cons] at h1
          have h3 := HM.out.1
          rw [ED.out, List.length_append] at h3
          omega
        have HPL := Lib.hid (partP_length ql)
        have hn2b : n2 ≤ 140737488000000 := by have := hfit.out; omega
        clear hD1 hN1
        go_wp2_with (at_builtin; refine wpList_append_new wr rfl (.tmp 20) (.tmp 22) 22 rfl 5 i0 (.int .u8 0) Try.underlying22 hi hz0 hz1 hz2 rfl w A2 n2 c2 D 1 _ [1] D1 N1 rfl _ rfl rfl HM rfl L1 ED1 EN1 (by omega) ?_)
        intro A3 c3 w3 HM3 _
        obtain ⟨x0, x1, x2⟩ := HAT.out w3 HM3.out.2.2
        go_wp2_with fail
        refine (refPut_on w w3 A3 D1 N1 c3 qn HM3.out (by omega) (by have := hfit.out; omega)).mono ?_
        rintro e w4 ⟨A4, n4, c4, rfl, hm4⟩
        have HM4 := Lib.hid hm4
        obtain ⟨y0, y1, y2⟩ := HAT.out w4 hm4.2.2
        clear hm4 x0 x1 x2
        obtain ⟨D4, hD4⟩ : ∃ D4, D4 = D1 ++ putL qn := ⟨_, rfl⟩
        rw [← hD4] at HM4
        obtain ⟨D5, hD5⟩ : ∃ D5, D5 = D4 ++ ql := ⟨_, rfl⟩
        obtain ⟨N5, hN5⟩ : ∃ N5, N5 = n4 + qn := ⟨_, rfl⟩
        have ED4 := Lib.hid hD4
        have ED5 := Lib.hid hD5
        have EN5 := Lib.hid hN5
        have hfit5 : n4 + qn ≤ 140737488000000 := by
          have h1 := HM4.out.1
          rw [hD4, List.length_append, HM3.out.1] at h1
          have h2 := hfit.out
          have h3 := HPL.out.2
          rw [HQN.out] at h3
          omega
        have HSQ4 := Lib.hid (HSQ.out.below HM4.out.2.2)
        clear hD4 hD5 hN5
        go_wp2_with (at_builtin; refine wpList_append_to w4 rfl (.tmp 32) (.tmp 37) 22 rfl 5 i0 (.int .u8 0) Try.underlying22 hi hz0 hz1 hz2 rfl w A4 n4 c4 D4 qA qn qc ql D5 N5 rfl rfl HM4 HSQ4 HQN ED5 EN5 (by omega) ?_)
        intro A5 c5 w5 HM5 _
        obtain ⟨x0, x1, x2⟩ := HAT.out w5 HM5.out.2.2
        clear y0 y1 y2
        go_wp2_with fail
        go_roundw
        case rel =>
          refine ⟨k + 1, A5, N5, c5, by rw [HL.out]; omega, by go_num, rfl, ?_⟩
          have e : putL ps.length ++ putsV (valsOf (ps.take (k + 1))) = D5 := by rw [HN'.out, ED5.out, ED4.out, ED1.out, ED.out, HL.out, partP, HQN.out]; simp
          rw [e]; exact HM5.out
        case measure => simp [intOf]; omega
      | false =>
        have HN' : Hid (putsV (valsOf (ps.take (k + 1))) = putsV (valsOf (ps.take k)) ++ (0 :: (partP ql ++ partP vl))) := HN.out
        have L1 : Hid (([0] : List UInt8).length = 1) := rfl
        obtain ⟨D1, hD1⟩ : ∃ D1, D1 = D ++ [0] := ⟨_, rfl⟩
        obtain ⟨N1, hN1⟩ : ∃ N1, N1 = n2 + 1 := ⟨_, rfl⟩
        have ED1 := Lib.hid hD1
        have EN1 := Lib.hid hN1
        have hfit : Hid (N1 + ((partP ql).length + (partP vl).length) ≤ 140737488000000) := by
          show _ ≤ _
          have h1 := HF.out
          have h2 := HB.out
          rw [HN'.out, List.length_append, List.length_cons, List.length_append] at h1
          have h3 := HM.out.1
          rw [ED.out, List.length_append] at h3
          omega
        have HPL := Lib.hid (partP_length ql)
        have HPV := Lib.hid (partP_length vl)
        have hn2b : n2 ≤ 140737488000000 := by have := hfit.out; omega
        clear hD1 hN1
        go_wp2_with (at_builtin; refine wpList_append_new wr rfl (.tmp 20) (.tmp 22) 22 rfl 5 i0 (.int .u8 0) Try.underlying22 hi hz0 hz1 hz2 rfl w A2 n2 c2 D 1 _ [0] D1 N1 rfl _ rfl rfl HM rfl L1 ED1 EN1 (by omega) ?_)
        intro A3 c3 w3 HM3 _
        obtain ⟨x0, x1, x2⟩ := HAT.out w3 HM3.out.2.2
        go_wp2_with fail
        refine (refPut_on w w3 A3 D1 N1 c3 qn HM3.out (by omega) (by have := hfit.out; omega)).mono ?_
        rintro e w4 ⟨A4, n4, c4, rfl, hm4⟩
        have HM4 := Lib.hid hm4
        obtain ⟨y0, y1, y2⟩ := HAT.out w4 hm4.2.2
        clear hm4 x0 x1 x2
        obtain ⟨D4, hD4⟩ : ∃ D4, D4 = D1 ++ putL qn := ⟨_, rfl⟩
        rw [← hD4] at HM4
        obtain ⟨D5, hD5⟩ : ∃ D5, D5 = D4 ++ ql := ⟨_, rfl⟩
        obtain ⟨N5, hN5⟩ : ∃ N5, N5 = n4 + qn := ⟨_, rfl⟩
        have ED4 := Lib.hid hD4
        have ED5 := Lib.hid hD5
        have EN5 := Lib.hid hN5
        have hfit5 : Hid (n4 + qn + (partP vl).length ≤ 140737488000000) := by
          show _ ≤ _
          have h1 := HM4.out.1
          rw [hD4, List.length_append, HM3.out.1] at h1
          have h2 := hfit.out
          have h3 := HPL.out.2
          rw [HQN.out] at h3
          omega
        have hfit5' : n4 + qn ≤ 140737488000000 := by have := hfit5.out; omega
        have HSQ4 := Lib.hid (HSQ.out.below HM4.out.2.2)
        clear hD4 hD5 hN5
        go_wp2_with (at_builtin; refine wpList_append_to w4 rfl (.tmp 32) (.tmp 37) 22 rfl 5 i0 (.int .u8 0) Try.underlying22 hi hz0 hz1 hz2 rfl w A4 n4 c4 D4 qA qn qc ql D5 N5 rfl rfl HM4 HSQ4 HQN ED5 EN5 (by omega) ?_)
        intro A5 c5 w5 HM5 _
        obtain ⟨x0, x1, x2⟩ := HAT.out w5 HM5.out.2.2
        clear y0 y1 y2
        go_wp2_with fail
        refine (refPut_on w w5 A5 D5 N5 c5 vn HM5.out (by omega) (by have := EN5.out; omega)).mono ?_
        rintro e w6 ⟨A6, n6, c6, rfl, hm6⟩
        have HM6 := Lib.hid hm6
        obtain ⟨y0, y1, y2⟩ := HAT.out w6 hm6.2.2
        clear hm6 x0 x1 x2
        obtain ⟨D6, hD6⟩ : ∃ D6, D6 = D5 ++ putL vn := ⟨_, rfl⟩
        rw [← hD6] at HM6
        obtain ⟨D7, hD7⟩ : ∃ D7, D7 = D6 ++ vl := ⟨_, rfl⟩
        obtain ⟨N7, hN7⟩ : ∃ N7, N7 = n6 + vn := ⟨_, rfl⟩
        have ED6 := Lib.hid hD6
        have ED7 := Lib.hid hD7
        have EN7 := Lib.hid hN7
        have hfit7 : n6 + vn ≤ 140737488000000 := by
          have h1 := HM6.out.1
          rw [hD6, List.length_append, HM5.out.1] at h1
          have h2 := hfit5.out
          have h3 := HPV.out.2
          have h4 := EN5.out
          rw [HVN.out] at h3
          omega
        have HSV6 := Lib.hid (HSV.out.below HM6.out.2.2)
        clear hD6 hD7 hN7
        go_wp2_with (at_builtin; refine wpList_append_to w6 rfl (.tmp 53) (.tmp 58) 22 rfl 5 i0 (.int .u8 0) Try.underlying22 hi hz0 hz1 hz2 rfl w A6 n6 c6 D6 vA vn vc vl D7 N7 rfl rfl HM6 HSV6 HVN ED7 EN7 (by omega) ?_)
        intro A7 c7 w7 HM7 _
        clear y0 y1 y2
        go_wp2_with fail
        go_roundw
        case rel =>
          refine ⟨k + 1, A7, N7, c7, by rw [HL.out]; omega, by go_num, rfl, ?_⟩
          have e : putL ps.length ++ putsV (valsOf (ps.take (k + 1))) = D7 := by rw [HN'.out, ED7.out, ED6.out, ED5.out, ED4.out, ED1.out, ED.out, HL.out, partP, partP, HQN.out, HVN.out]; simp
          rw [e]; exact HM7.out
        case measure => simp [intOf]; omega
    · obtain rfl : k = L := by omega
      have e : D = batchL (valsOf ps) := by rw [HBE.out, ED.out, ← HL.out, List.take_length]
      go_wp2_with fail
      go_ret
      exact ⟨A2, n2, c2, rfl, by rw [← e]; exact HM.out⟩
end Go.Proofs.Ytmngcfmlmdhpbaa
