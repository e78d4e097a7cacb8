/-
  What the statements' own questions about lists of records come to: short, texts. No conditions but that lengths are ints.
-/
import Derived.Test.YtkbjhnlihnakkaaSeenAll
import Derived.Test.YtkbjhnlihnakkaaText
import Derived.BigQuiet
import Derived.Deep.QuietTactic
import Derived.Lib.Hide
namespace Go.Proofs.Ytkbjhnlihnakkaa
open Go.RowKit

def shortB (ps : List Piece) : Bool := decide (ps.length ≤ 40 ∧ ∀ q ∈ ps, q.2.1.length ≤ 1000)

set_option maxRecDepth 100000 in
set_option maxHeartbeats 400000 in
theorem short_any (A : Option Addr) (ps : List Piece) (c : Nat) (w : World) (hs : SeenAll w A ps) (hn : ps.length ≤ 9223372036854775807) :
    Calls Try.prog 27 #[.slice A ps.length c] w fun e w' => e = .returned (.bool (shortB ps)) ∧ w = w' := by
  have HS := Lib.hid hs
  clear hs
  by_cases hlong : 40 < ps.length
  · have HF : Hid (shortB ps = false) := by
      show decide _ = _
      rw [decide_eq_false_iff_not]
      rintro ⟨h, _⟩
      omega
    rw [HF.out]
    go_enter Try.func27, Try.ntmps27
    go_wp2_with fail
    go_ret
    exact ⟨rfl, rfl⟩
  · obtain ⟨v, hv⟩ : ∃ v, v = shortB ps := ⟨_, rfl⟩
    rw [← hv]
    have HV := Lib.hid hv
    clear hv
    go_enter Try.func27, Try.ntmps27
    go_wp2_with fail
    go_loopw [3] (fun i wr => ∃ k : Nat, k ≤ ps.length ∧ i = .int .i64 k ∧ Hid (∀ j (h : j < ps.length), j < k → ps[j].2.1.length ≤ 1000) ∧ w = wr) (fun i _ => ps.length - (intOf i).toNat)
    case atStart => exact ⟨0, by omega, rfl, Lib.hid (fun j _ h => by omega), rfl⟩
    case round =>
      obtain ⟨k, hk, rfl, hall, rfl⟩ := hrel
      by_cases hlt : k < ps.length
      · obtain ⟨b, off, hA, _, hc, _, _, hmk⟩ := HS.out.at_ k hlt
        subst hA
        obtain ⟨l, hl⟩ : ∃ l, l = ps[k].2.1.length := ⟨_, rfl⟩
        rw [← hl] at hc hmk
        have HL := Lib.hid hl
        clear hl
        generalize ps[k].1 = Ak at *
        generalize ps[k].2.2 = ck at *
        by_cases h1 : 1000 < l
        · have HF : Hid (v = false) := by
            show _ = _
            rw [HV.out]
            show decide _ = _
            rw [decide_eq_false_iff_not]
            rintro ⟨_, h⟩
            have := h ps[k] (List.getElem_mem hlt)
            have := HL.out
            omega
          go_wp2_with fail
          go_ret
          exact ⟨by rw [HF.out]; rfl, rfl⟩
        · go_wp2_with fail
          go_roundw
          case rel =>
            refine ⟨k + 1, by omega, by go_num, Lib.hid (fun j hj h => ?_), by first | rfl | trivial⟩
            by_cases hjk : j = k
            · subst hjk; have := HL.out; omega
            · exact hall.out j hj (by omega)
          case measure => simp [intOf]; omega
      · obtain rfl : k = ps.length := by omega
        have HF : Hid (v = true) := by
          show _ = _
          rw [HV.out]
          show decide _ = _
          rw [decide_eq_true_iff]
          refine ⟨by omega, fun q hq => ?_⟩
          obtain ⟨j, hj, rfl⟩ := List.getElem_of_mem hq
          exact hall.out j hj hj
        go_wp2_with fail
        go_ret
        exact ⟨by rw [HF.out]; rfl, rfl⟩

theorem getElem_bytesOf {ps : List Piece} {k : Nat} (h : k < ps.length) : (bytesOf ps)[k]'(by rw [length_bytesOf]; exact h) = ps[k].2.1 := by simp [bytesOf]

set_option maxRecDepth 100000 in
set_option maxHeartbeats 400000 in
theorem texts_same (A : Option Addr) (ps : List Piece) (n c : Nat) (B : Option Addr) (qs : List Piece) (m d : Nat) (w : World) (hn : ps.length = n) (hm : qs.length = m) (hs : SeenAll w A ps) (hs' : SeenAll w B qs) (hn' : n ≤ 9223372036854775807) (hm' : m ≤ 9223372036854775807) :
    Calls Try.prog 18 #[.slice A n c, .slice B m d] w fun e w' => e = .returned (.bool (decide (bytesOf ps = bytesOf qs))) ∧ Below w.heap.size w w' := by
  have HS := Lib.hid hs
  have HS' := Lib.hid hs'
  have HN := Lib.hid hn
  have HM := Lib.hid hm
  obtain ⟨v, hv⟩ : ∃ v, v = decide (bytesOf ps = bytesOf qs) := ⟨_, rfl⟩
  rw [← hv]
  have HV := Lib.hid hv
  clear hs hs' hn hm hv
  by_cases hnm : n = m
  · subst hnm
    go_enter Try.func18, Try.ntmps18
    go_wp2_with fail
    go_loopw [5] (fun i wr => ∃ k : Nat, k ≤ n ∧ i = .int .i64 k ∧ Hid ((bytesOf ps).take k = (bytesOf qs).take k) ∧ Hid (Below w.heap.size w wr)) (fun i _ => n - (intOf i).toNat)
    case atStart => exact ⟨0, by omega, rfl, Lib.hid rfl, Lib.hid (Below.refl _ _)⟩
    case round =>
      obtain ⟨k, hk, rfl, hall, BW⟩ := hrel
      by_cases hlt : k < n
      · have hk1 : k < ps.length := by rw [HN.out]; exact hlt
        have hk2 : k < qs.length := by rw [HM.out]; exact hlt
        obtain ⟨b, off, hA, hbw, hc, hsk, _, hmk⟩ := HS.out.at_ k hk1
        obtain ⟨b', off', hB, hbw', hc', hsk', _, hmk'⟩ := HS'.out.at_ k hk2
        subst hA hB
        have HC := Lib.hid ((BW.out.cell (p := ⟨b, off + k, none⟩) hbw).trans hc)
        have HC' := Lib.hid ((BW.out.cell (p := ⟨b', off' + k, none⟩) hbw').trans hc')
        have E1 : Hid ((bytesOf ps).take (k + 1) = (bytesOf ps).take k ++ [ps[k].2.1]) := by show _ = _; rw [List.take_succ_eq_append_getElem (by rw [length_bytesOf]; exact hk1), getElem_bytesOf hk1]
        have E2 : Hid ((bytesOf qs).take (k + 1) = (bytesOf qs).take k ++ [qs[k].2.1]) := by show _ = _; rw [List.take_succ_eq_append_getElem (by rw [length_bytesOf]; exact hk2), getElem_bytesOf hk2]
        have ED : Hid (ps[k].2.1 ≠ qs[k].2.1 → bytesOf ps ≠ bytesOf qs) := fun h e => h (by rw [← getElem_bytesOf hk1, ← getElem_bytesOf hk2]; simp [e])
        have hq := text_beq ps[k].2.1 qs[k].2.1
        have U1 := text_on hsk ps[k].2.1.length ps[k].2.2 rfl
        have U2 := text_on hsk' qs[k].2.1.length qs[k].2.2 rfl
        have c1 := HC.out
        have c2 := HC'.out
        clear hsk hsk' hc hc' HC HC'
        generalize ps[k].1 = Ak at *
        generalize qs[k].1 = Bk at *
        generalize ps[k].2.2 = ck at *
        generalize qs[k].2.2 = dk at *
        obtain ⟨x, hx⟩ : ∃ x, x = ps[k].2.1 := ⟨_, rfl⟩
        obtain ⟨y, hy⟩ : ∃ y, y = qs[k].2.1 := ⟨_, rfl⟩
        rw [← hx] at hq U1 E1 ED c1 hmk
        rw [← hy] at hq U2 E2 ED c2 hmk'
        clear hx hy
        by_cases hxy : x = y
        · rw [decide_eq_true hxy] at hq
          have ET : Hid ((bytesOf ps).take (k + 1) = (bytesOf qs).take (k + 1)) := by show _ = _; rw [E1.out, E2.out, hall.out, hxy]
          clear hxy ED
          generalize (⟨x.toArray⟩ : ByteArray) = tx at *
          generalize (⟨y.toArray⟩ : ByteArray) = ty at *
          have v1 := U1 _ BW.out.drew
          have v2 := U2 _ BW.out.drew
          go_wp2_with fail
          go_region
          go_wp2_with fail
          go_roundw
          case rel => exact ⟨k + 1, by omega, by go_num, ET, Lib.hid BW.out.drew⟩
          case measure => simp [intOf]; omega
        · rw [decide_eq_false hxy] at hq
          have EF : Hid (v = false) := by show _ = _; rw [HV.out, decide_eq_false (ED.out hxy)]
          clear hxy ED
          generalize (⟨x.toArray⟩ : ByteArray) = tx at *
          generalize (⟨y.toArray⟩ : ByteArray) = ty at *
          have v1 := U1 _ BW.out.drew
          have v2 := U2 _ BW.out.drew
          go_wp2_with fail
          go_region
          go_wp2_with fail
          go_ret
          exact ⟨by rw [EF.out]; rfl, BW.out.drew⟩
      · obtain rfl : k = n := by omega
        have EF : Hid (v = true) := by
          show _ = _
          rw [HV.out]
          apply decide_eq_true
          have h := hall.out
          rw [List.take_of_length_le (by rw [length_bytesOf, HN.out]; omega), List.take_of_length_le (by rw [length_bytesOf, HM.out]; omega)] at h
          exact h
        go_wp2_with fail
        go_ret
        exact ⟨by rw [EF.out]; rfl, BW.out⟩
  · have EF : Hid (v = false) := by
      show _ = _
      rw [HV.out]
      apply decide_eq_false
      intro e
      have h := congrArg List.length e
      rw [length_bytesOf, length_bytesOf, HN.out, HM.out] at h
      exact hnm h
    have hh : ((n : Int) != (m : Int)) = true := by rw [bne_iff_ne]; omega
    go_enter Try.func18, Try.ntmps18
    go_wp2_with fail
    go_ret
    exact ⟨by rw [EF.out]; rfl, Below.refl _ _⟩
end Go.Proofs.Ytkbjhnlihnakkaa
