/-
  What the statement's own 'less' comes to. No conditions but that lengths are ints.
-/
import Derived.Test.YtooooppgdchjaaaFew
namespace Go.Proofs.Ytooooppgdchjaaa
open Go.RowKit

theorem less_drop {a b : List (List UInt8)} {k : Nat} (h1 : k < a.length) (h2 : k < b.length) : lessL (a.drop k) (b.drop k) = if a[k] = b[k] then lessL (a.drop (k + 1)) (b.drop (k + 1)) else Op.bytesLess a[k] b[k] := by
  rw [List.drop_eq_getElem_cons h1, List.drop_eq_getElem_cons h2, lessL]
theorem less_over {a b : List (List UInt8)} {k : Nat} (hk : k ≤ a.length) (hk' : k ≤ b.length) (h : k = a.length ∨ k = b.length) : lessL (a.drop k) (b.drop k) = decide (a.length < b.length) := by
  rcases Nat.lt_or_ge k b.length with h2 | h2
  · obtain rfl : k = a.length := by omega
    rw [List.drop_length, List.drop_eq_getElem_cons h2, decide_eq_true h2]
    rfl
  · rw [List.drop_eq_nil_of_le h2, decide_eq_false (by omega)]
    cases a.drop k <;> rfl

set_option maxRecDepth 100000 in
set_option maxHeartbeats 400000 in
theorem less_any (A : Option Addr) (ps : List Piece) (n c : Nat) (B : Option Addr) (qs : List Piece) (m d : Nat) (w : World) (hn : ps.length = n) (hm : qs.length = m) (hs : SeenAll w A ps) (hs' : SeenAll w B qs) (hn' : n ≤ 9223372036854775807) (hm' : m ≤ 9223372036854775807) :
    Calls Try.prog 19 #[.slice A n c, .slice B m d] w fun e w' => e = .returned (.bool (lessL (bytesOf ps) (bytesOf qs))) ∧ Below w.heap.size w w' := by
  have HS := Lib.hid hs
  have HS' := Lib.hid hs'
  have HN := Lib.hid hn
  have HM := Lib.hid hm
  obtain ⟨v, hv⟩ : ∃ v, v = lessL (bytesOf ps) (bytesOf qs) := ⟨_, rfl⟩
  rw [← hv]
  have HV := Lib.hid hv
  clear hs hs' hn hm hv
  go_enter Try.func19, Try.ntmps19
  go_wp2_with fail
  go_loopw [5] (fun i wr => ∃ k : Nat, k ≤ n ∧ k ≤ m ∧ i = .int .i64 k ∧ Hid (lessL ((bytesOf ps).drop k) ((bytesOf qs).drop k) = v) ∧ Hid (Below w.heap.size w wr)) (fun i _ => n - (intOf i).toNat)
  case atStart => exact ⟨0, by omega, by omega, rfl, Lib.hid HV.out.symm, Lib.hid (Below.refl _ _)⟩
  case round =>
    obtain ⟨k, hk, hk', rfl, hall, BW⟩ := hrel
    by_cases hlt : k < n
    · by_cases hlt' : k < m
      · have hk1 : k < ps.length := by rw [HN.out]; exact hlt
        have hk2 : k < qs.length := by rw [HM.out]; exact hlt'
        obtain ⟨b, off, hA, hbw, hc, hsk, _, hmk⟩ := HS.out.at_ k hk1
        obtain ⟨b', off', hB, hbw', hc', hsk', _, hmk'⟩ := HS'.out.at_ k hk2
        subst hA hB
        have HC := Lib.hid ((BW.out.cell (p := ⟨b, off + k, none⟩) hbw).trans hc)
        have HC' := Lib.hid ((BW.out.cell (p := ⟨b', off' + k, none⟩) hbw').trans hc')
        have ED : Hid (lessL ((bytesOf ps).drop k) ((bytesOf qs).drop k) = if ps[k].2.1 = qs[k].2.1 then lessL ((bytesOf ps).drop (k + 1)) ((bytesOf qs).drop (k + 1)) else Op.bytesLess ps[k].2.1 qs[k].2.1) := by
          show _ = _
          rw [less_drop (by rw [length_bytesOf]; exact hk1) (by rw [length_bytesOf]; exact hk2), getElem_bytesOf hk1, getElem_bytesOf hk2]
        have hq := text_beq ps[k].2.1 qs[k].2.1
        have U1 := text_on hsk ps[k].2.1.length ps[k].2.2 rfl
        have U2 := text_on hsk' qs[k].2.1.length qs[k].2.2 rfl
        have c1 := HC.out
        have c2 := HC'.out
        clear hsk hsk' hc hc' HC HC'
        generalize ps[k].1 = Ak at *
        generalize qs[k].1 = Bk at *
        generalize ps[k].2.2 = ck at *
        generalize qs[k].2.2 = dk at *
        obtain ⟨x, hx⟩ : ∃ x, x = ps[k].2.1 := ⟨_, rfl⟩
        obtain ⟨y, hy⟩ : ∃ y, y = qs[k].2.1 := ⟨_, rfl⟩
        rw [← hx] at hq U1 ED c1 hmk
        rw [← hy] at hq U2 ED c2 hmk'
        clear hx hy
        by_cases hxy : x = y
        · rw [decide_eq_true hxy] at hq
          have ET : Hid (lessL ((bytesOf ps).drop (k + 1)) ((bytesOf qs).drop (k + 1)) = v) := by show _ = _; rw [← hall.out, ED.out, if_pos hxy]
          clear hxy ED
          generalize (⟨x.toArray⟩ : ByteArray) = tx at *
          generalize (⟨y.toArray⟩ : ByteArray) = ty at *
          have v1 := U1 _ BW.out.drew
          have v2 := U2 _ BW.out.drew
          go_wp2_with fail
          go_region
          go_wp2_with fail
          go_roundw
          case rel => exact ⟨k + 1, by omega, by omega, by go_num, ET, Lib.hid BW.out.drew⟩
          case measure => simp [intOf]; omega
        · rw [decide_eq_false hxy] at hq
          have EF : Hid (v = Op.bytesLess x y) := by show _ = _; rw [← hall.out, ED.out, if_neg hxy]
          have hlss : Op.bytesLess (⟨x.toArray⟩ : ByteArray).toList (⟨y.toArray⟩ : ByteArray).toList = v := by rw [EF.out]; simp only [ByteArray.toList_eq]
          clear hxy ED EF
          generalize (⟨x.toArray⟩ : ByteArray) = tx at *
          generalize (⟨y.toArray⟩ : ByteArray) = ty at *
          have v1 := U1 _ BW.out.drew
          have v2 := U2 _ BW.out.drew
          have z1 := U1 _ BW.out.drew.drew
          have z2 := U2 _ BW.out.drew.drew
          go_wp2_with fail
          go_region
          go_wp2_with fail
          go_region
          go_wp2_with fail
          go_ret
          exact ⟨by first | rfl | rw [hlss], BW.out.drew.drew⟩
      · obtain rfl : k = m := by omega
        have EF : Hid (v = decide (n < k)) := by
          show _ = _
          rw [← hall.out, less_over (by rw [length_bytesOf, HN.out]; omega) (by rw [length_bytesOf, HM.out]; omega) (.inr (by rw [length_bytesOf, HM.out])), length_bytesOf, length_bytesOf, HN.out, HM.out]
        go_wp2_with fail
        go_ret
        exact ⟨by rw [EF.out]; rfl, BW.out⟩
    · obtain rfl : k = n := by omega
      have EF : Hid (v = decide (k < m)) := by
        show _ = _
        rw [← hall.out, less_over (by rw [length_bytesOf, HN.out]; omega) (by rw [length_bytesOf, HM.out]; omega) (.inl (by rw [length_bytesOf, HN.out])), length_bytesOf, length_bytesOf, HN.out, HM.out]
      go_wp2_with fail
      go_ret
      exact ⟨by rw [EF.out]; rfl, BW.out⟩
end Go.Proofs.Ytooooppgdchjaaa
