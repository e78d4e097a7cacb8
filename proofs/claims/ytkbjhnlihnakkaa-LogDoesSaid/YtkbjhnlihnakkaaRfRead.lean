/-
  Of the document's disk, Read. Condition: as it says.
-/
import Derived.Test.YtkbjhnlihnakkaaRfSmall
namespace Go.Proofs.Ytkbjhnlihnakkaa
open Go.RowKit

/-- what Read answers -/
def ReadOut (s : Dsk) (i : Int) (w' : World) (e : Ending) : Prop :=
  (¬ (0 ≤ i ∧ i < s.K.length) ∧ e = .returned (.tuple #[.slice none 0 0, .int .i64 1])) ∨
  ((0 ≤ i ∧ i < s.K.length) ∧ s.off = true ∧ e = .returned (.tuple #[.slice none 0 0, .int .i64 5])) ∨
  ((0 ≤ i ∧ i < s.K.length) ∧ s.off = false ∧ ∃ x A c, s.Last i.toNat x ∧ Seen w' A x ∧ e = .returned (.tuple #[.slice A 64 c, .int .i64 0]))

set_option maxRecDepth 100000 in
set_option maxHeartbeats 400000 in
theorem refRead_any (w : World) (r : Nat) (G : Nat → Prop) (s : Dsk) (i : Int) (h : RefAt w r G s) :
    Calls Try.prog 41 #[.pointer (some ⟨r, 0, none⟩), .int .i64 i] w fun e w' => Below w.heap.size w w' ∧ ReadOut s i w' e := by
  obtain ⟨vK, vM, PK, PM, armed, left, h⟩ := h
  have HPL := Lib.hid h.len.2.2
  obtain ⟨⟨A, c, rfl, hcm⟩, ⟨A', c', rfl, hcm'⟩⟩ := h.forms
  have hM : s.M.length ≤ 9223372036854775807 := by unfold maxLen at hcm'; omega
  have hK4 := h.hi
  obtain ⟨c0, c1, c2, _⟩ := h.cells
  have H := Lib.hid h
  clear h hcm hcm'
  by_cases h0 : i < 0
  · have hI : Hid (¬ (0 ≤ i ∧ i < s.K.length)) := by show ¬ _; omega
    go_enter Try.func41, Try.ntmps41
    go_wp2
    go_ret2
    exact ⟨Below.refl _ _, .inl ⟨hI.out, rfl⟩⟩
  by_cases h1 : i < s.K.length
  · obtain ⟨n, rfl⟩ : ∃ n : Nat, i = (n : Int) := ⟨i.toNat, by omega⟩
    have hn : n < s.K.length := by omega
    have hI : Hid (0 ≤ (n : Int) ∧ (n : Int) < s.K.length) := by show _ ∧ _; omega
    clear h0
    by_cases ho : s.off = true
    · rw [ho] at c2
      have HO := Lib.hid ho
      clear ho
      go_enter Try.func41, Try.ntmps41
      go_wp2
      go_ret2
      exact ⟨Below.refl _ _, .inr (.inl ⟨hI.out, HO.out, rfl⟩)⟩
    · have ho' : s.off = false := by cases hs : s.off <;> simp_all
      rw [ho'] at c2
      have HO := Lib.hid ho'
      clear ho ho'
      obtain ⟨i0, hi, hz0, hz1, hz2⟩ := info_parts info8d
      go_enter Try.func41, Try.ntmps41
      go_wp2
      go_loopw [6] (fun a wr => wr = w ∧ ∃ k : Nat, k ≤ s.M.length ∧ a = .int .i64 ((k : Int) - 1) ∧ ∀ j (hj : j < s.M.length), k ≤ j → s.M[j].1 ≠ n) (fun a _ => (intOf a + 1).toNat)
      case atStart => exact ⟨rfl, s.M.length, Nat.le_refl _, rfl, fun j hj h => by omega⟩
      case round =>
        obtain ⟨hwr, k, hk, rfl, hno⟩ := hrel
        obtain rfl := hwr.symm
        by_cases hk0 : 0 < k
        · obtain ⟨q, rfl⟩ : ∃ q, k = q + 1 := ⟨k - 1, by omega⟩
          rw [show (((q + 1 : Nat) : Int) - 1) = (q : Int) by omega]
          have hq : q < s.M.length := by omega
          have hqP : q < PM.length := by rw [HPL.out.2]; exact hq
          obtain ⟨mb, cm, hv, d0, d1⟩ := H.out.mcell q hqP
          injection hv with hv _ _
          subst hv
          have hh := H.out.pM _ (List.getElem_mem hqP)
          have he : s.M[q] = (PM[q].1, PM[q].2.2.1) := by have := H.out.eqM; simp only [← this, List.getElem_map]
          rw [pv_slice _ hh.1] at d1
          have HSE := Lib.hid hh.seen
          have H64 := Lib.hid hh.1
          have HNO := Lib.hid hno
          have HE := Lib.hid he
          clear hh he hno hk hk0
          generalize PM[q] = pq at *
          clear hqP
          obtain ⟨m, Aq, xq, cq⟩ := pq
          by_cases hm : m = n
          · subst hm
            have HLA : Hid (s.Last m xq) := Or.inl ⟨q, hq, by rw [HE.out], by rw [HE.out], fun j hj hlt => HNO.out j hj (by omega)⟩
            clear HNO HE
            go_wp2_with (refine wpList_append_bytes _ rfl (.const (.slice none 0 0)) (.tmp 49) 22 rfl 5 i0 (.int .u8 0) Try.underlying22 hi hz0 hz1 hz2 rfl w _ [] Aq xq cq rfl (by rw [H64.out]; rfl) (Made.nil _ _) HSE.out (by rw [H64.out]; decide) ?_; intro v3 w3 hm3 hb3; obtain ⟨A3, c3, rfl, hm3⟩ := made_len hm3 (n := 64) (by rw [List.nil_append]; exact H64.out); have HM3 := Lib.hid hm3)
            go_ret2
            exact ⟨HM3.out.2, .inr (.inr ⟨hI.out, HO.out, xq, _, _, HLA.out, HM3.out.at_len.2, rfl⟩)⟩
          · have hm' : ¬ (m : Int) = (n : Int) := by omega
            have HN2 : Hid (∀ j (hj : j < s.M.length), q ≤ j → s.M[j].1 ≠ n) := fun j hj hle => by
              rcases Nat.lt_or_ge q j with h | h
              · exact HNO.out j hj h
              · obtain rfl : j = q := by omega
                rw [HE.out]; exact hm
            clear HNO HE hm
            go_wp2
            go_roundw
            case rel => exact ⟨trivial, q, by omega, rfl, HN2.out⟩
            case measure => simp [intOf]
        · obtain rfl : k = 0 := by omega
          have hno' : ∀ j (hj : j < s.M.length), s.M[j].1 ≠ n := fun j hj => hno j hj (by omega)
          have HLA : Hid (s.Last n s.K[n]) := Or.inr ⟨hno', List.getElem?_eq_getElem hn⟩
          have hnP : n < PK.length := by rw [HPL.out.1]; exact hn
          obtain ⟨kb, ck, hv, d0, _⟩ := H.out.kcell n hnP
          injection hv with hv _ _
          subst hv
          have hh := H.out.pK _ (List.getElem_mem hnP)
          have he : PK[n].2.1 = s.K[n] := by have := H.out.eqK; simp only [← this, List.getElem_map]
          rw [pv_slice _ hh.1] at d0
          rw [← he] at HLA
          have HSE := Lib.hid hh.seen
          have H64 := Lib.hid hh.1
          clear hh he hno hno' hk hk0
          generalize PK[n] = pq at *
          clear hnP
          obtain ⟨Aq, xq, cq⟩ := pq
          have e : ((0 : Nat) : Int) - 1 = -1 := rfl
          rw [e]
          clear e
          go_wp2_with (refine wpList_append_bytes _ rfl (.const (.slice none 0 0)) (.tmp 57) 22 rfl 5 i0 (.int .u8 0) Try.underlying22 hi hz0 hz1 hz2 rfl w _ [] Aq xq cq rfl (by rw [H64.out]; rfl) (Made.nil _ _) HSE.out (by rw [H64.out]; decide) ?_; intro v3 w3 hm3 hb3; obtain ⟨A3, c3, rfl, hm3⟩ := made_len hm3 (n := 64) (by rw [List.nil_append]; exact H64.out); have HM3 := Lib.hid hm3)
          go_ret2
          exact ⟨HM3.out.2, .inr (.inr ⟨hI.out, HO.out, xq, _, _, HLA.out, HM3.out.at_len.2, rfl⟩)⟩
  · have hI : Hid (¬ (0 ≤ i ∧ i < s.K.length)) := by show ¬ _; omega
    go_enter Try.func41, Try.ntmps41
    go_wp2
    go_ret2
    exact ⟨Below.refl _ _, .inl ⟨hI.out, rfl⟩⟩
end Go.Proofs.Ytkbjhnlihnakkaa
