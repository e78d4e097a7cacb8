/-
  An area's small methods: valid, before, filled. Conditions: as each says.
-/
import Derived.Test.YtkbjhnlihnakkaaLgPut
import Derived.ArgAppend
namespace Go.Proofs.Ytkbjhnlihnakkaa
open Go.RowKit

set_option maxRecDepth 100000 in
set_option maxHeartbeats 1000000 in
theorem area_valid (w : World) (g : Nat) (F : Nat → Prop) (s : Dsk) (f N : Int) (h : DiskAt w g F s) (f0 : -9223372036854775808 ≤ f) (f1 : f ≤ 9223372036854775807) :
    Calls Try.prog 37 #[.agg #[.pointer (some ⟨g, 0, none⟩), .int .i64 f, .int .i64 N]] w fun e w' => e = .returned (.bool (decide (0 ≤ f ∧ 1 ≤ N ∧ N ≤ (s.K.length : Int) - f))) ∧ Below w.heap.size w w' := by
  have hK4 := h.ok.hi
  have HB := Lib.hid (boxA_below w g f N)
  have H1 := Lib.hid (h.still HB.out)
  obtain ⟨c0, c1, c2⟩ := area_cells (boxA_blk w g f N)
  obtain ⟨w1, hw1⟩ : ∃ w1, w1 = boxA w g f N := ⟨_, rfl⟩
  have HW := Lib.hid hw1
  rw [← hw1] at HB H1 c0 c1 c2
  clear h hw1
  by_cases h0 : 0 ≤ f
  · by_cases h1 : 1 ≤ N
    · have d0 : decide ((0 : Int) ≤ f) = true := decide_eq_true h0
      have d1 : decide ((1 : Int) ≤ N) = true := decide_eq_true h1
      have e : decide (0 ≤ f ∧ 1 ≤ N ∧ N ≤ (s.K.length : Int) - f) = decide (N ≤ (s.K.length : Int) - f) := by simp only [h0, h1, true_and]
      rw [e]
      have hw64 : IntKind.i64.wrap ((s.K.length : Int) - f) = (s.K.length : Int) - f := by rw [IntKind.wrap_i64]; omega
      clear e
      go_enter Try.func37, Try.ntmps37
      go_wp2
      rw [show w.alloc (.cells #[.pointer (some ⟨g, 0, none⟩), .int .i64 f, .int .i64 N] 72) = w1 from HW.out.symm]
      go_quiet (first | (go_at_call 45; refine Calls.quiet_of_same (blocks_any (H1.out.still (below_drewN (Below.refl _ _) _)))))
      go_wp2
      go_ret
      exact ⟨rfl, below_drewN HB.out _⟩
    · have d0 : decide ((0 : Int) ≤ f) = true := decide_eq_true h0
      have d1 : decide ((1 : Int) ≤ N) = false := decide_eq_false h1
      have e : decide (0 ≤ f ∧ 1 ≤ N ∧ N ≤ (s.K.length : Int) - f) = false := decide_eq_false (fun h => h1 h.2.1)
      rw [e]
      go_enter Try.func37, Try.ntmps37
      go_wp2
      rw [show w.alloc (.cells #[.pointer (some ⟨g, 0, none⟩), .int .i64 f, .int .i64 N] 72) = w1 from HW.out.symm]
      go_quiet (fail)
      go_wp2
      go_ret
      exact ⟨rfl, below_drewN HB.out _⟩
  · have d0 : decide ((0 : Int) ≤ f) = false := decide_eq_false h0
    have e : decide (0 ≤ f ∧ 1 ≤ N ∧ N ≤ (s.K.length : Int) - f) = false := decide_eq_false (fun h => h0 h.1)
    rw [e]
    go_enter Try.func37, Try.ntmps37
    go_wp2
    rw [show w.alloc (.cells #[.pointer (some ⟨g, 0, none⟩), .int .i64 f, .int .i64 N] 72) = w1 from HW.out.symm]
    go_quiet (fail)
    go_wp2
    go_ret
    exact ⟨rfl, below_drewN HB.out _⟩

theorem cut_cap (A : Option Addr) (n c m : Nat) (hm : m ≤ c) (W : World) : (Instr.slice 22 (.slice A n c) none (some (.int .i64 (m : Int))) (some (.int .i64 (m : Int)))).run Try.prog W = .ok (.slice A m m) W := by
  have e2 : Try.prog.elem 22 = 5 := by kernel_rfl
  obtain ⟨i, hi, hz⟩ := Option.map_eq_some_iff.1 info8p
  simp only [Prod.mk.injEq] at hz
  rw [run_slice_hm W 22 A n c (by kernel_rfl) .i64 .i64 (m : Int) (m : Int) (by omega) (by omega) (by omega), e2]
  simp [sizeOf, typeInfo, hi, hz.2.1, sliced]
  intro _
  cases A with
  | none => rfl
  | some a =>
    show some (a.add 0) = some a
    rw [Addr.add_zero']
/-- what before answers -/
def BeforeOut (w : World) (s : Dsk) (f pos n : Nat) (e : Ending) (w' : World) : Prop :=
  Below w.heap.size w w' ∧ ((s.off = true ∧ n ≠ 0 ∧ e = .returned (.tuple #[.slice none 0 0, .int .i64 5])) ∨
    (¬ (s.off = true ∧ n ≠ 0) ∧ ∃ A, e = .returned (.tuple #[.slice A n n, .int .i64 0]) ∧ (A = none → n = 0) ∧ Seen w' A (aheadL s.view f pos) ∧ (aheadL s.view f pos).length = n))

set_option maxRecDepth 100000 in
set_option maxHeartbeats 1000000 in
theorem area_before (w : World) (g : Nat) (F : Nat → Prop) (s : Dsk) (f N pos n k : Nat) (h : DiskAt w g F s) (hn : pos % 64 = n) (hk : pos / 64 = k) (hi : f + k < s.K.length) :
    Calls Try.prog 51 #[.agg #[.pointer (some ⟨g, 0, none⟩), .int .i64 (f : Int), .int .i64 (N : Int)], .int .i64 (pos : Int)] w (BeforeOut w s f pos n) := by
  have hK4 := h.ok.hi
  have HB := Lib.hid (boxA_below w g f N)
  have H := Lib.hid (h.still HB.out)
  have OK := Lib.hid h.ok
  have HAL : Hid ((aheadL s.view f pos).length = n) := by
    show _ = _
    rw [aheadL_length (view_len h.ok) (by rw [view_length, hk]; exact hi), hn]
  obtain ⟨c0, c1, c2⟩ := area_cells (boxA_blk w g f N)
  obtain ⟨w1, hw1⟩ : ∃ w1, w1 = boxA w g f N := ⟨_, rfl⟩
  have HW := Lib.hid hw1
  have hmod : (pos : Int) % 64 = (n : Int) := by omega
  have hdiv : (pos : Int) / 64 = (k : Int) := by omega
  have hn64 : n < 64 := by omega
  have hp : (pos : Int) ≤ 262144 := by omega
  have HM := Lib.hid hn
  have HD := Lib.hid hk
  rw [← hw1] at HB H c0 c1 c2
  rw [hw1] at c0 c1
  clear h hw1 hn hk c2
  have c0' : (w.alloc (.cells #[.pointer (some ⟨g, 0, none⟩), .int .i64 (f : Int), .int .i64 (N : Int)] 72)).cell? ⟨w.heap.size, 0, none⟩ = some (.pointer (some ⟨g, 0, none⟩)) := c0
  have c1' : (w.alloc (.cells #[.pointer (some ⟨g, 0, none⟩), .int .i64 (f : Int), .int .i64 (N : Int)] 72)).cell? ⟨w.heap.size, 1, none⟩ = some (.int .i64 (f : Int)) := c1
  have HW' : Hid (w.alloc (.cells #[.pointer (some ⟨g, 0, none⟩), .int .i64 (f : Int), .int .i64 (N : Int)] 72) = w1) := HW.out.symm
  clear c0 c1 HW
  by_cases h0 : n = 0
  · subst h0
    have HL0 : Hid (aheadL s.view f pos = []) := List.eq_nil_of_length_eq_zero HAL.out
    have hmod0 : (pos : Int) % 64 = 0 := hmod
    clear hmod
    go_enter Try.func51, Try.ntmps51
    go_wp2
    go_ret2
    rw [HW'.out]
    exact ⟨HB.out, .inr ⟨fun h => h.2 rfl, none, rfl, fun _ => rfl, .inl HL0.out, HAL.out⟩⟩
  have hn0 : ¬ (n : Int) = 0 := by omega
  have hn0' : ((n : Int) == 0) = false := by rw [beq_eq_false_iff_ne]; exact hn0
  have HN0 := Lib.hid h0
  clear h0
  have HRD := Lib.hid (read_any w1 g F s ((f + k : Nat) : Int) H.out)
  rw [show ((f + k : Nat) : Int) = (f : Int) + (k : Int) by omega] at HRD
  by_cases ho : s.off = true
  · have HO := Lib.hid ho
    clear ho
    go_enter Try.func51, Try.ntmps51
    go_wp2_with fail
    rw [HW'.out]
    refine HRD.out.mono ?_
    rintro e w2 ⟨hb2, ⟨hx, _⟩ | ⟨_, _, rfl⟩ | ⟨_, hx, _⟩⟩
    · exact absurd ⟨by omega, by omega⟩ hx
    · have B2 := Lib.hid (hop HB.out hb2)
      clear hb2 HRD
      go_wp2
      go_ret2
      exact ⟨B2.out, .inl ⟨HO.out, HN0.out, rfl⟩⟩
    · rw [HO.out] at hx; cases hx
  · have HO := Lib.hid ho
    clear ho
    have hcut := fun A => cut_cap A 64 64 n (by omega)
    go_enter Try.func51, Try.ntmps51
    go_wp2_with fail
    rw [HW'.out]
    refine HRD.out.mono ?_
    rintro e w2 ⟨hb2, ⟨hx, _⟩ | ⟨_, hx, _⟩ | ⟨_, _, x, gb, hx, _, hk2, rfl⟩⟩
    · exact absurd ⟨by omega, by omega⟩ hx
    · exact absurd hx HO.out
    · have B2 := Lib.hid (hop HB.out hb2)
      have e1 : ((f : Int) + (k : Int)).toNat = f + k := by omega
      rw [e1] at hx
      have hv := last_view OK.out hx
      have HA : Hid (aheadL s.view f pos = x.take n) := by
        show aheadL s.view f pos = x.take n
        unfold aheadL
        rw [HD.out, HM.out, List.getD_eq_getElem?_getD, hv]; rfl
      have HS : Hid (Seen w2 (some ⟨gb, 0, none⟩) (x.take n)) := by
        have : w2.rangeAt gb 0 (x.map bv) := fun j v hv => by
          obtain ⟨hj, hju⟩ := List.getElem?_eq_some_iff.1 hv
          rw [Nat.zero_add, hk2.cell hj, hju]
        exact (range_seen this).take n
      clear hb2 HRD hx hv hk2 e1
      go_wp2
      go_ret2
      exact ⟨B2.out, .inr ⟨fun h => HO.out h.1, _, rfl, (fun h => by cases h), by rw [HA.out]; exact HS.out, HAL.out⟩⟩

set_option maxRecDepth 100000 in
set_option maxHeartbeats 1000000 in
theorem area_filled (w W0 : World) (g : Nat) (f : Nat) (N first : Nat) (a : List UInt8) (A : Option Addr) (n c : Nat) (hm : MadeN 5 W0 a A n c w) (h1 : first < N) (hN : N ≤ 4096) (hfit : n ≤ (N - first) * 64) :
    Calls Try.prog 52 #[.agg #[.pointer (some ⟨g, 0, none⟩), .int .i64 (f : Int), .int .i64 (N : Int)], .int .i64 (first : Int), .slice A n c] w fun e w' => ∃ A' n' c', e = .returned (.slice A' n' c') ∧ MadeN 5 W0 (filledL a (N - first)) A' n' c' w' := by
  obtain ⟨i0, hi, hz0, hz1, hz2⟩ := info_parts info8p
  have HB := Lib.hid (boxA_below w g f N)
  have HM1 := Lib.hid (hm.2.below HB.out)
  have HL := Lib.hid hm.1
  obtain ⟨k, hk⟩ : ∃ k, k = min (n / 64 + 1) (N - first) := ⟨_, rfl⟩
  obtain ⟨z, hz⟩ : ∃ z, z = k * 64 - n := ⟨_, rfl⟩
  have HF : Hid (filledL a (N - first) = a ++ List.replicate z 0) := by
    show filledL a (N - first) = _
    unfold filledL
    rw [hm.1, hz, hk]
  have hk4 : k ≤ 4096 := by omega
  have hn4 : n ≤ 262144 := by omega
  have hz4 : z ≤ 262144 := by omega
  have HB4 : Hid (a.length + z ≤ 140737488355328) := by show _ ≤ _; rw [hm.1]; omega
  by_cases hlt : (N : Int) - (first : Int) < (n : Int) / 64 + 1
  · have hzz : ((N : Int) - (first : Int)) * 64 - (n : Int) = (z : Int) := by omega
    clear hm hk hz hfit h1
    go_enter Try.func52, Try.ntmps52
    go_wp2_with (at_builtin; refine wpList_append_zeros _ rfl (.tmp 17) (.tmp 22) 22 3 rfl 5 i0 Try.underlying22 Try.underlying3 hi hz0 hz1 hz2 W0 (.slice A n c) a z rfl (by simp [Act.eval]) HM1.out HB4.out ?_); intro v' w' hm'
    have HM' := Lib.hid hm'
    clear hm'
    go_wp2
    go_ret
    obtain ⟨A', n', c', rfl, hm'⟩ := HM'.out.named
    exact ⟨A', n', c', rfl, by rw [HF.out]; exact hm'⟩
  · have hzz : ((n : Int) / 64 + 1) * 64 - (n : Int) = (z : Int) := by omega
    clear hm hk hz hfit h1
    go_enter Try.func52, Try.ntmps52
    go_wp2_with (at_builtin; refine wpList_append_zeros _ rfl (.tmp 17) (.tmp 22) 22 3 rfl 5 i0 Try.underlying22 Try.underlying3 hi hz0 hz1 hz2 W0 (.slice A n c) a z rfl (by simp [Act.eval]) HM1.out HB4.out ?_); intro v' w' hm'
    have HM' := Lib.hid hm'
    clear hm'
    go_wp2
    go_ret
    obtain ⟨A', n', c', rfl, hm'⟩ := HM'.out.named
    exact ⟨A', n', c', rfl, by rw [HF.out]; exact hm'⟩
end Go.Proofs.Ytkbjhnlihnakkaa
