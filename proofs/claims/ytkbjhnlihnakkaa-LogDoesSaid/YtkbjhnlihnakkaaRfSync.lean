/-
  Of the document's disk, Sync and Crash. Conditions: as each says.
-/
import Derived.Test.YtkbjhnlihnakkaaRfSmall
import Derived.StillTailTactics
namespace Go.Proofs.Ytkbjhnlihnakkaa
open Go.RowKit

set_option maxRecDepth 100000 in
set_option maxHeartbeats 1000000 in
theorem refSync_any (w : World) (r : Nat) (G : Nat → Prop) (s : Dsk) (h : RefAt w r G s) (hcl : s.calls + 1 < 9223372036854775808) (hlf : s.left < 9223372036854775808) (hon : s.off = false) :
    Calls Try.prog 72 #[.pointer (some ⟨r, 0, none⟩)] w fun e w' => e = .returned (.int .i64 0) ∧ RMoved w r G s.sync w' := by
  obtain ⟨vK, vM, PK, PM, armed, left, h⟩ := h
  obtain ⟨⟨A, c, rfl, hcm⟩, ⟨A', c', rfl, hcm'⟩⟩ := h.forms
  have hM : s.M.length ≤ 9223372036854775807 := by unfold maxLen at hcm'; omega
  have hK4 := h.hi
  have HPM := Lib.hid h.len.2.2.2
  obtain ⟨c0, c1, c2, _⟩ := h.cells
  rw [hon] at c2
  have HON := Lib.hid hon
  have H := Lib.hid h
  clear h hcm hcm' hon
  go_enter Try.func72, Try.ntmps72
  go_wp2
  go_loopw [3] (fun a wr => ∃ k : Nat, a = .int .i64 k ∧ k ≤ s.M.length ∧ (∃ PKk, RefIn wr r (.slice A s.K.length c) (.slice A' s.M.length c') PKk PM armed left G { s with K := kept (fun _ => true) s.M s.K k }) ∧ Spared w wr G) (fun a _ => s.M.length - (intOf a).toNat)
  case atStart => exact ⟨0, rfl, Nat.zero_le _, ⟨PK, H.out⟩, .refl _ _⟩
  case round =>
    obtain ⟨k, rfl, hk, ⟨PKk, hr⟩, hsp⟩ := hrel
    have HR := Lib.hid hr
    have HS := Lib.hid hsp
    clear hr hsp c0 c1 c2
    obtain ⟨c0, c1, _⟩ := HR.out.cells
    by_cases hlt : k < s.M.length
    · have hkl : (k : Int) < (s.M.length : Int) := by omega
      have hkP : k < PM.length := by rw [HPM.out]; exact hlt
      obtain ⟨mb, cm, hv, d0, d1⟩ := HR.out.mcell k hkP
      injection hv with hv _ _
      subst hv
      have hq := HR.out.pM _ (List.getElem_mem hkP)
      have he : s.M[k] = (PM[k].1, PM[k].2.2.1) := by have := H.out.eqM; simp only [← this, List.getElem_map]
      have hnum : PM[k].1 < s.K.length := by have := H.out.num _ (List.getElem_mem hlt); rw [he] at this; exact this
      have HST := Lib.hid (kept_step (pick := fun _ => true) (K := s.K) hlt)
      have HE := Lib.hid he
      have hnP : PM[k].1 < PKk.length := by rw [HR.out.len.2.2.1]; show _ < (kept _ _ _ _).length; rw [kept_length]; exact hnum
      obtain ⟨kb, ck, hv, e0, e1⟩ := HR.out.kcell PM[k].1 hnP
      have hv' := hv
      injection hv with hv _ _
      subst hv
      obtain ⟨hsw, _⟩ := HR.out.swap PM[k].1 hnP PM[k].2 hq kb ck hv'
      have hspw := HS.out.setCell (g := kb) (HR.out.gK kb rfl).1 PM[k].1 (pv PM[k].2)
      rw [pv_slice _ hq.1] at d1 hsw hspw
      have HSW := Lib.hid hsw
      have HSPW := Lib.hid hspw
      have HSTE : Hid ((kept (fun _ => true) s.M s.K k).set PM[k].1 PM[k].2.2.1 = kept (fun _ => true) s.M s.K (k + 1)) := by show _ = _; rw [HST.out, HE.out]; rfl
      generalize pv PKk[PM[k].1] = oldv at e0
      have hml : (PM[k].1 : Int) < (PKk.length : Int) := by omega
      clear he hq hsw hspw hv' hnP
      clear HST HE
      generalize PM[k] = pq at *
      clear hkP
      obtain ⟨m, aq, xq, cq⟩ := pq
      go_wp2
      go_still_tail 21, (by kernel_rfl)
      change wpList _ _ _ _ _ wr.drew
      go_wp2
      go_roundw
      case rel => exact ⟨k + 1, by go_num, by omega, ⟨_, by rw [← HSTE.out]; exact HSW.out.still (Below.refl _ _).drew⟩, HSPW.out.drew⟩
      case measure => simp [intOf]; omega
    · obtain rfl : k = s.M.length := by omega
      have f1 := HR.out.blk.free 1
      have hbk := HR.out.blk.set 1 (.slice none 0 0)
      have HP := Lib.hid (HR.out.recell (s' := { s with K := kept (fun _ => true) s.M s.K s.M.length, M := [] }) (armed' := armed) (left' := left) (vM' := .slice none 0 0) (PM' := []) hbk (spare1 wr r 1 _) rfl (.inr ⟨rfl, rfl, rfl⟩) HR.out.arm)
      have HSP := Lib.hid (HS.out.setCell HR.out.gr 1 (.slice none 0 0))
      clear hbk
      go_wp2_with (go_at_call 81; refine (did_any _ r _ _ _ _ _ _ _ _ HP.out HON.out hcl hlf).mono ?_; rintro e w4 ⟨rfl, ⟨a4, l4, h4⟩, hs4⟩)
      go_ret
      exact ⟨rfl, G, ⟨_, _, _, _, _, _, h4⟩, HSP.out.trans hs4 (fun _ h => .inl h), fun _ h => .inl h⟩

theorem refSync_all (w : World) (r : Nat) (G : Nat → Prop) (s : Dsk) (h : RefAt w r G s) (hf : s.Few 1000000) :
    Calls Try.prog 72 #[.pointer (some ⟨r, 0, none⟩)] w fun e w' => e = .returned (.int .i64 (if s.off then 5 else 0)) ∧ RMoved w r G s.sput w' := by
  unfold Dsk.sput
  by_cases ho : s.off = true
  · rw [if_pos ho, if_pos ho]
    have hat := h
    obtain ⟨vK, vM, PK, PM, armed, left, h⟩ := h
    obtain ⟨_, _, c2, _⟩ := h.cells
    rw [ho] at c2
    have HAT := Lib.hid hat
    clear h hat ho hf
    go_enter Try.func72, Try.ntmps72
    go_wp2
    go_ret
    exact ⟨rfl, .still HAT.out (Below.refl _ _)⟩
  · rw [if_neg ho, if_neg ho]
    exact refSync_any w r G s h (by have := hf.1; omega) hf.2.2 (by cases hs : s.off <;> simp_all)
end Go.Proofs.Ytkbjhnlihnakkaa
