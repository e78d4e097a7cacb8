/-
  Of the document's disk: did, Arm, Read, Image. Conditions: as each says.
-/
import Derived.Test.YtkbjhnlihnakkaaRf
namespace Go.Proofs.Ytkbjhnlihnakkaa
open Go.RowKit

theorem spare1 (w : World) (r i : Nat) (u : Value) : Spared w (w.setCell ⟨r, i, none⟩ u) (· = r) := Spared.setCell (F := (· = r)) (.refl w _) rfl i u

theorem did_any (w : World) (r : Nat) (vK vM : Value) (PK : List Piece) (PM : List (Nat × Piece)) (armed : Bool) (left : Int) (G : Nat → Prop) (s : Dsk) (h : RefIn w r vK vM PK PM armed left G s) (hon : s.off = false) (hc : s.calls + 1 < 9223372036854775808) (hl : s.left < 9223372036854775808) :
    Calls Try.prog 81 #[.pointer (some ⟨r, 0, none⟩)] w fun e w' => e = .returned (.tuple #[]) ∧ (∃ armed' left', RefIn w' r vK vM PK PM armed' left' G s.did) ∧ Spared w w' G := by
  obtain ⟨_, _, c2, c3, c4, c5⟩ := h.cells
  have f2 := h.blk.free 2
  have f3 := h.blk.free 3
  have f4 := h.blk.free 4
  have f5 := h.blk.free 5
  have H := Lib.hid h
  have hG := h.gr
  have e1 : (s.calls : Int) + 1 = ((s.calls + 1 : Nat) : Int) := by omega
  have E1 := Lib.hid e1
  obtain ⟨ha, hb⟩ := h.arm hon
  by_cases h0 : 0 < s.left
  · have e2 := hb h0
    rw [e2] at c4
    have e3 : armed = true := by rw [ha]; exact decide_eq_true h0
    rw [e3] at c3
    have hbk := (((h.blk.set 5 (.int .i64 ((s.calls + 1 : Nat) : Int))).set 4 (.int .i64 ((s.left : Int) - 1))).set 2 (.bool (decide ((s.left : Int) - 1 ≤ 0)))).set 3 (.bool (!decide ((s.left : Int) - 1 ≤ 0)))
    have hd : (s.did).off = decide ((s.left : Int) - 1 ≤ 0) := by
      show (if 0 < s.left then decide (s.left = 1) else s.off) = _
      rw [if_pos h0, Bool.eq_iff_iff, decide_eq_true_iff, decide_eq_true_iff]; omega
    have hfin : RefIn _ r vK vM PK PM (!decide ((s.left : Int) - 1 ≤ 0)) ((s.left : Int) - 1) G s.did := h.recell (s' := s.did) (by rw [hd]; exact hbk) (((((spare1 w r 5 _).setCell rfl 4 _).setCell rfl 2 _).setCell rfl 3 _)) rfl (.inl ⟨rfl, rfl, rfl⟩) (fun ho => by
      rw [hd] at ho
      have : ¬ (s.left : Int) - 1 ≤ 0 := of_decide_eq_false ho
      refine ⟨?_, fun _ => by show _ = ((s.left - 1 : Nat) : Int); omega⟩
      rw [ho]
      show true = decide (0 < s.left - 1)
      exact (decide_eq_true (by omega)).symm)
    have HF := Lib.hid hfin
    clear h ha hb e2 e3 hbk hd hfin e1
    go_enter Try.func81, Try.ntmps81
    go_wp2
    go_end0
    rw [E1.out]
    exact ⟨rfl, ⟨_, _, HF.out⟩, ((((Spared.refl w G).setCell hG 5 _).setCell hG 4 _).setCell hG 2 _).setCell hG 3 _⟩
  · have e3 : armed = false := by rw [ha]; exact decide_eq_false h0
    rw [e3] at c3
    have hbk := h.blk.set 5 (.int .i64 ((s.calls + 1 : Nat) : Int))
    have hd : (s.did).off = s.off ∧ s.did.left = s.left := ⟨by simp [Dsk.did, h0], by show s.left - 1 = s.left; omega⟩
    have hfin : RefIn _ r vK vM PK PM armed left G s.did := h.recell (s' := s.did) (by rw [hd.1]; exact hbk) (spare1 w r 5 _) rfl (.inl ⟨rfl, rfl, rfl⟩) (fun ho => by rw [hd.1] at ho; rw [hd.2]; exact h.arm ho)
    have HF := Lib.hid hfin
    clear h ha hb e3 hbk hd hfin e1
    go_enter Try.func81, Try.ntmps81
    go_wp2
    go_end0
    rw [E1.out]
    exact ⟨rfl, ⟨_, _, HF.out⟩, (Spared.refl w G).setCell hG 5 _⟩

theorem refArm_any (w : World) (r : Nat) (G : Nat → Prop) (s : Dsk) (n : Int) (h : RefAt w r G s) :
    Calls Try.prog 20 #[.pointer (some ⟨r, 0, none⟩), .int .i64 n] w fun e w' => e = .returned (.tuple #[]) ∧ RMoved w r G (s.arm n) w' := by
  obtain ⟨vK, vM, PK, PM, armed, left, h⟩ := h
  obtain ⟨_, _, c2, c3, c4, _⟩ := h.cells
  have f2 := h.blk.free 2
  have f3 := h.blk.free 3
  have f4 := h.blk.free 4
  have hG := h.gr
  by_cases hn : n < 1
  · have hbk := (((h.blk.set 3 (.bool true)).set 4 (.int .i64 n)).set 2 (.bool true)).set 3 (.bool false)
    have hoff : (s.arm n).off = true := by
      unfold Dsk.arm
      split
      · rename_i ho; exact ho
      · exact decide_eq_true hn
    have hK : (s.arm n).K = s.K ∧ (s.arm n).M = s.M ∧ (s.arm n).calls = s.calls := by unfold Dsk.arm; split <;> exact ⟨rfl, rfl, rfl⟩
    have HF := Lib.hid (h.recell (s' := s.arm n) (armed' := false) (left' := n) (vM' := vM) (PM' := PM) (by rw [hoff, hK.2.2]; exact hbk) (((((spare1 w r 3 _).setCell rfl 4 _).setCell rfl 2 _).setCell rfl 3 _)) hK.1 (.inl ⟨rfl, rfl, hK.2.1⟩) (fun ho => by rw [hoff] at ho; cases ho))
    clear h hbk hoff hK
    go_enter Try.func20, Try.ntmps20
    go_wp2
    go_end0
    exact ⟨rfl, G, ⟨_, _, _, _, _, _, HF.out⟩, ((((Spared.refl w G).setCell hG 3 _).setCell hG 4 _).setCell hG 2 _).setCell hG 3 _, fun _ h => .inl h⟩
  · have hbk := (h.blk.set 3 (.bool true)).set 4 (.int .i64 n)
    have hoff : (s.arm n).off = s.off := by
      unfold Dsk.arm
      split
      · rfl
      · rename_i ho
        have : s.off = false := by cases hs : s.off <;> simp_all
        rw [this]; exact decide_eq_false hn
    have hK : (s.arm n).K = s.K ∧ (s.arm n).M = s.M ∧ (s.arm n).calls = s.calls := by unfold Dsk.arm; split <;> exact ⟨rfl, rfl, rfl⟩
    have HF := Lib.hid (h.recell (s' := s.arm n) (armed' := true) (left' := n) (vM' := vM) (PM' := PM) (by rw [hoff, hK.2.2]; exact hbk) ((spare1 w r 3 _).setCell rfl 4 _) hK.1 (.inl ⟨rfl, rfl, hK.2.1⟩) (fun ho => by
      rw [hoff] at ho
      have e : (s.arm n).left = n.toNat := by unfold Dsk.arm; rw [if_neg (by rw [ho]; decide)]
      rw [e]
      exact ⟨(decide_eq_true (by omega)).symm, fun _ => by omega⟩))
    clear h hbk hoff hK
    go_enter Try.func20, Try.ntmps20
    go_wp2
    go_end0
    exact ⟨rfl, G, ⟨_, _, _, _, _, _, HF.out⟩, ((Spared.refl w G).setCell hG 3 _).setCell hG 4 _, fun _ h => .inl h⟩

theorem pv_slice (q : Piece) (h : q.2.1.length = 64) : pv q = .slice q.1 64 q.2.2 := by unfold pv; rw [h]

set_option maxRecDepth 100000 in
set_option maxHeartbeats 400000 in
theorem refImage_any (w : World) (r : Nat) (G : Nat → Prop) (s : Dsk) (h : RefAt w r G s) :
    Calls Try.prog 26 #[.pointer (some ⟨r, 0, none⟩)] w fun e w' => ∃ v, e = .returned v ∧ Made 5 w s.K.flatten v w' := by
  obtain ⟨vK, vM, PK, PM, armed, left, h⟩ := h
  have hK4 := h.hi
  have HPL := Lib.hid h.len.2.2.1
  have HL := Lib.hid h.ok.len
  obtain ⟨i0, hi, hz0, hz1, hz2⟩ := info_parts info8d
  obtain ⟨⟨A, c, rfl, _⟩, _⟩ := h.forms
  have H := Lib.hid h
  clear h
  go_enter Try.func26, Try.ntmps26
  go_wp2
  go_loopw [3, 4] (fun v a wr => ∃ k : Nat, k ≤ s.K.length ∧ a = .int .i64 k ∧ Made 5 w (s.K.take k).flatten v wr) (fun _ a _ => s.K.length - (intOf a).toNat)
  case atStart => exact ⟨0, Nat.zero_le _, rfl, Made.nil _ _⟩
  case round =>
    obtain ⟨k, hk, rfl, hm⟩ := hrel
    have HV := Lib.hid hm
    have H1 := Lib.hid (H.out.still hm.2)
    clear hm
    obtain ⟨c0, _⟩ := H1.out.cells
    by_cases hlt : k < s.K.length
    · have hkl : (k : Int) < (s.K.length : Int) := by omega
      obtain ⟨kb, c', hv, ck, _⟩ := H1.out.kcell k (by rw [HPL.out]; exact hlt)
      injection hv with hv _ _
      subst hv
      have hkP : k < PK.length := by rw [HPL.out]; exact hlt
      have hq := H1.out.pK _ (List.getElem_mem hkP)
      have hqs := hq.seen
      have hqe : PK[k].2.1 = s.K[k] := by have := H1.out.eqK; simp only [← this, List.getElem_map]
      rw [pv_slice _ hq.1] at ck
      rw [hqe] at hqs
      have h64 : s.K[k].length = 64 := HL.out _ (List.getElem_mem hlt)
      have ht := take_flat hlt
      have hfl := take_flat_length HL.out k hk
      generalize s.K[k] = p at *
      generalize hd1 : (s.K.take k).flatten = d at *
      generalize PK[k].2.2 = cq at ck
      generalize PK[k].1 = Aq at ck hqs
      have HS := Lib.hid hqs
      have HT := Lib.hid ht
      have H64 := Lib.hid h64
      have HFL := Lib.hid hfl
      clear ht h64 hfl hd1 hq hqs hqe hkP
      go_wp2_with (refine wpList_append_bytes _ rfl (.tmp 14) (.tmp 21) 22 rfl 5 i0 (.int .u8 0) Try.underlying22 hi hz0 hz1 hz2 rfl w _ d _ p cq rfl (by rw [H64.out]; rfl) HV.out HS.out (by rw [HFL.out, H64.out]; omega) ?_; intro v' w' hm' hb')
      have HM' := Lib.hid hm'
      clear hm' hb'
      go_roundw
      case rel => exact ⟨k + 1, by omega, by go_num, by rw [← HT.out]; exact HM'.out⟩
      case measure => simp [intOf]; omega
    · obtain rfl : k = s.K.length := by omega
      rw [List.take_length] at HV
      go_wp2
      go_ret
      exact ⟨_, rfl, HV.out⟩
end Go.Proofs.Ytkbjhnlihnakkaa
