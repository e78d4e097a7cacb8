/-
  Of the document's disk, Crash. Conditions: as it says.
-/
import Derived.Test.YtkbjhnlihnakkaaRfSync
namespace Go.Proofs.Ytkbjhnlihnakkaa
open Go.RowKit

theorem kept_none {pick : Nat → Bool} (h : ∀ k, pick k = false) (M : List (Nat × List UInt8)) (K : List (List UInt8)) : ∀ n, kept pick M K n = K
  | 0 => rfl
  | n + 1 => by
    have ih := kept_none h M K n
    simp only [kept, h n]
    split
    · exact ih
    · exact ih

set_option maxRecDepth 100000 in
set_option maxHeartbeats 1000000 in
theorem refCrash_any (w : World) (r : Nat) (G : Nat → Prop) (s : Dsk) (h : RefAt w r G s) (B : Option Addr) (l : List Int) (cl : Nat) (hl : IntsAway w G B l) (hb : ∀ x ∈ l, -9223372036854775808 ≤ x ∧ x ≤ 9223372036854775807) (hll : l.length ≤ 9223372036854775807) :
    Calls Try.prog 22 #[.pointer (some ⟨r, 0, none⟩), .slice B l.length cl] w fun e w' => e = .returned (.tuple #[]) ∧ RMoved w r G (s.crash (pickOf l)) w' := by
  obtain ⟨vK, vM, PK, PM, armed, left, h⟩ := h
  obtain ⟨⟨A, c, rfl, hcm⟩, ⟨A', c', rfl, hcm'⟩⟩ := h.forms
  have hM : s.M.length ≤ 9223372036854775807 := by unfold maxLen at hcm'; omega
  have hK4 := h.hi
  have HPM := Lib.hid h.len.2.2.2
  have H := Lib.hid h
  have HI := Lib.hid hl
  have HBD := Lib.hid hb
  clear h hcm hcm' hl hb
  go_enter Try.func22, Try.ntmps22
  go_wp2
  go_loopw [4] (fun a wr => ∃ k : Nat, a = .int .i64 k ∧ k ≤ s.M.length ∧ (∃ PKk, RefIn wr r (.slice A s.K.length c) (.slice A' s.M.length c') PKk PM armed left G { s with K := kept (pickOf l) s.M s.K k }) ∧ Spared w wr G) (fun a _ => s.M.length - (intOf a).toNat)
  case atStart => exact ⟨0, rfl, Nat.zero_le _, ⟨PK, H.out⟩, .refl _ _⟩
  case round =>
    obtain ⟨k, rfl, hk, ⟨PKk, hr⟩, hsp⟩ := hrel
    have HR := Lib.hid hr
    have HS := Lib.hid hsp
    clear hr hsp
    obtain ⟨c0, c1, _⟩ := HR.out.cells
    by_cases hlt : k < s.M.length
    · have hkl : (k : Int) < (s.M.length : Int) := by omega
      by_cases h0 : 0 < l.length
      · have hlp : (0 : Int) < (l.length : Int) := by omega
        have hj : k % l.length < l.length := Nat.mod_lt _ h0
        have HI2 := HI.out.moved (G := G) HS.out (fun _ h => .inl h)
        obtain ⟨bb, off, rfl, hcc⟩ := HI2.at_ (k % l.length) hj
        have hbd := HBD.out _ (List.getElem_mem hj)
        have hpk : pickOf l k = decide (l[k % l.length].tmod 2 ≠ 0) := by
          unfold pickOf
          rw [List.getD_eq_getElem?_getD, List.getElem?_eq_getElem hj]
          simp [h0]
        clear HI2
        generalize l[k % l.length] = y at *
        have e1 : Int.tmod (k : Int) (l.length : Int) = ((k % l.length : Nat) : Int) := by rw [Int.tmod_eq_emod_of_nonneg (by omega)]; rfl
        generalize k % l.length = mm at *
        have HST := Lib.hid (kept_step (pick := pickOf l) (K := s.K) hlt)
        have HPK := Lib.hid hpk
        clear hpk
        by_cases hy : y.tmod 2 = 0
        · have hpk' : pickOf l k = false := by rw [HPK.out]; simpa using hy
          have HK1 : Hid (kept (pickOf l) s.M s.K (k + 1) = kept (pickOf l) s.M s.K k) := by show _ = _; rw [HST.out, if_neg (by rw [hpk']; decide)]
          clear hpk' HPK HST
          go_wp2
          go_roundw
          case rel => exact ⟨k + 1, by go_num, by omega, ⟨PKk, by rw [HK1.out]; exact HR.out⟩, HS.out⟩
          case measure => simp [intOf]; omega
        · have hpk' : pickOf l k = true := by rw [HPK.out]; simpa using hy
          have hkP : k < PM.length := by rw [HPM.out]; exact hlt
          obtain ⟨mb, cm, hv, d0, d1⟩ := HR.out.mcell k hkP
          injection hv with hv _ _
          subst hv
          have hq := HR.out.pM _ (List.getElem_mem hkP)
          have he : s.M[k] = (PM[k].1, PM[k].2.2.1) := by have := H.out.eqM; simp only [← this, List.getElem_map]
          have hnum : PM[k].1 < s.K.length := by have := H.out.num _ (List.getElem_mem hlt); rw [he] at this; exact this
          have hnP : PM[k].1 < PKk.length := by rw [HR.out.len.2.2.1]; show _ < (kept _ _ _ _).length; rw [kept_length]; exact hnum
          obtain ⟨kb, ck, hv, e0, e2⟩ := HR.out.kcell PM[k].1 hnP
          have hv' := hv
          injection hv with hv _ _
          subst hv
          obtain ⟨hsw, _⟩ := HR.out.swap PM[k].1 hnP PM[k].2 hq kb ck hv'
          have hspw := HS.out.setCell (g := kb) (HR.out.gK kb rfl).1 PM[k].1 (pv PM[k].2)
          rw [pv_slice _ hq.1] at d1 hsw hspw
          have HSW := Lib.hid hsw
          have HSPW := Lib.hid hspw
          have HSTE : Hid ((kept (pickOf l) s.M s.K k).set PM[k].1 PM[k].2.2.1 = kept (pickOf l) s.M s.K (k + 1)) := by show _ = _; rw [HST.out, if_pos hpk', he]
          generalize pv PKk[PM[k].1] = oldv at e0
          have hml : (PM[k].1 : Int) < (PKk.length : Int) := by omega
          clear he hq hsw hspw hv' hnP HPK HST hpk'
          generalize PM[k] = pq at *
          clear hkP
          obtain ⟨m, aq, xq, cq⟩ := pq
          go_wp2
          go_still_tail 21, (by kernel_rfl)
          change wpList _ _ _ _ _ wr.drew
          go_wp2
          go_roundw
          case rel => exact ⟨k + 1, by go_num, by omega, ⟨_, by rw [← HSTE.out]; exact HSW.out.still (Below.refl _ _).drew⟩, HSPW.out.drew⟩
          case measure => simp [intOf]; omega
      · have hl0 : l.length = 0 := by omega
        have hnone : ∀ k, pickOf l k = false := fun k => by simp [pickOf, h0]
        have HKE : Hid (kept (pickOf l) s.M s.K k = kept (pickOf l) s.M s.K s.M.length) := by show _ = _; rw [kept_none hnone, kept_none hnone]
        rw [hl0]
        clear hll h0 hnone
        have f1 := HR.out.blk.free 1
        have f2 := HR.out.blk.free 2
        have f3 := HR.out.blk.free 3
        obtain ⟨_, _, c2, c3, _⟩ := HR.out.cells
        have hbk := ((HR.out.blk.set 1 (.slice none 0 0)).set 2 (.bool false)).set 3 (.bool false)
        have HP := Lib.hid (HR.out.recell (s' := s.crash (pickOf l)) (armed' := false) (left' := left) (vM' := .slice none 0 0) (PM' := []) hbk (((spare1 wr r 1 _).setCell rfl 2 _).setCell rfl 3 _) HKE.out.symm (.inr ⟨rfl, rfl, rfl⟩) (fun _ => ⟨rfl, fun h => absurd h (by show ¬ 0 < 0; decide)⟩))
        have HSP := Lib.hid (((HS.out.setCell HR.out.gr 1 (.slice none 0 0)).setCell HR.out.gr 2 (.bool false)).setCell HR.out.gr 3 (.bool false))
        clear hbk
        go_wp2
        go_end0
        exact ⟨rfl, G, ⟨_, _, _, _, _, _, HP.out⟩, HSP.out, fun _ h => .inl h⟩
    · obtain rfl : k = s.M.length := by omega
      have HKE : Hid (kept (pickOf l) s.M s.K s.M.length = kept (pickOf l) s.M s.K s.M.length) := rfl
      have f1 := HR.out.blk.free 1
      have f2 := HR.out.blk.free 2
      have f3 := HR.out.blk.free 3
      obtain ⟨_, _, c2, c3, _⟩ := HR.out.cells
      have hbk := ((HR.out.blk.set 1 (.slice none 0 0)).set 2 (.bool false)).set 3 (.bool false)
      have HP := Lib.hid (HR.out.recell (s' := s.crash (pickOf l)) (armed' := false) (left' := left) (vM' := .slice none 0 0) (PM' := []) hbk (((spare1 wr r 1 _).setCell rfl 2 _).setCell rfl 3 _) HKE.out.symm (.inr ⟨rfl, rfl, rfl⟩) (fun _ => ⟨rfl, fun h => absurd h (by show ¬ 0 < 0; decide)⟩))
      have HSP := Lib.hid (((HS.out.setCell HR.out.gr 1 (.slice none 0 0)).setCell HR.out.gr 2 (.bool false)).setCell HR.out.gr 3 (.bool false))
      clear hbk
      go_wp2
      go_end0
      exact ⟨rfl, G, ⟨_, _, _, _, _, _, HP.out⟩, HSP.out, fun _ h => .inl h⟩
end Go.Proofs.Ytkbjhnlihnakkaa
