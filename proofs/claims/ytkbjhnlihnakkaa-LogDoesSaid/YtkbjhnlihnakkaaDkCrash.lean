/-
  Of a disk, Crash. Conditions: as it says.
-/
import Derived.Test.YtkbjhnlihnakkaaDkSync
namespace Go.Proofs.Ytkbjhnlihnakkaa
open Go.RowKit

set_option maxRecDepth 100000 in
set_option maxHeartbeats 400000 in
theorem crash_any (w : World) (g : Nat) (F : Nat → Prop) (s : Dsk) (h : DiskAt w g F s) (B : Option Addr) (l : List Int) (cl : Nat) (hl : IntsAway w F B l) (hb : ∀ x ∈ l, -9223372036854775808 ≤ x ∧ x ≤ 9223372036854775807) (hll : l.length ≤ 9223372036854775807) :
    Calls Try.prog 21 #[.pointer (some ⟨g, 0, none⟩), .slice B l.length cl] w fun e w' => e = .returned (.tuple #[]) ∧ Moved w g F (s.crash (pickOf l)) w' := by
  obtain ⟨gd, v, h⟩ := h
  obtain ⟨A, c, rfl, hc, hcm, hA⟩ := own_form65 h.2.2.1
  have hM : s.M.length ≤ 9223372036854775807 := by unfold maxLen at hcm; omega
  have hK4 := h.2.2.2.2.2.2.2.2.hi
  have z := zero62
  have HZ : Hid ((dcell (0, List.replicate 64 (0 : UInt8))).length = 65) := by show _ = _; rw [dcell_length]; simp
  generalize dcell (0, List.replicate 64 (0 : UInt8)) = Z at z HZ
  obtain ⟨c0, c1, _⟩ := h.cells
  have H := Lib.hid h
  have HI := Lib.hid hl
  have HBD := Lib.hid hb
  clear h hl hb
  go_enter Try.func21, Try.ntmps21
  go_wp2
  go_loopw [13] (fun a wr => ∃ k : Nat, a = .int .i64 k ∧ k ≤ s.M.length ∧ DiskIn wr g gd (.slice A s.M.length c) F { s with K := kept (pickOf l) s.M s.K k } ∧ Spared w wr F) (fun a _ => s.M.length - (intOf a).toNat)
  case atStart => exact ⟨0, rfl, Nat.zero_le _, H.out, .refl _ _⟩
  case round =>
    obtain ⟨k, rfl, hk, hd, hsp⟩ := hrel
    have HD := Lib.hid hd
    have HS := Lib.hid hsp
    clear hd hsp c0 c1
    by_cases hlt : k < s.M.length
    · have hkl : (k : Int) < (s.M.length : Int) := by omega
      obtain ⟨gc, rfl⟩ := hA (by omega)
      clear hA
      have HR := Lib.hid (HD.out.cache k hlt).1
      have hmem := HD.out.2.2.2.2.2.2.2.2.mem _ (List.getElem_mem hlt)
      have hnum := HD.out.2.2.2.2.2.2.2.2.num _ (List.getElem_mem hlt)
      have HK := Lib.hid (kept_step (pick := pickOf l) (K := s.K) hlt)
      generalize hp : s.M[k] = p at *
      have HX : Hid ((dcell p).length = 65) := dcell_length hmem
      have HO := Lib.hid (dcell_one p)
      have HN := Lib.hid (dcell_cells (setRow_heap (wr.alloc (.cells Z.toArray 88)) wr.heap.size _ (dcell p).toArray _ _ (heap_alloc_new wr _)))
      have HB := Lib.hid (below_setRow ((Below.refl wr.heap.size wr).alloc (Nat.le_refl _) (.cells Z.toArray 88)) (Nat.le_refl _) (dcell p).toArray)
      generalize hX : dcell p = X at *
      clear hX hp
      have HB2 := Lib.hid (HD.out.still HB.out)
      have HS2 : Hid (Spared w ((wr.alloc (.cells Z.toArray 88)).setRow wr.heap.size X.toArray) F) := HS.out.trans (.of_below HB.out F) (fun _ h => .inl h)
      have HI2 := Lib.hid (HI.out.moved (G := F) HS2.out (fun _ h => .inl h))
      obtain ⟨w2, hw2⟩ : ∃ w2, w2 = (wr.alloc (.cells Z.toArray 88)).setRow wr.heap.size X.toArray := ⟨_, rfl⟩
      rw [← hw2] at HN HB HB2 HS2 HI2
      have HW2 := Lib.hid hw2
      clear hw2
      by_cases h0 : 0 < l.length
      · have hlp : (0 : Int) < (l.length : Int) := by omega
        have hj : k % l.length < l.length := Nat.mod_lt _ h0
        obtain ⟨bb, off, rfl, hcc⟩ := HI2.out.at_ (k % l.length) hj
        have hbd := HBD.out _ (List.getElem_mem hj)
        have hpk : pickOf l k = decide (l[k % l.length].tmod 2 ≠ 0) := by
          unfold pickOf
          rw [List.getD_eq_getElem?_getD, List.getElem?_eq_getElem hj]
          simp [h0]
        generalize l[k % l.length] = y at *
        have e1 : Int.tmod (k : Int) (l.length : Int) = ((k % l.length : Nat) : Int) := by rw [Int.tmod_eq_emod_of_nonneg (by omega)]; rfl
        generalize k % l.length = m at *
        rw [HW2.out] at hcc
        go_wp2_with (first
          | (refine wpList_load_mid rfl 88 (.tmp 16) rfl gc (k * 65) rfl X _ HR.out Try.underlying88 rfl (by rw [info62, HX.out]) ?_)
          | (refine wpList_store_row rfl 88 (.tmp 5) (.tmp 17) rfl wr.heap.size X.toArray rfl rfl 88 _ (heap_alloc_new wr _) (by rw [info62]; simp [HX.out]) (by simp [HX.out, HZ.out]) HO.out ?_))
        · rename_i hy
          have hpk' : pickOf l k = true := by rw [hpk]; simpa using hy
          rw [← HW2.out]
          obtain ⟨d0, _⟩ := HB2.out.cells
          obtain ⟨n0, n1⟩ := HN.out
          rw [kept_length] at d0
          have N1 := Lib.hid n1
          have HNUM := Lib.hid hnum
          clear n1 hcc hpk hnum
          have hpl : ((p.1 : Nat) : Int) < (s.K.length : Int) := by have := HNUM.out; rw [kept_length] at this; omega
          go_still_tail 9, (by kernel_rfl)
          refine wpStill_load_mid rfl 70 (.tmp 38) rfl wr.heap.size 1 rfl (p.2.map bv) _ (fun j v hv => N1.out j v hv) Try.underlying70 rfl (by rw [info59, List.length_map, hmem]) ?_
          repeat still_step
          refine wpStill_nil ?_
          have HT := Lib.hid (HB2.out.durable p.1 HNUM.out).2
          refine wpList_store_mid rfl 70 (.tmp 40) (.tmp 39) rfl gd (p.1 * 64) (p.2.map bv).toArray rfl rfl (by rw [List.size_toArray, List.length_map, hmem]; exact HT.out) (by rw [info59, List.size_toArray, List.length_map, hmem]) (map_bv_one _) ?_
          have HF := Lib.hid ((HB2.out.still (Below.refl _ _).drew).store p.1 HNUM.out p.2 hmem)
          have HSF : Hid (Spared w (w2.drew.setCells gd (p.1 * 64) (p.2.map bv)) F) := Spared.setCells HB2.out.2.2.2.2.1 _ _ _ HS2.out.drew
          change wpList _ _ _ _ _ (w2.drew.setCells gd (p.1 * 64) (p.2.map bv))
          generalize w2.drew.setCells gd (p.1 * 64) (p.2.map bv) = w3 at *
          go_wp2
          go_roundw
          case rel => exact ⟨k + 1, by go_num, by omega, by rw [HK.out, if_pos hpk']; exact HF.out, HSF.out⟩
          case measure => simp [intOf]; omega
        · rename_i hy
          have hpk' : pickOf l k = false := by rw [hpk]; simpa using hy
          rw [← HW2.out]
          go_roundw
          case rel => exact ⟨k + 1, by go_num, by omega, by rw [HK.out, if_neg (by rw [hpk']; decide)]; exact HB2.out, HS2.out⟩
          case measure => simp [intOf]; omega
      · have hl0 : l.length = 0 := by omega
        have hpk' : pickOf l k = false := by simp [pickOf, h0]
        rw [hl0]
        clear hll h0
        go_wp2_with (first
          | (refine wpList_load_mid rfl 88 (.tmp 16) rfl gc (k * 65) rfl X _ HR.out Try.underlying88 rfl (by rw [info62, HX.out]) ?_)
          | (refine wpList_store_row rfl 88 (.tmp 5) (.tmp 17) rfl wr.heap.size X.toArray rfl rfl 88 _ (heap_alloc_new wr _) (by rw [info62]; simp [HX.out]) (by simp [HX.out, HZ.out]) HO.out ?_))
        rw [← HW2.out]
        go_roundw
        case rel => exact ⟨k + 1, by go_num, by omega, by rw [HK.out, if_neg (by rw [hpk']; decide)]; exact HB2.out, HS2.out⟩
        case measure => simp [intOf]; omega
    · obtain rfl : k = s.M.length := by omega
      obtain ⟨_, d1, d2, d3, _⟩ := HD.out.cells
      have f1 := HD.out.free 1
      have f2 := HD.out.free 2
      have f3 := HD.out.free 3
      have HP := Lib.hid (((HD.out.put 1 (.slice none 0 0) (s' := { s with K := kept (pickOf l) s.M s.K s.M.length, M := [] }) (v' := .slice none 0 0) rfl rfl (.inr ⟨rfl, rfl⟩)).put 2 (.bool false) (s' := { s with K := kept (pickOf l) s.M s.K s.M.length, M := [], off := false }) (v' := .slice none 0 0) rfl rfl (.inl ⟨rfl, rfl⟩)).put 3 (.int .i64 0) (s' := s.crash (pickOf l)) (v' := .slice none 0 0) rfl rfl (.inl ⟨rfl, rfl⟩))
      have HSP := Lib.hid (((HS.out.setCell (HD.out.2.2.2.1) 1 (.slice none 0 0)).setCell (HD.out.2.2.2.1) 2 (.bool false)).setCell (HD.out.2.2.2.1) 3 (.int .i64 0))
      clear hA
      go_wp2
      go_end0
      exact ⟨rfl, F, ⟨_, _, HP.out⟩, HSP.out, fun _ h => .inl h⟩
end Go.Proofs.Ytkbjhnlihnakkaa
