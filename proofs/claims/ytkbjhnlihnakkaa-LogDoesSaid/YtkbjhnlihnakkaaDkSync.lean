/-
  Of a disk, Sync and Crash. Conditions: as each says.
-/
import Derived.Test.YtkbjhnlihnakkaaDkLatest
import Derived.StillTailTactics
namespace Go.Proofs.Ytkbjhnlihnakkaa
open Go.RowKit

/-- in a region that only reads up to its last operations: a row out of the midst of a block -/
theorem wpStill_load_mid {P : Program} {ops : Array Oper} {w : World} {Q : Act → Prop} {rest : List Oper} {op : Oper} {a : Act} (hgd : op.guard = none) (ty : TypeId) (x : Operand) (ho : op.op = .load ty x)
    (b o : Nat) (hx : a.eval x = .pointer (some ⟨b, o, none⟩)) (cs : List Value) (d : TypeDesc) (hc : w.rangeAt b o cs)
    (hu : P.underlying ty = some d) (hd : d.isRow = true) (hi : (P.info? ty).map (·.size) = some cs.length)
    (h : wpStill P ops w Q rest (a.put op.dst (.agg cs.toArray))) : wpStill P ops w Q (op :: rest) a := by
  have hw : Region.wanted op (yielded ops a.tmps) = true := by simp [Region.wanted, hgd]
  unfold wpStill
  rw [if_pos hw]
  unfold Oper.still execOp
  simp only [ho, hx, Instr.loadAt, Instr.sureAddr, Sem.run_bind, Sem.run_pure, Result.andThen_ok, run_loadVar_mid w b o ty cs d hc hu hd hi, Oper.stillUpon_value]
  exact h

theorem zero62 (w : World) : (zeroValue 88).run Try.prog w = .ok (.agg (dcell (0, List.replicate 64 (0 : UInt8))).toArray) w := by kernel_rfl
theorem dcell_one (p : Nat × List UInt8) : (dcell p).toArray.all (·.oneCell') = true := all_oneCell_toArray fun v hv => by
  rcases List.mem_cons.1 hv with rfl | h
  · rfl
  · exact bytes_one _ v h
theorem dcell_length {p : Nat × List UInt8} (h : p.2.length = 64) : (dcell p).length = 65 := by simp [dcell, h]
/-- an element of the cache, laid into a block of its own -/
theorem dcell_cells {w : World} {b : Nat} {p : Nat × List UInt8} {t : TypeId} (h : Blk w b (dcell p) t) : w.cell? ⟨b, 0, none⟩ = some (.int .i64 (p.1 : Int)) ∧ w.rangeAt b 1 (p.2.map bv) := by
  refine ⟨h.cell (i := 0) (by simp [dcell]), fun j v hv => ?_⟩
  obtain ⟨hj, hju⟩ := List.getElem?_eq_some_iff.1 hv
  rw [h.cell (by simp [dcell]; simp at hj; omega), ← hju]
  simp only [dcell, Nat.add_comm 1 j, List.getElem_cons_succ]

set_option maxRecDepth 100000 in
set_option maxHeartbeats 400000 in
theorem sync_any (w : World) (g : Nat) (F : Nat → Prop) (s : Dsk) (h : DiskAt w g F s) (hcl : s.calls + 1 < 9223372036854775808) (hlf : s.left < 9223372036854775808) (hon : s.off = false) :
    Calls Try.prog 68 #[.pointer (some ⟨g, 0, none⟩)] w fun e w' => e = .returned (.int .i64 0) ∧ Moved w g F s.sync w' := by
  have hat := Lib.hid h
  obtain ⟨gd, v, h⟩ := h
  obtain ⟨A, c, rfl, hc, hcm, hA⟩ := own_form65 h.2.2.1
  have hM : s.M.length ≤ 9223372036854775807 := by unfold maxLen at hcm; omega
  have ho : (!s.off) = true := by rw [hon]; rfl
  have hK4 := h.2.2.2.2.2.2.2.2.hi
  have z := zero62
  have HZ : Hid ((dcell (0, List.replicate 64 (0 : UInt8))).length = 65) := by show _ = _; rw [dcell_length]; simp
  generalize dcell (0, List.replicate 64 (0 : UInt8)) = Z at z HZ
  obtain ⟨c0, c1, _⟩ := h.cells
  have H := Lib.hid h
  clear h hon
  go_enter Try.func68, Try.ntmps68
  go_wp2_with (go_at_call 43; refine (on_any hat.out).mono ?_; rintro e w' ⟨rfl, hw'⟩; obtain rfl := hw'.symm; rw [ho])
  go_loopw [13] (fun a wr => ∃ k : Nat, a = .int .i64 k ∧ k ≤ s.M.length ∧ DiskIn wr g gd (.slice A s.M.length c) F { s with K := kept (fun _ => true) s.M s.K k } ∧ Spared w wr F) (fun a _ => s.M.length - (intOf a).toNat)
  case atStart => exact ⟨0, rfl, Nat.zero_le _, H.out, .refl _ _⟩
  case round =>
    obtain ⟨k, rfl, hk, hd, hsp⟩ := hrel
    have HD := Lib.hid hd
    have HS := Lib.hid hsp
    clear hd hsp c0 c1
    by_cases hlt : k < s.M.length
    · have hkl : (k : Int) < (s.M.length : Int) := by omega
      obtain ⟨gc, rfl⟩ := hA (by omega)
      clear hA
      have HR := Lib.hid (HD.out.cache k hlt).1
      have hmem := HD.out.2.2.2.2.2.2.2.2.mem _ (List.getElem_mem hlt)
      have hnum := HD.out.2.2.2.2.2.2.2.2.num _ (List.getElem_mem hlt)
      have HK := Lib.hid (kept_step (pick := fun _ => true) (K := s.K) hlt)
      generalize hp : s.M[k] = p at *
      have HX : Hid ((dcell p).length = 65) := dcell_length hmem
      have HO := Lib.hid (dcell_one p)
      have HN := Lib.hid (dcell_cells (setRow_heap (wr.alloc (.cells Z.toArray 88)) wr.heap.size _ (dcell p).toArray _ _ (heap_alloc_new wr _)))
      have HB := Lib.hid (below_setRow ((Below.refl wr.heap.size wr).alloc (Nat.le_refl _) (.cells Z.toArray 88)) (Nat.le_refl _) (dcell p).toArray)
      generalize hX : dcell p = X at *
      clear hX hp
      go_wp2_with (first
        | (refine wpList_load_mid rfl 88 (.tmp 15) rfl gc (k * 65) rfl X _ HR.out Try.underlying88 rfl (by rw [info62, HX.out]) ?_)
        | (refine wpList_store_row rfl 88 (.tmp 4) (.tmp 16) rfl wr.heap.size X.toArray rfl rfl 88 _ (heap_alloc_new wr _) (by rw [info62]; simp [HX.out]) (by simp [HX.out, HZ.out]) HO.out ?_))
      have HB2 := Lib.hid (HD.out.still HB.out)
      have HS2 : Hid (Spared w ((wr.alloc (.cells Z.toArray 88)).setRow wr.heap.size X.toArray) F) := HS.out.trans (.of_below HB.out F) (fun _ h => .inl h)
      generalize (wr.alloc (.cells Z.toArray 88)).setRow wr.heap.size X.toArray = w2 at *
      obtain ⟨d0, _⟩ := HB2.out.cells
      obtain ⟨n0, n1⟩ := HN.out
      rw [kept_length] at d0
      have N1 := Lib.hid n1
      clear n1
      have hpl : ((p.1 : Nat) : Int) < (s.K.length : Int) := by have := hnum; rw [kept_length] at this; omega
      go_still_tail 9, (by kernel_rfl)
      refine wpStill_load_mid rfl 70 (.tmp 23) rfl wr.heap.size 1 rfl (p.2.map bv) _ (fun j v hv => N1.out j v hv) Try.underlying70 rfl (by rw [info59, List.length_map, hmem]) ?_
      repeat still_step
      refine wpStill_nil ?_
      have hnum' : p.1 < (kept (fun _ => true) s.M s.K k).length := hnum
      have HT := Lib.hid (HB2.out.durable p.1 hnum').2
      refine wpList_store_mid rfl 70 (.tmp 25) (.tmp 24) rfl gd (p.1 * 64) (p.2.map bv).toArray rfl rfl (by rw [List.size_toArray, List.length_map, hmem]; exact HT.out) (by rw [info59, List.size_toArray, List.length_map, hmem]) (map_bv_one _) ?_
      have HF := Lib.hid ((HB2.out.still (Below.refl _ _).drew).store p.1 hnum' p.2 hmem)
      have HSF : Hid (Spared w (w2.drew.setCells gd (p.1 * 64) (p.2.map bv)) F) := Spared.setCells HB2.out.2.2.2.2.1 _ _ _ HS2.out.drew
      change wpList _ _ _ _ _ (w2.drew.setCells gd (p.1 * 64) (p.2.map bv))
      generalize w2.drew.setCells gd (p.1 * 64) (p.2.map bv) = w3 at *
      go_wp2
      go_roundw
      case rel => exact ⟨k + 1, by go_num, by omega, by rw [HK.out]; exact HF.out, HSF.out⟩
      case measure => simp [intOf]; omega
    · obtain rfl : k = s.M.length := by omega
      have d1 := HD.out.cells.2.1
      have f1 := HD.out.free 1
      have HP := Lib.hid (HD.out.put 1 (.slice none 0 0) (s' := { s with K := kept (fun _ => true) s.M s.K s.M.length, M := [] }) (v' := .slice none 0 0) rfl rfl (.inr ⟨rfl, rfl⟩))
      have HSP := Lib.hid (HS.out.setCell (HD.out.2.2.2.1) 1 (.slice none 0 0))
      clear hA
      go_wp2_with (go_at_call 80; refine (performed_any _ g gd _ F _ HP.out hcl hlf).mono ?_; rintro e w4 ⟨rfl, hp, hs⟩)
      go_ret
      exact ⟨rfl, F, ⟨_, _, hp⟩, HSP.out.trans hs (fun _ h => .inl h), fun _ h => .inl h⟩

theorem sync_off (w : World) (g : Nat) (F : Nat → Prop) (s : Dsk) (h : DiskAt w g F s) (hon : s.off = true) :
    Calls Try.prog 68 #[.pointer (some ⟨g, 0, none⟩)] w fun e w' => e = .returned (.int .i64 5) ∧ w' = w := by
  have H := Lib.hid h
  have ho : (!s.off) = false := by rw [hon]; rfl
  clear h hon
  go_enter Try.func68, Try.ntmps68
  go_wp2_with (go_at_call 43; refine (on_any H.out).mono ?_; rintro e w' ⟨rfl, hw'⟩; obtain rfl := hw'.symm; rw [ho])
  go_ret
  exact ⟨rfl, rfl⟩
end Go.Proofs.Ytkbjhnlihnakkaa
