/-
  Of a disk, Image; the bytes of a block (the law's own helper). Conditions: as each says.
-/
import Derived.Test.YtkbjhnlihnakkaaDkLatest
namespace Go.Proofs.Ytkbjhnlihnakkaa
open Go.RowKit

theorem info8d : (Try.prog.info? 5).map (fun i => (i.zero, i.size, i.bytes)) = some (some (.int .u8 0), 1, 1) := by kernel_rfl
theorem make_cap (n : Nat) (h : n ≤ 4096) (W : World) : (Instr.makeSlice 22 (.int .i64 0) (.int .i64 ((n : Int) * 64))).run Try.prog W = .ok (.slice (some ⟨W.heap.size, 0, none⟩) 0 (n * 64)) (W.alloc (.cells (madeCells #[.int .u8 0] (n * 64)) 5)) := by
  obtain ⟨i0, hi, hz0, hz1, hz2⟩ := info_parts info8d
  have hr := run_make (P := Try.prog) W 22 5 i0 (.int .u8 0) Try.underlying22 hi hz0 .i64 .i64 0 ((n : Int) * 64) (by omega) (by omega) (by rw [hz2]; omega) (by omega)
  rw [hr, hz1, show ((n : Int) * 64).toNat = n * 64 from by omega, Nat.mul_one]
  rfl
theorem made_start (w : World) (n : Nat) (hn : n ≤ 4096) : Made 5 w [] (.slice (some ⟨w.heap.size, 0, none⟩) 0 (n * 64)) (w.alloc (.cells (madeCells #[.int .u8 0] (n * 64)) 5)) :=
  ⟨World.ownsRow_made w _ _ (Nat.le_refl _) (by unfold maxLen; omega) (by rw [size_madeCells, Nat.mul_one]), (Below.refl _ _).alloc (Nat.le_refl _) _⟩

theorem take_flat {K : List (List UInt8)} {k : Nat} (h : k < K.length) : (K.take k).flatten ++ K[k] = (K.take (k + 1)).flatten := by
  rw [List.take_succ_eq_append_getElem h, List.flatten_append]; simp
theorem take_flat_length {K : List (List UInt8)} (hK : ∀ r ∈ K, r.length = 64) (k : Nat) (h : k ≤ K.length) : (K.take k).flatten.length = k * 64 := by
  rw [flat_length (m := 64) _ (fun r hr => hK r (List.mem_of_mem_take hr)), List.length_take, Nat.min_eq_left h]
theorem range_seen {w : World} {g o : Nat} {l : List UInt8} (h : w.rangeAt g o (l.map bv)) : Seen w (some ⟨g, o, none⟩) l := by
  rcases Nat.eq_zero_or_pos l.length with h0 | h0
  · exact .inl (List.eq_nil_of_length_eq_zero h0)
  · refine .inr ⟨g, o, rfl, World.block_lt_of_cell? w _ (h 0 (bv l[0]) (by simp [h0])), fun j hj => ?_⟩
    exact h j _ (by simp [hj, bv])

set_option maxRecDepth 100000 in
set_option maxHeartbeats 400000 in
theorem image_any (w : World) (g : Nat) (F : Nat → Prop) (s : Dsk) (h : DiskAt w g F s) :
    Calls Try.prog 25 #[.pointer (some ⟨g, 0, none⟩)] w fun e w' => ∃ v, e = .returned v ∧ Made 5 w s.K.flatten v w' := by
  have H := Lib.hid h
  have hK4 := h.ok.hi
  have HL := Lib.hid h.ok.len
  obtain ⟨i0, hi, hz0, hz1, hz2⟩ := info_parts info8d
  have hmk := make_cap s.K.length hK4 w
  have HM := Lib.hid (made_start w s.K.length hK4)
  generalize (w.alloc (.cells (madeCells #[.int .u8 0] (s.K.length * 64)) 5)) = w1 at hmk HM
  have H1 := Lib.hid (h.still HM.out.2)
  clear h
  go_enter Try.func25, Try.ntmps25
  go_wp2_with (first
    | (go_at_call 45; refine (blocks_any H.out).mono ?_; rintro e w' ⟨rfl, hw'⟩; obtain rfl := hw'.symm)
    | (go_at_call 45; refine (blocks_any H1.out).mono ?_; rintro e w' ⟨rfl, hw'⟩; obtain rfl := hw'.symm))
  go_loopw [3, 11] (fun v a wr => ∃ k : Nat, k ≤ s.K.length ∧ a = .int .i64 k ∧ Made 5 w (s.K.take k).flatten v wr) (fun _ a _ => s.K.length - (intOf a).toNat)
  case atStart => exact ⟨0, Nat.zero_le _, rfl, HM.out⟩
  case round =>
    obtain ⟨k, hk, rfl, hm⟩ := hrel
    have HV := Lib.hid hm
    clear hm hmk
    by_cases hlt : k < s.K.length
    · have hkl : (k : Int) < (s.K.length : Int) := by omega
      obtain ⟨gd, vd, hd⟩ := H.out.still HV.out.2
      obtain ⟨c0, _⟩ := hd.cells
      have HS := Lib.hid (range_seen (hd.durable k hlt).1)
      have h64 : s.K[k].length = 64 := HL.out _ (List.getElem_mem hlt)
      have ht := take_flat hlt
      have hfl := take_flat_length HL.out k hk
      generalize s.K[k] = p at *
      generalize hd1 : (s.K.take k).flatten = d at *
      have HT := Lib.hid ht
      have H64 := Lib.hid h64
      have HFL := Lib.hid hfl
      clear ht h64 hfl hd hd1
      go_wp2_with (refine wpList_append_bytes _ rfl (.tmp 14) (.tmp 21) 22 rfl 5 i0 (.int .u8 0) Try.underlying22 hi hz0 hz1 hz2 rfl w _ d _ p 64 rfl (by rw [H64.out]; rfl) HV.out HS.out (by rw [HFL.out, H64.out]; omega) ?_; intro v' w' hm' hb')
      have HM' := Lib.hid hm'
      clear hm' hb'
      go_roundw
      case rel => exact ⟨k + 1, by omega, by go_num, by rw [← HT.out]; exact HM'.out⟩
      case measure => simp [intOf]; omega
    · obtain rfl : k = s.K.length := by omega
      rw [List.take_length] at HV
      go_wp2
      go_ret
      exact ⟨_, rfl, HV.out⟩
end Go.Proofs.Ytkbjhnlihnakkaa
