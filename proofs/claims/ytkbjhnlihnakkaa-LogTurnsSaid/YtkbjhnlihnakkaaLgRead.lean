/-
  An area's read: the bytes of its blocks. Condition: the area lies on the disk.
-/
import Derived.Test.YtkbjhnlihnakkaaLgBegin
namespace Go.Proofs.Ytkbjhnlihnakkaa
open Go.RowKit

theorem bytes_step {V : List (List UInt8)} {f k : Nat} (h : f + k < V.length) : ((V.drop f).take k).flatten ++ V[f + k] = ((V.drop f).take (k + 1)).flatten := by
  rw [List.take_succ_eq_append_getElem (by rw [List.length_drop]; omega), List.flatten_append, List.getElem_drop]
  simp
theorem bytes_length {s : Dsk} (ok : s.Ok) {f N : Nat} (h : f + N ≤ s.K.length) : (s.bytes f N).length = N * 64 := by
  unfold Dsk.bytes
  rw [flat_length (m := 64) _ (fun r hr => view_len ok r (List.mem_of_mem_drop (List.mem_of_mem_take hr))), List.length_take, List.length_drop, view_length, Nat.min_eq_left (by omega)]
/-- what read answers -/
def ReadAll (w : World) (s : Dsk) (f N : Nat) (e : Ending) (w' : World) : Prop :=
  (s.off = true ∧ e = .returned (.tuple #[.slice none 0 0, .int .i64 5]) ∧ Below w.heap.size w w') ∨
  (s.off = false ∧ ∃ A c, e = .returned (.tuple #[.slice A (N * 64) c, .int .i64 0]) ∧ Made 5 w (s.bytes f N) (.slice A (N * 64) c) w')

set_option maxRecDepth 100000 in
set_option maxHeartbeats 1000000 in
theorem area_read (w : World) (g : Nat) (F : Nat → Prop) (s : Dsk) (f N : Nat) (h : DiskAt w g F s) (h1 : 1 ≤ N) (hN : f + N ≤ s.K.length) :
    Calls Try.prog 39 #[.agg #[.pointer (some ⟨g, 0, none⟩), .int .i64 (f : Int), .int .i64 (N : Int)]] w (ReadAll w s f N) := by
  have hK4 := h.ok.hi
  have OK := Lib.hid h.ok
  have HB := Lib.hid (boxA_below w g f N)
  have HX := Lib.hid (boxA_blk w g f N)
  obtain ⟨w1, hw1⟩ : ∃ w1, w1 = boxA w g f N := ⟨_, rfl⟩
  have HW' : Hid (w.alloc (.cells #[.pointer (some ⟨g, 0, none⟩), .int .i64 (f : Int), .int .i64 (N : Int)] 72) = w1) := hw1.symm
  rw [← hw1] at HB HX
  obtain ⟨c0, c1, c2⟩ := area_cells HX.out
  have hN4 : N ≤ 4096 := by omega
  have hmk := make_cap N hN4 w1
  have HM := Lib.hid (made_start w1 N hN4)
  generalize (w1.alloc (.cells (madeCells #[.int .u8 0] (N * 64)) 5)) = w2 at hmk HM
  have HB2 := Lib.hid HM.out.2
  have H1 := Lib.hid (h.still HB.out)
  have HX2 := Lib.hid (HX.out.below HB2.out HX.out.lt)
  have HLEN := Lib.hid (bytes_length OK.out hN)
  have HBY : Hid (s.bytes f N = ((s.view.drop f).take N).flatten) := rfl
  have HVL : Hid (s.view.length = s.K.length) := view_length s
  have HV64 := Lib.hid (view_len OK.out)
  obtain ⟨i0, hi, hz0, hz1, hz2⟩ := info_parts info8d
  have c0' : (w.alloc (.cells #[.pointer (some ⟨g, 0, none⟩), .int .i64 (f : Int), .int .i64 (N : Int)] 72)).cell? ⟨w.heap.size, 2, none⟩ = some (.int .i64 (N : Int)) := by rw [HW'.out]; exact c2
  rw [hw1] at hmk
  have hmk' : (Instr.makeSlice 22 (.int .i64 0) (.int .i64 ((N : Int) * 64))).run Try.prog (w.alloc (.cells #[.pointer (some ⟨g, 0, none⟩), .int .i64 (f : Int), .int .i64 (N : Int)] 72)) = .ok (.slice (some ⟨(w.alloc (.cells #[.pointer (some ⟨g, 0, none⟩), .int .i64 (f : Int), .int .i64 (N : Int)] 72)).heap.size, 0, none⟩) 0 (N * 64)) w2 := hmk
  have d2 := (area_cells HX2.out).2.2
  have HSZ : Hid ((w.alloc (.cells #[.pointer (some ⟨g, 0, none⟩), .int .i64 (f : Int), .int .i64 (N : Int)] 72)).heap.size = w1.heap.size) := by show _ = _; rw [HW'.out]
  clear h hmk hw1 c0 c1 c2
  go_enter Try.func39, Try.ntmps39
  go_wp2
  go_loopw [4, 14] (fun v a wr => ∃ k : Nat, k ≤ N ∧ a = .int .i64 k ∧ (k = 0 ∨ s.off = false) ∧ Made 5 w1 ((s.view.drop f).take k).flatten v wr) (fun _ a _ => N - (intOf a).toNat)
  case atStart => exact ⟨0, Nat.zero_le _, rfl, .inl rfl, by have := HM.out; rw [← HSZ.out] at this; simpa using this⟩
  case round =>
    obtain ⟨k, hk, rfl, hoff, hm⟩ := hrel
    have HV := Lib.hid hm
    have HOF := Lib.hid hoff
    clear hm hoff hmk' c0' d2
    by_cases hlt : k < N
    · have hkl : (k : Int) < (N : Int) := by omega
      have hd := H1.out.still HV.out.2
      obtain ⟨c0, c1, c2⟩ := area_cells (HX.out.below HV.out.2 HX.out.lt)
      have hRD := Lib.hid (read_any wr g F s ((f + k : Nat) : Int) hd)
      rw [show ((f + k : Nat) : Int) = (f : Int) + (k : Int) by omega] at hRD
      clear hd
      go_wp2_with fail
      refine hRD.out.mono ?_
      rintro e w6 ⟨hb6, ⟨hx, _⟩ | ⟨_, ho, rfl⟩ | ⟨_, ho, x, gb, hx, _, hk6, rfl⟩⟩
      · exact absurd ⟨by omega, by omega⟩ hx
      · have HO := Lib.hid ho
        have HB6 := Lib.hid (hop (hop HB.out HV.out.2) hb6)
        clear ho hb6 hRD
        go_wp2
        go_ret2
        exact .inl ⟨HO.out, rfl, HB6.out⟩
      · have HO := Lib.hid ho
        have HM6 := Lib.hid (HV.out.below hb6)
        rw [show ((f : Int) + (k : Int)).toNat = f + k by omega] at hx
        have hv := last_view OK.out hx
        have hfk : f + k < s.view.length := by rw [HVL.out]; omega
        rw [List.getElem?_eq_getElem hfk] at hv
        injection hv with hv
        have HT : Hid (((s.view.drop f).take k).flatten ++ x = ((s.view.drop f).take (k + 1)).flatten) := by show _ = _; rw [← hv]; exact bytes_step hfk
        have H64 : Hid (x.length = 64) := by show _ = _; rw [← hv]; exact HV64.out _ (List.getElem_mem hfk)
        have HFL : Hid (((s.view.drop f).take k).flatten.length = k * 64) := bytes_length OK.out (N := k) (by omega)
        have HS : Hid (Seen w6 (some ⟨gb, 0, none⟩) x) := by
          have : w6.rangeAt gb 0 (x.map bv) := fun j v hv => by
            obtain ⟨hj, hju⟩ := List.getElem?_eq_some_iff.1 hv
            rw [Nat.zero_add, hk6.cell hj, hju]
          exact range_seen this
        generalize ((s.view.drop f).take k).flatten = d at *
        clear ho hb6 hRD hx hv hfk hk6 c0 c1 c2
        go_wp2_with (at_builtin; refine wpList_append_bytes _ rfl (.tmp 30) (.tmp 31) 22 rfl 5 i0 (.int .u8 0) Try.underlying22 hi hz0 hz1 hz2 rfl w1 _ d _ x 64 rfl (by rw [H64.out]; rfl) HM6.out HS.out (by rw [HFL.out, H64.out]; omega) ?_; intro v' w' hm' hb')
        have HM' := Lib.hid hm'
        clear hm' hb'
        go_roundw
        case rel => exact ⟨k + 1, by omega, by go_num, .inr HO.out, by rw [← HT.out]; exact HM'.out⟩
        case measure => simp [intOf]; omega
    · obtain rfl : k = N := by omega
      have ho : s.off = false := HOF.out.resolve_left (by omega)
      have HO := Lib.hid ho
      rw [← HBY.out] at HV
      obtain ⟨A, c, hv, _⟩ := HV.out.form
      subst hv
      have HM2 : Hid (Made 5 w (s.bytes f k) (.slice A (s.bytes f k).length c) wr) := HV.out.since HB.out
      rw [HLEN.out] at HM2 ⊢
      clear ho HV
      go_wp2
      go_ret2
      exact .inr ⟨HO.out, A, c, rfl, HM2.out⟩
end Go.Proofs.Ytkbjhnlihnakkaa
