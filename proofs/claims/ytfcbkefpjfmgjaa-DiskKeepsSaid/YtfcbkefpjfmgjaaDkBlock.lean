/-
  The law's own helper: 64 bytes of one; and 64 bytes of one as a list. Conditions: none.
-/
import Derived.Test.YtfcbkefpjfmgjaaDkImage
namespace Go.Proofs.Ytfcbkefpjfmgjaa
open Go.RowKit

theorem make64 (w : World) : (Instr.makeSlice 22 (.int .i64 64) (.int .i64 64)).run Try.prog w = .ok (.slice (some ⟨w.heap.size, 0, none⟩) 64 64) (w.alloc (.cells ((List.replicate 64 (0 : UInt8)).map bv).toArray 5)) := by kernel_rfl
/-- the first k bytes are x, the others 0 -/
def fillK (x : UInt8) (k : Nat) : List UInt8 := List.replicate k x ++ List.replicate (64 - k) 0
theorem fillK_length (x : UInt8) {k : Nat} (h : k ≤ 64) : (fillK x k).length = 64 := by simp [fillK]; omega
theorem fillK_set (x : UInt8) {k : Nat} (h : k < 64) : (fillK x k).set k x = fillK x (k + 1) := by
  unfold fillK
  have e : 64 - k = (64 - (k + 1)) + 1 := by omega
  rw [List.set_append_right _ _ (by simp), e, List.replicate_succ]
  simp only [List.length_replicate, Nat.sub_self, List.set_cons_zero]
  rw [show List.replicate (k + 1) x = List.replicate k x ++ [x] from List.replicate_succ', List.append_assoc]
  rfl
theorem fillK_all (x : UInt8) : fillK x 64 = List.replicate 64 x := by simp [fillK]

set_option maxRecDepth 100000 in
set_option maxHeartbeats 400000 in
theorem block_any (w : World) (x : UInt8) :
    Calls Try.prog 28 #[.int .u8 (x.toNat : Int)] w fun e w' => e = .returned (.slice (some ⟨w.heap.size, 0, none⟩) 64 64) ∧ Blk w' w.heap.size ((List.replicate 64 x).map bv) 5 ∧ Below w.heap.size w w' := by
  have hmk := make64 w
  have HS : Hid (Blk (w.alloc (.cells ((fillK x 0).map bv).toArray 5)) w.heap.size ((fillK x 0).map bv) 5) := Blk.new w _ _
  have HB : Hid (Below w.heap.size w (w.alloc (.cells ((fillK x 0).map bv).toArray 5))) := (Below.refl _ _).alloc (Nat.le_refl _) _
  have e0 : (List.replicate 64 (0 : UInt8)) = fillK x 0 := by simp [fillK]
  rw [e0] at hmk
  clear e0
  generalize (w.alloc (.cells ((fillK x 0).map bv).toArray 5)) = w1 at *
  go_enter Try.func28, Try.ntmps28
  go_wp2
  go_loopw [4] (fun a wr => ∃ k : Nat, k ≤ 64 ∧ a = .int .i64 k ∧ Blk wr w.heap.size ((fillK x k).map bv) 5 ∧ Below w.heap.size w wr) (fun a _ => 64 - (intOf a).toNat)
  case atStart => exact ⟨0, by omega, rfl, HS.out, HB.out⟩
  case round =>
    obtain ⟨k, hk, rfl, hb, hbb⟩ := hrel
    have H1 := Lib.hid hb
    have H2 := Lib.hid hbb
    clear hmk
    by_cases hlt : k < 64
    · have c0 := hb.cell (i := k) (by rw [List.length_map, fillK_length x hk]; exact hlt)
      have f0 := hb.free k
      have HX := Lib.hid (hb.set k (.int .u8 (x.toNat : Int)))
      clear hb hbb
      go_wp2
      go_roundw
      case rel =>
        refine ⟨k + 1, by omega, by go_num, ?_, H2.out.setCell (Nat.le_refl _) _⟩
        have := HX.out
        rw [← fillK_set x hlt, List.map_set]
        exact this
      case measure => simp [intOf]; omega
    · obtain rfl : k = 64 := by omega
      clear hb hbb
      go_wp2
      go_ret
      exact ⟨rfl, by rw [← fillK_all]; exact H1.out, H2.out⟩
end Go.Proofs.Ytfcbkefpjfmgjaa
