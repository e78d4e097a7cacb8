/-
  The deferred closure of Decode: what it makes of a panic of the reader's, and that it leaves all as it is where there is none. Condition: its variables can be written.
-/
import Derived.Test.YtkbjhnlihnakkaaRd
import Derived.Defers
import Derived.Recover
namespace Go.Proofs.Ytkbjhnlihnakkaa
open Go.RowKit

theorem assert_none (w : World) : (Instr.typeAssert Value.nilIface 20 27 true).run Try.prog w = .ok (.tuple #[.int .i64 0, .bool false]) w := by kernel_rfl
theorem assert_errno (w : World) : (Instr.typeAssert (.iface 27 (.int .i64 3)) 20 27 true).run Try.prog w = .ok (.tuple #[.int .i64 3, .bool true]) w := by kernel_rfl

set_option maxHeartbeats 400000 in
theorem decodeCatch_idle (p q : Addr) (w : World) :
    CallsD Try.prog 57 #[.pointer (some p), .pointer (some q)] .returning w fun e u' w' => e = .returned (.tuple #[]) ∧ u' = .returning ∧ w' = w := by
  refine callsD_of_wpS Try.func57 rfl fun c₀ cs hu => ?_
  have hta := assert_none
  apply wpS_seq
  apply wpS_region
  simp [wpOpsS, go_sem, recoverD, hu, Try.ntmps57, Exit.thenS, hta]
  apply wpS_seq
  apply wpS_region
  simp [wpOpsS, go_sem, Exit.thenS]
  refine wpS_cond (t := false) (by simp [Act.eval, Array.replicate]) ?_
  simp only [Bool.false_eq_true, if_false]
  refine wpS_of_wp (wp_skip ?_)
  cases c₀
  simp_all [bodyPostS, results, Try.results57]

theorem zeroFrame (w : World) : (zeroValue 77).run Try.prog w = .ok (.agg #[.int .i64 0, .int .i64 0, .slice none 0 0]) w := by kernel_rfl

set_option maxHeartbeats 800000 in
theorem decodeCatch_wrong (g h : Nat) (older : List PanicEntry) (w : World) (x y z : Value) (e0 : Int) (hc0 : w.cell? ⟨g, 0, none⟩ = some x) (hc1 : w.cell? ⟨g, 1, none⟩ = some y) (hc2 : w.cell? ⟨g, 2, none⟩ = some z) (hz0 : w.frozen? ⟨g, 0, none⟩ = false) (hz1 : w.frozen? ⟨g, 1, none⟩ = false) (hz2 : w.frozen? ⟨g, 2, none⟩ = false)
    (hc' : w.cell? ⟨h, 0, none⟩ = some (.int .i64 e0)) (hz' : w.frozen? ⟨h, 0, none⟩ = false) (hne : ¬ h = g) :
    CallsD Try.prog 57 #[.pointer (some ⟨g, 0, none⟩), .pointer (some ⟨h, 0, none⟩)] (.panicking ({ v := .iface 27 (.int .i64 3), recovered := false } :: older)) w fun e u' w' =>
      e = .returned (.tuple #[]) ∧ u' = .panicking ({ v := .iface 27 (.int .i64 3), recovered := true } :: older) ∧ w' = (((w.setCell ⟨g, 0, none⟩ (.int .i64 0)).setCell ⟨g, 1, none⟩ (.int .i64 0)).setCell ⟨g, 2, none⟩ (.slice none 0 0)).setCell ⟨h, 0, none⟩ (.int .i64 0) := by
  refine callsD_of_wpS Try.func57 rfl fun c₀ cs hu => ?_
  have hta := assert_errno
  have hzf := zeroFrame
  apply wpS_seq
  apply wpS_region
  simp [wpOpsS, go_sem, recoverD, hu, Try.ntmps57, Exit.thenS, hta]
  apply wpS_seq
  apply wpS_region
  simp [wpOpsS, go_sem, Exit.thenS]
  refine wpS_cond (t := true) (by simp [Act.eval, Array.replicate]) ?_
  simp only [if_true]
  apply wpS_region
  simp [wpOpsS, go_sem, hzf, hc0, hc1, hc2, hz0, hz1, hz2, hc', hz', bodyPostS, results, Try.results57]
end Go.Proofs.Ytkbjhnlihnakkaa
