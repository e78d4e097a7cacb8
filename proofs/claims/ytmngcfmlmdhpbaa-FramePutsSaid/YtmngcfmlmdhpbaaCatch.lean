/-
  The deferred closures of Decode and Puts: what they make of a panic of the reader's, and that they leave all as it is where there is none. Condition: their variables can be written.
-/
import Derived.Test.YtmngcfmlmdhpbaaRd
import Derived.Defers
import Derived.Recover
namespace Go.Proofs.Ytmngcfmlmdhpbaa
open Go.RowKit

theorem assert_none (w : World) : (Instr.typeAssert Value.nilIface 20 37 true).run Try.prog w = .ok (.tuple #[.int .i64 0, .bool false]) w := by kernel_rfl
theorem assert_errno (w : World) : (Instr.typeAssert (.iface 37 (.int .i64 3)) 20 37 true).run Try.prog w = .ok (.tuple #[.int .i64 3, .bool true]) w := by kernel_rfl

set_option maxHeartbeats 400000 in
theorem putsCatch_idle (p q : Addr) (w : World) :
    CallsD Try.prog 38 #[.pointer (some p), .pointer (some q)] .returning w fun e u' w' => e = .returned (.tuple #[]) ∧ u' = .returning ∧ w' = w := by
  refine callsD_of_wpS Try.func38 rfl fun c₀ cs hu => ?_
  have hta := assert_none
  apply wpS_seq
  apply wpS_region
  simp [wpOpsS, go_sem, recoverD, hu, Try.ntmps38, Exit.thenS, hta]
  apply wpS_seq
  apply wpS_region
  simp [wpOpsS, go_sem, Exit.thenS]
  refine wpS_cond (t := false) (by simp [Act.eval, Array.replicate]) ?_
  simp only [Bool.false_eq_true, if_false]
  refine wpS_of_wp (wp_skip ?_)
  cases c₀
  simp_all [bodyPostS, results, Try.results38]

set_option maxHeartbeats 400000 in
theorem putsCatch_wrong (g h : Nat) (older : List PanicEntry) (w : World) (x : Value) (e0 : Int) (hc : w.cell? ⟨g, 0, none⟩ = some x) (hz : w.frozen? ⟨g, 0, none⟩ = false) (hc' : w.cell? ⟨h, 0, none⟩ = some (.int .i64 e0)) (hz' : w.frozen? ⟨h, 0, none⟩ = false) (hne : ¬ h = g) :
    CallsD Try.prog 38 #[.pointer (some ⟨g, 0, none⟩), .pointer (some ⟨h, 0, none⟩)] (.panicking ({ v := .iface 37 (.int .i64 3), recovered := false } :: older)) w fun e u' w' =>
      e = .returned (.tuple #[]) ∧ u' = .panicking ({ v := .iface 37 (.int .i64 3), recovered := true } :: older) ∧ w' = (w.setCell ⟨g, 0, none⟩ (.slice none 0 0)).setCell ⟨h, 0, none⟩ (.int .i64 3) := by
  refine callsD_of_wpS Try.func38 rfl fun c₀ cs hu => ?_
  have hta := assert_errno
  apply wpS_seq
  apply wpS_region
  simp [wpOpsS, go_sem, recoverD, hu, Try.ntmps38, Exit.thenS, hta]
  apply wpS_seq
  apply wpS_region
  simp [wpOpsS, go_sem, Exit.thenS]
  refine wpS_cond (t := true) (by simp [Act.eval, Array.replicate]) ?_
  simp only [if_true]
  apply wpS_region
  simp [wpOpsS, go_sem, hc, hz, hc', hz', bodyPostS, results, Try.results38]

set_option maxHeartbeats 400000 in
theorem decodeCatch_idle (p q : Addr) (w : World) :
    CallsD Try.prog 32 #[.pointer (some p), .pointer (some q)] .returning w fun e u' w' => e = .returned (.tuple #[]) ∧ u' = .returning ∧ w' = w := by
  refine callsD_of_wpS Try.func32 rfl fun c₀ cs hu => ?_
  have hta := assert_none
  apply wpS_seq
  apply wpS_region
  simp [wpOpsS, go_sem, recoverD, hu, Try.ntmps32, Exit.thenS, hta]
  apply wpS_seq
  apply wpS_region
  simp [wpOpsS, go_sem, Exit.thenS]
  refine wpS_cond (t := false) (by simp [Act.eval, Array.replicate]) ?_
  simp only [Bool.false_eq_true, if_false]
  refine wpS_of_wp (wp_skip ?_)
  cases c₀
  simp_all [bodyPostS, results, Try.results32]

theorem zeroFrame (w : World) : (zeroValue 24).run Try.prog w = .ok (.agg #[.int .i64 0, .int .i64 0, .slice none 0 0]) w := by kernel_rfl

set_option maxHeartbeats 800000 in
theorem decodeCatch_wrong (g h : Nat) (older : List PanicEntry) (w : World) (x y z : Value) (e0 : Int) (hc0 : w.cell? ⟨g, 0, none⟩ = some x) (hc1 : w.cell? ⟨g, 1, none⟩ = some y) (hc2 : w.cell? ⟨g, 2, none⟩ = some z) (hz0 : w.frozen? ⟨g, 0, none⟩ = false) (hz1 : w.frozen? ⟨g, 1, none⟩ = false) (hz2 : w.frozen? ⟨g, 2, none⟩ = false)
    (hc' : w.cell? ⟨h, 0, none⟩ = some (.int .i64 e0)) (hz' : w.frozen? ⟨h, 0, none⟩ = false) (hne : ¬ h = g) :
    CallsD Try.prog 32 #[.pointer (some ⟨g, 0, none⟩), .pointer (some ⟨h, 0, none⟩)] (.panicking ({ v := .iface 37 (.int .i64 3), recovered := false } :: older)) w fun e u' w' =>
      e = .returned (.tuple #[]) ∧ u' = .panicking ({ v := .iface 37 (.int .i64 3), recovered := true } :: older) ∧ w' = (((w.setCell ⟨g, 0, none⟩ (.int .i64 0)).setCell ⟨g, 1, none⟩ (.int .i64 0)).setCell ⟨g, 2, none⟩ (.slice none 0 0)).setCell ⟨h, 0, none⟩ (.int .i64 0) := by
  refine callsD_of_wpS Try.func32 rfl fun c₀ cs hu => ?_
  have hta := assert_errno
  have hzf := zeroFrame
  apply wpS_seq
  apply wpS_region
  simp [wpOpsS, go_sem, recoverD, hu, Try.ntmps32, Exit.thenS, hta]
  apply wpS_seq
  apply wpS_region
  simp [wpOpsS, go_sem, Exit.thenS]
  refine wpS_cond (t := true) (by simp [Act.eval, Array.replicate]) ?_
  simp only [if_true]
  apply wpS_region
  simp [wpOpsS, go_sem, hzf, hc0, hc1, hc2, hz0, hz1, hz2, hc', hz', bodyPostS, results, Try.results32]
end Go.Proofs.Ytmngcfmlmdhpbaa
