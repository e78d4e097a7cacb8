/-
  The document's two tables. No conditions.
-/
import Derived.Test.YtoajhpbcpbaiiaaDoorPad
namespace Go.Proofs.YtoajhpbcpbaiiaaDoor
open Go.RowKit

theorem refConstants_any (w : World) : Calls Tryd.prog 11 #[] w fun e w' => e = .returned (.slice (some ⟨w.heap.size, 0, none⟩) 64 64) ∧ w' = w.alloc (.cells (K0.map wv).toArray 22) := by
  go_enter Tryd.func11, Tryd.ntmps11
  go_wp2
  go_ret
  exact ⟨rfl, rfl⟩
theorem refStart_any (w : World) : Calls Tryd.prog 12 #[] w fun e w' => e = .returned (.slice (some ⟨w.heap.size, 0, none⟩) 8 8) ∧ w' = w.alloc (.cells (H0.map wv).toArray 22) := by
  go_enter Tryd.func12, Tryd.ntmps12
  go_wp2
  go_ret
  exact ⟨rfl, rfl⟩
end Go.Proofs.YtoajhpbcpbaiiaaDoor
