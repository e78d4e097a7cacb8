/-
  The document's two tables. No conditions.
-/
import Derived.Test.YtmmfnfndepijlaaDoorPad
namespace Go.Proofs.YtmmfnfndepijlaaDoor
open Go.RowKit

theorem refConstants_any (w : World) : Calls Tryd.prog 30 #[] w fun e w' => e = .returned (.slice (some ⟨w.heap.size, 0, none⟩) 64 64) ∧ w' = w.alloc (.cells (K0.map wv).toArray 43) := by
  go_enter Tryd.func30, Tryd.ntmps30
  go_wp2
  go_ret
  exact ⟨rfl, rfl⟩
theorem refStart_any (w : World) : Calls Tryd.prog 22 #[] w fun e w' => e = .returned (.slice (some ⟨w.heap.size, 0, none⟩) 8 8) ∧ w' = w.alloc (.cells (H0.map wv).toArray 43) := by
  go_enter Tryd.func22, Tryd.ntmps22
  go_wp2
  go_ret
  exact ⟨rfl, rfl⟩
end Go.Proofs.YtmmfnfndepijlaaDoor
