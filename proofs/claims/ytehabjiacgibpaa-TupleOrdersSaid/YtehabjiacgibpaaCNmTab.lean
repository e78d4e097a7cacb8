/-
  What the closing texts of a seat without listed variables and without rows of bytes share: closed facts of the program; the world of the witness. No conditions.
-/
import Derived.Test.YtehabjiacgibpaaRows
import Derived.Test.YtehabjiacgibpaaCLaOpW
import Derived.Deep.DeepHandedRow
import Derived.LaidSub
namespace Go.Proofs.Ytehabjiacgibpaa
open Go.RowKit
theorem own : ownKnob Try.prog.godebug = none := by kernel_rfl
theorem laidOut : laidOutB Try.prog = true := by kernel_rfl
noncomputable def laidWorld (os : Os) : World := World.holding Try.prog os ⟨#[], #[], []⟩
end Go.Proofs.Ytehabjiacgibpaa
