/-
  What the closing texts of a seat without listed variables and without rows of bytes share: closed facts of the program; the world of the witness. No conditions.
-/
import Derived.Test.YtehabjiacgibpaaGreatRows
import Derived.Test.YtehabjiacgibpaaGreatCOpenTu
import Derived.Deep.DeepHandedRow
import Derived.LaidSub
namespace Go.Proofs.YtehabjiacgibpaaGreat
open Go.RowKit
theorem own : ownKnob Tryz.prog.godebug = none := by kernel_rfl
theorem laidOut : laidOutB Tryz.prog = true := by kernel_rfl
noncomputable def laidWorld (os : Os) : World := World.holding Tryz.prog os ⟨#[], #[], []⟩
end Go.Proofs.YtehabjiacgibpaaGreat
