/-
What the closing texts of a seat without listed variables share: closed facts of the program; the world of the witness. No conditions.
-/
import Derived.Test.YtdaahapbpnjkfaaGreatRows
import Derived.Test.YtdaahapbpnjkfaaGreatCKvOpenOps
import Derived.Deep.DeepHandedRow
import Derived.LaidSub
namespace Go.Proofs.YtdaahapbpnjkfaaGreat
open Go.RowKit
theorem own:ownKnob Tryz.prog.godebug=none:=by kernel_rfl
theorem laidOut:laidOutB Tryz.prog=true:=by kernel_rfl
theorem cells8:Tryz.prog.cellsOf 5=1:=by kernel_rfl
theorem bytes8:Tryz.prog.bytesOf 5=1:=by kernel_rfl
noncomputable def laidWorld (os:Os):World:=World.holding Tryz.prog os ⟨#[], #[],[]⟩
end Go.Proofs.YtdaahapbpnjkfaaGreat
