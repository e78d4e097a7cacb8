/-
  What the rows' list of variables gives: the program's two tables; a world in which they lie, for the witness. No conditions.
-/
import Derived.Test.YtmmfnfndepijlaaDoorRows
import Derived.Test.YtmmfnfndepijlaaDoorMix
import Derived.Deep.DeepHandedRow
import Derived.Lib.LaidTab
import Derived.LaidSub
namespace Go.Proofs.YtmmfnfndepijlaaDoor
open Go.RowKit

theorem own : ownKnob Tryd.prog.godebug = none := by kernel_rfl
theorem laidOut : laidOutB Tryd.prog = true := by kernel_rfl
theorem cells8 : Tryd.prog.cellsOf 5 = 1 := by kernel_rfl
theorem bytes8 : Tryd.prog.bytesOf 5 = 1 := by kernel_rfl
theorem gStart : Tryd.prog.globalNamed "concierge/sha.start" = some 1 := by kernel_rfl
theorem gStartType : (Tryd.prog.globals[1]?).map (·.type) = some 45 := by kernel_rfl
theorem gConst : Tryd.prog.globalNamed "concierge/sha.constants" = some 0 := by kernel_rfl
theorem gConstType : (Tryd.prog.globals[0]?).map (·.type) = some 54 := by kernel_rfl
theorem cellsStart : Tryd.prog.cellsOf 45 = 8 := by kernel_rfl
theorem cellsConst : Tryd.prog.cellsOf 54 = 64 := by kernel_rfl
theorem cells32 : Tryd.prog.cellsOf 43 = 1 := by kernel_rfl
def H0i : List Int := H0.map fun n : Nat => (n : Int)
def K0i : List Int := K0.map fun n : Nat => (n : Int)
theorem get_cast (L : List Nat) (i : Nat) : (L.map fun n : Nat => (n : Int)).getD i 0 = ((L.getD i 0 : Nat) : Int) := by
  rw [List.getD_eq_getElem?_getD, List.getD_eq_getElem?_getD, List.getElem?_map]
  cases L[i]? <;> rfl

theorem table {W : World} (h : laidMetH Tryd.prog [("concierge/sha.start", Rows.laid_concierge_sha_start), ("concierge/sha.constants", Rows.laid_concierge_sha_constants)] W) : Tabs W := by
  have h1 := laidMetH.filter (fun x => x.1 == "concierge/sha.start") h
  have h2 := laidMetH.filter (fun x => x.1 == "concierge/sha.constants") h
  have k1 : laidMet Tryd.prog [("concierge/sha.start", Lib.tabData .u32 H0i)] W := h1
  have k2 : laidMet Tryd.prog [("concierge/sha.constants", Lib.tabData .u32 K0i)] W := h2
  have t1 := Lib.tabIs_of_head (rest := []) gStart gStartType Tryd.underlying45 Tryd.underlying43 cells32 cellsStart k1
  have t2 := Lib.tabIs_of_head (rest := []) gConst gConstType Tryd.underlying54 Tryd.underlying43 cells32 cellsConst k2
  refine ⟨fun i hi => ?_, fun i hi => ?_, ?_⟩
  · have h := t2.cell gConst i hi
    rw [show K0i.getD i 0 = ((K0.getD i 0 : Nat) : Int) from get_cast K0 i] at h
    exact h
  · have h := t1.cell gStart i hi
    rw [show H0i.getD i 0 = ((H0.getD i 0 : Nat) : Int) from get_cast H0 i] at h
    exact h
  · have h := t1.cell gStart 0 (by decide)
    have := World.block_lt_of_cell? W _ h
    exact this

/-- a block of cells with other content -/
def relay (cs : Array Value) : Obj → Obj
  | .cells _ t frozen => .cells cs t frozen
  | o => o
/-- A WORLD FOR THE WITNESS: the settled one, the tables holding what their initialisers lay. -/
noncomputable def laidWorld (os : Os) : World :=
  { World.holding Tryd.prog os ⟨#[], #[], []⟩ with
    heap := ((World.holding Tryd.prog os ⟨#[], #[], []⟩).heap.modify 1 (relay (H0.map wv).toArray)).modify 0 (relay (K0.map wv).toArray) }
end Go.Proofs.YtmmfnfndepijlaaDoor
