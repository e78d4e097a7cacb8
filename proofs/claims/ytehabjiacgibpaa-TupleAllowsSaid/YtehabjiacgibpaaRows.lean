/-
  NARROWER THAN 'FOR EVERY INPUT', by the rows' own cells (each row's printed sentence says how): TupleAllows: loops.
  DERIVED. THE GIVEN ROWS OF THIS SEAT. 5 by the template 'for every input the law returns true; each argument reads behind the call as it read before'; 0 by the template 'total and deterministic' (their statements: YtehabjiacgibpaaTotals.lean).
  GIVEN WITH THE SEED: the statements are not yours to turn. If you find one false, say at which input.
  Laid BY PROGRAM, IN A SANDBOX (cutbox-rows.mjs): the forced cells as the released guide's own fill.sh prints them over the translation 67fc113acc0d9102… (all of the seat's roots in one cut). By AI agents, Wed Nov 11 2026. No macro, syntax, notation, axiom, sorry.
-/
import Derived.Test.YtehabjiacgibpaaChecked
import GoSem.Claim
import GoSem.ClaimJoined
import GoSem.ClaimMapViews
import Derived.JoinedTies
import Derived.KernelRfl
namespace Go.Proofs.Ytehabjiacgibpaa
/- THE CELL 'sum', in the pinned program and in every row, IS THE sha256 OF THE DUMP (.gsa) THAT YtehabjiacgibpaaProg.lean LOADS. Nothing in Lean hashes anything: it is a label: what it is worth is what the hold of that sum in a sandbox is worth. -/
noncomputable def Try.pinned : Pinned := { name := "ytehabjiacgibpaa", sum := "67fc113acc0d91026eb979ffeb6dc41ce286b9d074d7d0830248970fd0da3613", checked := Try.checked }
namespace Rows
def none {H : Type} : Left H := { results := [], args := [] }

/-- 'conciergelaw13.TupleAllows': WHATEVER THE INPUT: true; the input reads as it did. -/
def tupleAllowsSpec : ChangeSpec := { name := "tupleAllows", fn := fun _ => fun
  | [d1, d2] => { results := [.lit (.bool true)], args := [d1, d2] }
  | _ => none }
def tupleAllowsRow : OpenClaim := { program := "ytehabjiacgibpaa", sum := "67fc113acc0d91026eb979ffeb6dc41ce286b9d074d7d0830248970fd0da3613", func := "concierge/conciergelaw13.TupleAllows", spec := "tupleAllows", unfollowed := true, recurses := true, loops := true, apart := false }
def TupleAllowsSaid : Prop := tupleAllowsRow.holds Try.pinned (OpenSpec.ofChange tupleAllowsSpec)

/-- ITS FALSE NEIGHBOUR: 'it returns false'. Refute it at one input. -/
def tupleAllowsWrong : ChangeSpec := { name := "tupleAllows", fn := fun _ => fun
  | [d1, d2] => { results := [.lit (.bool false)], args := [d1, d2] }
  | _ => none }
def TupleAllowsWrongFalsely : Prop := tupleAllowsRow.holds Try.pinned (OpenSpec.ofChange tupleAllowsWrong)

/-- 'conciergelaw13.TupleKeys': WHATEVER THE INPUT: true; the input reads as it did. -/
def tupleKeysSpec : ChangeSpec := { name := "tupleKeys", fn := fun _ => fun
  | [d1, d2] => { results := [.lit (.bool true)], args := [d1, d2] }
  | _ => none }
def tupleKeysRow : OpenClaim := { program := "ytehabjiacgibpaa", sum := "67fc113acc0d91026eb979ffeb6dc41ce286b9d074d7d0830248970fd0da3613", func := "concierge/conciergelaw13.TupleKeys", spec := "tupleKeys", unfollowed := true, recurses := true, apart := false }
def TupleKeysSaid : Prop := tupleKeysRow.holds Try.pinned (OpenSpec.ofChange tupleKeysSpec)

/-- ITS FALSE NEIGHBOUR: 'it returns false'. Refute it at one input. -/
def tupleKeysWrong : ChangeSpec := { name := "tupleKeys", fn := fun _ => fun
  | [d1, d2] => { results := [.lit (.bool false)], args := [d1, d2] }
  | _ => none }
def TupleKeysWrongFalsely : Prop := tupleKeysRow.holds Try.pinned (OpenSpec.ofChange tupleKeysWrong)

/-- 'conciergelaw13.TupleReads': WHATEVER THE INPUT: true; the input reads as it did. -/
def tupleReadsSpec : ChangeSpec := { name := "tupleReads", fn := fun _ => fun
  | [d] => { results := [.lit (.bool true)], args := [d] }
  | _ => none }
def tupleReadsRow : OpenClaim := { program := "ytehabjiacgibpaa", sum := "67fc113acc0d91026eb979ffeb6dc41ce286b9d074d7d0830248970fd0da3613", func := "concierge/conciergelaw13.TupleReads", spec := "tupleReads", unfollowed := true, recurses := true, apart := false }
def TupleReadsSaid : Prop := tupleReadsRow.holds Try.pinned (OpenSpec.ofChange tupleReadsSpec)

/-- ITS FALSE NEIGHBOUR: 'it returns false'. Refute it at one input. -/
def tupleReadsWrong : ChangeSpec := { name := "tupleReads", fn := fun _ => fun
  | [d] => { results := [.lit (.bool false)], args := [d] }
  | _ => none }
def TupleReadsWrongFalsely : Prop := tupleReadsRow.holds Try.pinned (OpenSpec.ofChange tupleReadsWrong)

/-- 'conciergelaw13.TupleBack': WHATEVER THE INPUT: true; the input reads as it did. -/
def tupleBackSpec : ChangeSpec := { name := "tupleBack", fn := fun _ => fun
  | [d1, d2] => { results := [.lit (.bool true)], args := [d1, d2] }
  | _ => none }
def tupleBackRow : OpenClaim := { program := "ytehabjiacgibpaa", sum := "67fc113acc0d91026eb979ffeb6dc41ce286b9d074d7d0830248970fd0da3613", func := "concierge/conciergelaw13.TupleBack", spec := "tupleBack", unfollowed := true, recurses := true, apart := false }
def TupleBackSaid : Prop := tupleBackRow.holds Try.pinned (OpenSpec.ofChange tupleBackSpec)

/-- ITS FALSE NEIGHBOUR: 'it returns false'. Refute it at one input. -/
def tupleBackWrong : ChangeSpec := { name := "tupleBack", fn := fun _ => fun
  | [d1, d2] => { results := [.lit (.bool false)], args := [d1, d2] }
  | _ => none }
def TupleBackWrongFalsely : Prop := tupleBackRow.holds Try.pinned (OpenSpec.ofChange tupleBackWrong)

/-- 'conciergelaw13.TupleOrders': WHATEVER THE INPUT: true; the input reads as it did. -/
def tupleOrdersSpec : ChangeSpec := { name := "tupleOrders", fn := fun _ => fun
  | [d1, d2, d3, d4] => { results := [.lit (.bool true)], args := [d1, d2, d3, d4] }
  | _ => none }
def tupleOrdersRow : OpenClaim := { program := "ytehabjiacgibpaa", sum := "67fc113acc0d91026eb979ffeb6dc41ce286b9d074d7d0830248970fd0da3613", func := "concierge/conciergelaw13.TupleOrders", spec := "tupleOrders", unfollowed := true, recurses := true, apart := false }
def TupleOrdersSaid : Prop := tupleOrdersRow.holds Try.pinned (OpenSpec.ofChange tupleOrdersSpec)

/-- ITS FALSE NEIGHBOUR: 'it returns false'. Refute it at one input. -/
def tupleOrdersWrong : ChangeSpec := { name := "tupleOrders", fn := fun _ => fun
  | [d1, d2, d3, d4] => { results := [.lit (.bool false)], args := [d1, d2, d3, d4] }
  | _ => none }
def TupleOrdersWrongFalsely : Prop := tupleOrdersRow.holds Try.pinned (OpenSpec.ofChange tupleOrdersWrong)

/- THE SECOND FORM. 'bulk': how many values and letters a reading holds, each counted each time it is reached (what is shared counts as often as it is met; a slice's spare places count too). A statement '..UptoSaid' is the law's where the arguments, and the package variables that the reading takes, are together of bulk at most 1048576: NARROWER than '..Said'. Prove '..Said' where nothing that the law and all that it calls make is longer than what came in: it says more and counts as full. Else prove '..UptoSaid'. A law counts once. -/
mutual
def uptoBulk {H : Type} : DataW H → Nat
  | .lit (.string bytes) => bytes.length + 1
  | .lit _ => 1
  | .nil => 1
  | .ptr d => uptoBulk d + 1
  | .slice elems spare => uptoBulkAll elems + uptoBulkAll spare + 1
  | .agg parts => uptoBulkAll parts + 1
  | .iface _ d => uptoBulk d + 1
  | .map entries => uptoBulkEntries entries + 1
  | .held _ => 1
def uptoBulkAll {H : Type} : List (DataW H) → Nat
  | [] => 0
  | d :: r => uptoBulk d + uptoBulkAll r
def uptoBulkEntries {H : Type} : List (Lit × DataW H) → Nat
  | [] => 0
  | x :: r => uptoBulkEntry x + uptoBulkEntries r
def uptoBulkEntry {H : Type} : Lit × DataW H → Nat
  | (.string bytes, d) => bytes.length + uptoBulk d + 1
  | (_, d) => uptoBulk d + 1
 end
def uptoSmall : (H : Type) → List (DataW H) → Bool := fun _ ds => decide (uptoBulkAll ds ≤ 1048576)
def OpenSpec.upto (s : _root_.Go.ChangeSpec) : _root_.Go.OpenSpec := { _root_.Go.OpenSpec.ofChange s with cond := some uptoSmall }

/-- 'conciergelaw13.TupleAllows', WHERE WHAT IT READS IS OF BULK AT MOST 1048576: true; the input reads as it did. -/
def tupleAllowsUptoRow : OpenClaim := { program := "ytehabjiacgibpaa", sum := "67fc113acc0d91026eb979ffeb6dc41ce286b9d074d7d0830248970fd0da3613", func := "concierge/conciergelaw13.TupleAllows", spec := "tupleAllows", unfollowed := true, recurses := true, loops := true, apart := false, narrowed := true }
def TupleAllowsUptoSaid : Prop := tupleAllowsUptoRow.holds Try.pinned (OpenSpec.upto tupleAllowsSpec)

/-- 'conciergelaw13.TupleKeys', WHERE WHAT IT READS IS OF BULK AT MOST 1048576: true; the input reads as it did. -/
def tupleKeysUptoRow : OpenClaim := { program := "ytehabjiacgibpaa", sum := "67fc113acc0d91026eb979ffeb6dc41ce286b9d074d7d0830248970fd0da3613", func := "concierge/conciergelaw13.TupleKeys", spec := "tupleKeys", unfollowed := true, recurses := true, apart := false, narrowed := true }
def TupleKeysUptoSaid : Prop := tupleKeysUptoRow.holds Try.pinned (OpenSpec.upto tupleKeysSpec)

/-- 'conciergelaw13.TupleReads', WHERE WHAT IT READS IS OF BULK AT MOST 1048576: true; the input reads as it did. -/
def tupleReadsUptoRow : OpenClaim := { program := "ytehabjiacgibpaa", sum := "67fc113acc0d91026eb979ffeb6dc41ce286b9d074d7d0830248970fd0da3613", func := "concierge/conciergelaw13.TupleReads", spec := "tupleReads", unfollowed := true, recurses := true, apart := false, narrowed := true }
def TupleReadsUptoSaid : Prop := tupleReadsUptoRow.holds Try.pinned (OpenSpec.upto tupleReadsSpec)

/-- 'conciergelaw13.TupleBack', WHERE WHAT IT READS IS OF BULK AT MOST 1048576: true; the input reads as it did. -/
def tupleBackUptoRow : OpenClaim := { program := "ytehabjiacgibpaa", sum := "67fc113acc0d91026eb979ffeb6dc41ce286b9d074d7d0830248970fd0da3613", func := "concierge/conciergelaw13.TupleBack", spec := "tupleBack", unfollowed := true, recurses := true, apart := false, narrowed := true }
def TupleBackUptoSaid : Prop := tupleBackUptoRow.holds Try.pinned (OpenSpec.upto tupleBackSpec)

/-- 'conciergelaw13.TupleOrders', WHERE WHAT IT READS IS OF BULK AT MOST 1048576: true; the input reads as it did. -/
def tupleOrdersUptoRow : OpenClaim := { program := "ytehabjiacgibpaa", sum := "67fc113acc0d91026eb979ffeb6dc41ce286b9d074d7d0830248970fd0da3613", func := "concierge/conciergelaw13.TupleOrders", spec := "tupleOrders", unfollowed := true, recurses := true, apart := false, narrowed := true }
def TupleOrdersUptoSaid : Prop := tupleOrdersUptoRow.holds Try.pinned (OpenSpec.upto tupleOrdersSpec)

end Rows
end Go.Proofs.Ytehabjiacgibpaa
