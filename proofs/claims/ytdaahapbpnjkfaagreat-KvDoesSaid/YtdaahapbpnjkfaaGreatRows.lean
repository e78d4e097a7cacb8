/-
  No cell of these rows narrows 'for every input' (looked for: loops, veiled, ifaces, maps, wideKeys, modest, calm, conditions, laid).
  DERIVED. THE GIVEN ROWS OF THIS SEAT. 6 by the template 'for every input the law returns true; each argument reads behind the call as it read before'; 0 by the template 'total and deterministic' (their statements: YtdaahapbpnjkfaaGreatTotals.lean).
  GIVEN WITH THE SEED: the statements are not yours to turn. If you find one false, say at which input.
  Laid BY PROGRAM, IN A SANDBOX (cutbox-rows.mjs): the forced cells as the released guide's own fill.sh prints them over the translation 7932ddd3b40a96a4… (all of the seat's roots in one cut). By AI agents, Wed Nov 11 2026. No macro, syntax, notation, axiom, sorry.
-/
import Derived.Test.YtdaahapbpnjkfaaGreatChecked
import GoSem.Claim
import GoSem.ClaimJoined
import GoSem.ClaimMapViews
import Derived.JoinedTies
import Derived.KernelRfl
namespace Go.Proofs.YtdaahapbpnjkfaaGreat
/- THE CELL 'sum', in the pinned program and in every row, IS THE sha256 OF THE DUMP (.gsa) THAT YtdaahapbpnjkfaaGreatProg.lean LOADS. Nothing in Lean hashes anything: it is a label: what it is worth is what the hold of that sum in a sandbox is worth. -/
noncomputable def Tryz.pinned : Pinned := { name := "ytdaahapbpnjkfaagreat", sum := "7932ddd3b40a96a4fab34bffb846778475c21844c490564ac58e4c963f18e72b", checked := Tryz.checked }
namespace Rows
def none {H : Type} : Left H := { results := [], args := [] }

/-- 'conciergelaw09.KvDoes': WHATEVER THE INPUT: true; the input reads as it did. -/
def kvDoesSpec : ChangeSpec := { name := "kvDoes", fn := fun _ => fun
  | [d1, d2] => { results := [.lit (.bool true)], args := [d1, d2] }
  | _ => none }
def kvDoesRow : OpenClaim := { program := "ytdaahapbpnjkfaagreat", sum := "7932ddd3b40a96a4fab34bffb846778475c21844c490564ac58e4c963f18e72b", func := "concierge/conciergelaw09.KvDoes", spec := "kvDoes", inPlace := ["internal/bytealg.Compare"], unfollowed := true, recurses := true, apart := false }
def KvDoesSaid : Prop := kvDoesRow.holds Tryz.pinned (OpenSpec.ofChange kvDoesSpec)

/-- ITS FALSE NEIGHBOUR: 'it returns false'. Refute it at one input. -/
def kvDoesWrong : ChangeSpec := { name := "kvDoes", fn := fun _ => fun
  | [d1, d2] => { results := [.lit (.bool false)], args := [d1, d2] }
  | _ => none }
def KvDoesWrongFalsely : Prop := kvDoesRow.holds Tryz.pinned (OpenSpec.ofChange kvDoesWrong)

/-- 'conciergelaw09.KvWhole': WHATEVER THE INPUT: true; the input reads as it did. -/
def kvWholeSpec : ChangeSpec := { name := "kvWhole", fn := fun _ => fun
  | [d1, d2, d3, d4, d5] => { results := [.lit (.bool true)], args := [d1, d2, d3, d4, d5] }
  | _ => none }
def kvWholeRow : OpenClaim := { program := "ytdaahapbpnjkfaagreat", sum := "7932ddd3b40a96a4fab34bffb846778475c21844c490564ac58e4c963f18e72b", func := "concierge/conciergelaw09.KvWhole", spec := "kvWhole", inPlace := ["internal/bytealg.Compare"], unfollowed := true, recurses := true, apart := false }
def KvWholeSaid : Prop := kvWholeRow.holds Tryz.pinned (OpenSpec.ofChange kvWholeSpec)

/-- ITS FALSE NEIGHBOUR: 'it returns false'. Refute it at one input. -/
def kvWholeWrong : ChangeSpec := { name := "kvWhole", fn := fun _ => fun
  | [d1, d2, d3, d4, d5] => { results := [.lit (.bool false)], args := [d1, d2, d3, d4, d5] }
  | _ => none }
def KvWholeWrongFalsely : Prop := kvWholeRow.holds Tryz.pinned (OpenSpec.ofChange kvWholeWrong)

/-- 'conciergelaw09.KvAgain': WHATEVER THE INPUT: true; the input reads as it did. -/
def kvAgainSpec : ChangeSpec := { name := "kvAgain", fn := fun _ => fun
  | [d1, d2, d3] => { results := [.lit (.bool true)], args := [d1, d2, d3] }
  | _ => none }
def kvAgainRow : OpenClaim := { program := "ytdaahapbpnjkfaagreat", sum := "7932ddd3b40a96a4fab34bffb846778475c21844c490564ac58e4c963f18e72b", func := "concierge/conciergelaw09.KvAgain", spec := "kvAgain", inPlace := ["internal/bytealg.Compare"], unfollowed := true, recurses := true, apart := false }
def KvAgainSaid : Prop := kvAgainRow.holds Tryz.pinned (OpenSpec.ofChange kvAgainSpec)

/-- ITS FALSE NEIGHBOUR: 'it returns false'. Refute it at one input. -/
def kvAgainWrong : ChangeSpec := { name := "kvAgain", fn := fun _ => fun
  | [d1, d2, d3] => { results := [.lit (.bool false)], args := [d1, d2, d3] }
  | _ => none }
def KvAgainWrongFalsely : Prop := kvAgainRow.holds Tryz.pinned (OpenSpec.ofChange kvAgainWrong)

/-- 'conciergelaw09.KvFull': WHATEVER THE INPUT: true; the input reads as it did. -/
def kvFullSpec : ChangeSpec := { name := "kvFull", fn := fun _ => fun
  | [d1, d2, d3] => { results := [.lit (.bool true)], args := [d1, d2, d3] }
  | _ => none }
def kvFullRow : OpenClaim := { program := "ytdaahapbpnjkfaagreat", sum := "7932ddd3b40a96a4fab34bffb846778475c21844c490564ac58e4c963f18e72b", func := "concierge/conciergelaw09.KvFull", spec := "kvFull", inPlace := ["internal/bytealg.Compare"], unfollowed := true, recurses := true, apart := false }
def KvFullSaid : Prop := kvFullRow.holds Tryz.pinned (OpenSpec.ofChange kvFullSpec)

/-- ITS FALSE NEIGHBOUR: 'it returns false'. Refute it at one input. -/
def kvFullWrong : ChangeSpec := { name := "kvFull", fn := fun _ => fun
  | [d1, d2, d3] => { results := [.lit (.bool false)], args := [d1, d2, d3] }
  | _ => none }
def KvFullWrongFalsely : Prop := kvFullRow.holds Tryz.pinned (OpenSpec.ofChange kvFullWrong)

/-- 'conciergelaw09.KvParts': WHATEVER THE INPUT: true; the input reads as it did. -/
def kvPartsSpec : ChangeSpec := { name := "kvParts", fn := fun _ => fun
  | [d1, d2, d3] => { results := [.lit (.bool true)], args := [d1, d2, d3] }
  | _ => none }
def kvPartsRow : OpenClaim := { program := "ytdaahapbpnjkfaagreat", sum := "7932ddd3b40a96a4fab34bffb846778475c21844c490564ac58e4c963f18e72b", func := "concierge/conciergelaw09.KvParts", spec := "kvParts", inPlace := ["internal/bytealg.Compare"], unfollowed := true, recurses := true, apart := false }
def KvPartsSaid : Prop := kvPartsRow.holds Tryz.pinned (OpenSpec.ofChange kvPartsSpec)

/-- ITS FALSE NEIGHBOUR: 'it returns false'. Refute it at one input. -/
def kvPartsWrong : ChangeSpec := { name := "kvParts", fn := fun _ => fun
  | [d1, d2, d3] => { results := [.lit (.bool false)], args := [d1, d2, d3] }
  | _ => none }
def KvPartsWrongFalsely : Prop := kvPartsRow.holds Tryz.pinned (OpenSpec.ofChange kvPartsWrong)

/-- 'conciergelaw09.KvTurns': WHATEVER THE INPUT: true; the input reads as it did. -/
def kvTurnsSpec : ChangeSpec := { name := "kvTurns", fn := fun _ => fun
  | [d1, d2] => { results := [.lit (.bool true)], args := [d1, d2] }
  | _ => none }
def kvTurnsRow : OpenClaim := { program := "ytdaahapbpnjkfaagreat", sum := "7932ddd3b40a96a4fab34bffb846778475c21844c490564ac58e4c963f18e72b", func := "concierge/conciergelaw09.KvTurns", spec := "kvTurns", inPlace := ["internal/bytealg.Compare"], unfollowed := true, recurses := true, apart := false }
def KvTurnsSaid : Prop := kvTurnsRow.holds Tryz.pinned (OpenSpec.ofChange kvTurnsSpec)

/-- ITS FALSE NEIGHBOUR: 'it returns false'. Refute it at one input. -/
def kvTurnsWrong : ChangeSpec := { name := "kvTurns", fn := fun _ => fun
  | [d1, d2] => { results := [.lit (.bool false)], args := [d1, d2] }
  | _ => none }
def KvTurnsWrongFalsely : Prop := kvTurnsRow.holds Tryz.pinned (OpenSpec.ofChange kvTurnsWrong)

/- THE SECOND FORM. 'bulk': how many values and letters a reading holds, each counted each time it is reached (what is shared counts as often as it is met; a slice's spare places count too). A statement '..UptoSaid' is the law's where the arguments, and the package variables that the reading takes, are together of bulk at most 1048576: NARROWER than '..Said'. Prove '..Said' where nothing that the law and all that it calls make is longer than what came in: it says more and counts as full. Else prove '..UptoSaid'. A law counts once. -/
mutual
def uptoBulk {H : Type} : DataW H → Nat
  | .lit (.string bytes) => bytes.length + 1
  | .lit _ => 1
  | .nil => 1
  | .ptr d => uptoBulk d + 1
  | .slice elems spare => uptoBulkAll elems + uptoBulkAll spare + 1
  | .agg parts => uptoBulkAll parts + 1
  | .iface _ d => uptoBulk d + 1
  | .map entries => uptoBulkEntries entries + 1
  | .held _ => 1
def uptoBulkAll {H : Type} : List (DataW H) → Nat
  | [] => 0
  | d :: r => uptoBulk d + uptoBulkAll r
def uptoBulkEntries {H : Type} : List (Lit × DataW H) → Nat
  | [] => 0
  | x :: r => uptoBulkEntry x + uptoBulkEntries r
def uptoBulkEntry {H : Type} : Lit × DataW H → Nat
  | (.string bytes, d) => bytes.length + uptoBulk d + 1
  | (_, d) => uptoBulk d + 1
 end
def uptoSmall : (H : Type) → List (DataW H) → Bool := fun _ ds => decide (uptoBulkAll ds ≤ 1048576)
def OpenSpec.upto (s : _root_.Go.ChangeSpec) : _root_.Go.OpenSpec := { _root_.Go.OpenSpec.ofChange s with cond := some uptoSmall }

/-- 'conciergelaw09.KvDoes', WHERE WHAT IT READS IS OF BULK AT MOST 1048576: true; the input reads as it did. -/
def kvDoesUptoRow : OpenClaim := { program := "ytdaahapbpnjkfaagreat", sum := "7932ddd3b40a96a4fab34bffb846778475c21844c490564ac58e4c963f18e72b", func := "concierge/conciergelaw09.KvDoes", spec := "kvDoes", inPlace := ["internal/bytealg.Compare"], unfollowed := true, recurses := true, apart := false, narrowed := true }
def KvDoesUptoSaid : Prop := kvDoesUptoRow.holds Tryz.pinned (OpenSpec.upto kvDoesSpec)

/-- 'conciergelaw09.KvWhole', WHERE WHAT IT READS IS OF BULK AT MOST 1048576: true; the input reads as it did. -/
def kvWholeUptoRow : OpenClaim := { program := "ytdaahapbpnjkfaagreat", sum := "7932ddd3b40a96a4fab34bffb846778475c21844c490564ac58e4c963f18e72b", func := "concierge/conciergelaw09.KvWhole", spec := "kvWhole", inPlace := ["internal/bytealg.Compare"], unfollowed := true, recurses := true, apart := false, narrowed := true }
def KvWholeUptoSaid : Prop := kvWholeUptoRow.holds Tryz.pinned (OpenSpec.upto kvWholeSpec)

/-- 'conciergelaw09.KvAgain', WHERE WHAT IT READS IS OF BULK AT MOST 1048576: true; the input reads as it did. -/
def kvAgainUptoRow : OpenClaim := { program := "ytdaahapbpnjkfaagreat", sum := "7932ddd3b40a96a4fab34bffb846778475c21844c490564ac58e4c963f18e72b", func := "concierge/conciergelaw09.KvAgain", spec := "kvAgain", inPlace := ["internal/bytealg.Compare"], unfollowed := true, recurses := true, apart := false, narrowed := true }
def KvAgainUptoSaid : Prop := kvAgainUptoRow.holds Tryz.pinned (OpenSpec.upto kvAgainSpec)

/-- 'conciergelaw09.KvFull', WHERE WHAT IT READS IS OF BULK AT MOST 1048576: true; the input reads as it did. -/
def kvFullUptoRow : OpenClaim := { program := "ytdaahapbpnjkfaagreat", sum := "7932ddd3b40a96a4fab34bffb846778475c21844c490564ac58e4c963f18e72b", func := "concierge/conciergelaw09.KvFull", spec := "kvFull", inPlace := ["internal/bytealg.Compare"], unfollowed := true, recurses := true, apart := false, narrowed := true }
def KvFullUptoSaid : Prop := kvFullUptoRow.holds Tryz.pinned (OpenSpec.upto kvFullSpec)

/-- 'conciergelaw09.KvParts', WHERE WHAT IT READS IS OF BULK AT MOST 1048576: true; the input reads as it did. -/
def kvPartsUptoRow : OpenClaim := { program := "ytdaahapbpnjkfaagreat", sum := "7932ddd3b40a96a4fab34bffb846778475c21844c490564ac58e4c963f18e72b", func := "concierge/conciergelaw09.KvParts", spec := "kvParts", inPlace := ["internal/bytealg.Compare"], unfollowed := true, recurses := true, apart := false, narrowed := true }
def KvPartsUptoSaid : Prop := kvPartsUptoRow.holds Tryz.pinned (OpenSpec.upto kvPartsSpec)

/-- 'conciergelaw09.KvTurns', WHERE WHAT IT READS IS OF BULK AT MOST 1048576: true; the input reads as it did. -/
def kvTurnsUptoRow : OpenClaim := { program := "ytdaahapbpnjkfaagreat", sum := "7932ddd3b40a96a4fab34bffb846778475c21844c490564ac58e4c963f18e72b", func := "concierge/conciergelaw09.KvTurns", spec := "kvTurns", inPlace := ["internal/bytealg.Compare"], unfollowed := true, recurses := true, apart := false, narrowed := true }
def KvTurnsUptoSaid : Prop := kvTurnsUptoRow.holds Tryz.pinned (OpenSpec.upto kvTurnsSpec)

end Rows
end Go.Proofs.YtdaahapbpnjkfaaGreat
