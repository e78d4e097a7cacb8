/-
  NARROWER THAN 'FOR EVERY INPUT', by the rows' own cells (each row's printed sentence says how): LangPrints: loops · LangBack: loops.
  DERIVED. THE GIVEN ROWS OF THIS SEAT. 5 by the template 'for every input the law returns true; each argument reads behind the call as it read before'; 0 by the template 'total and deterministic' (their statements: YtpiaiibobjlipaaTotals.lean).
  GIVEN WITH THE SEED: the statements are not yours to turn. If you find one false, say at which input.
  Laid BY PROGRAM, IN A SANDBOX (cutbox-rows.mjs): the forced cells as the released guide's own fill.sh prints them over the translation 03c3b1b158906699… (all of the seat's roots in one cut). By AI agents, Wed Nov 11 2026. No macro, syntax, notation, axiom, sorry.
-/
import Derived.Test.YtpiaiibobjlipaaChecked
import GoSem.Claim
import GoSem.ClaimJoined
import GoSem.ClaimMapViews
import Derived.JoinedTies
import Derived.KernelRfl
namespace Go.Proofs.Ytpiaiibobjlipaa
/- THE CELL 'sum', in the pinned program and in every row, IS THE sha256 OF THE DUMP (.gsa) THAT YtpiaiibobjlipaaProg.lean LOADS. Nothing in Lean hashes anything: it is a label: what it is worth is what the hold of that sum in a sandbox is worth. -/
noncomputable def Try.pinned : Pinned := { name := "ytpiaiibobjlipaa", sum := "03c3b1b158906699e1e79621f9f0bcf3a85c1fedfeaac599640b835b25a9bcb8", checked := Try.checked }
namespace Rows
def none {H : Type} : Left H := { results := [], args := [] }

/-- 'conciergelaw11.LangParses': WHATEVER THE INPUT: true; the input reads as it did. -/
def langParsesSpec : ChangeSpec := { name := "langParses", fn := fun _ => fun
  | [d] => { results := [.lit (.bool true)], args := [d] }
  | _ => none }
def langParsesRow : OpenClaim := { program := "ytpiaiibobjlipaa", sum := "03c3b1b158906699e1e79621f9f0bcf3a85c1fedfeaac599640b835b25a9bcb8", func := "concierge/conciergelaw11.LangParses", spec := "langParses", inPlace := ["internal/bytealg.CountString", "internal/bytealg.IndexByteString", "internal/bytealg.IndexString"], unfollowed := true, recurses := true, named := ["internal/bytealg.MaxLen"], apart := false }
def LangParsesSaid : Prop := langParsesRow.holds Try.pinned (OpenSpec.ofChange langParsesSpec)

/-- ITS FALSE NEIGHBOUR: 'it returns false'. Refute it at one input. -/
def langParsesWrong : ChangeSpec := { name := "langParses", fn := fun _ => fun
  | [d] => { results := [.lit (.bool false)], args := [d] }
  | _ => none }
def LangParsesWrongFalsely : Prop := langParsesRow.holds Try.pinned (OpenSpec.ofChange langParsesWrong)

/-- 'conciergelaw11.LangPrints': WHATEVER THE INPUT: true; the input reads as it did. -/
def langPrintsSpec : ChangeSpec := { name := "langPrints", fn := fun _ => fun
  | [d1, d2] => { results := [.lit (.bool true)], args := [d1, d2] }
  | _ => none }
def langPrintsRow : OpenClaim := { program := "ytpiaiibobjlipaa", sum := "03c3b1b158906699e1e79621f9f0bcf3a85c1fedfeaac599640b835b25a9bcb8", func := "concierge/conciergelaw11.LangPrints", spec := "langPrints", inPlace := ["internal/bytealg.CountString", "internal/bytealg.IndexByteString", "internal/bytealg.IndexString", "internal/abi.NoEscape", "internal/bytealg.MakeNoZero"], unfollowed := true, recurses := true, named := ["internal/bytealg.MaxLen"], loops := true, apart := false }
def LangPrintsSaid : Prop := langPrintsRow.holds Try.pinned (OpenSpec.ofChange langPrintsSpec)

/-- ITS FALSE NEIGHBOUR: 'it returns false'. Refute it at one input. -/
def langPrintsWrong : ChangeSpec := { name := "langPrints", fn := fun _ => fun
  | [d1, d2] => { results := [.lit (.bool false)], args := [d1, d2] }
  | _ => none }
def LangPrintsWrongFalsely : Prop := langPrintsRow.holds Try.pinned (OpenSpec.ofChange langPrintsWrong)

/-- 'conciergelaw11.LangBack': WHATEVER THE INPUT: true; the input reads as it did. -/
def langBackSpec : ChangeSpec := { name := "langBack", fn := fun _ => fun
  | [d] => { results := [.lit (.bool true)], args := [d] }
  | _ => none }
def langBackRow : OpenClaim := { program := "ytpiaiibobjlipaa", sum := "03c3b1b158906699e1e79621f9f0bcf3a85c1fedfeaac599640b835b25a9bcb8", func := "concierge/conciergelaw11.LangBack", spec := "langBack", inPlace := ["internal/bytealg.CountString", "internal/bytealg.IndexByteString", "internal/bytealg.IndexString", "internal/abi.NoEscape", "internal/bytealg.MakeNoZero"], unfollowed := true, recurses := true, named := ["internal/bytealg.MaxLen"], loops := true, apart := false }
def LangBackSaid : Prop := langBackRow.holds Try.pinned (OpenSpec.ofChange langBackSpec)

/-- ITS FALSE NEIGHBOUR: 'it returns false'. Refute it at one input. -/
def langBackWrong : ChangeSpec := { name := "langBack", fn := fun _ => fun
  | [d] => { results := [.lit (.bool false)], args := [d] }
  | _ => none }
def LangBackWrongFalsely : Prop := langBackRow.holds Try.pinned (OpenSpec.ofChange langBackWrong)

/-- 'conciergelaw11.LangAgain': WHATEVER THE INPUT: true; the input reads as it did. -/
def langAgainSpec : ChangeSpec := { name := "langAgain", fn := fun _ => fun
  | [d] => { results := [.lit (.bool true)], args := [d] }
  | _ => none }
def langAgainRow : OpenClaim := { program := "ytpiaiibobjlipaa", sum := "03c3b1b158906699e1e79621f9f0bcf3a85c1fedfeaac599640b835b25a9bcb8", func := "concierge/conciergelaw11.LangAgain", spec := "langAgain", inPlace := ["internal/bytealg.CountString", "internal/bytealg.IndexByteString", "internal/bytealg.IndexString", "internal/abi.NoEscape", "internal/bytealg.MakeNoZero"], unfollowed := true, recurses := true, named := ["internal/bytealg.MaxLen"], apart := false }
def LangAgainSaid : Prop := langAgainRow.holds Try.pinned (OpenSpec.ofChange langAgainSpec)

/-- ITS FALSE NEIGHBOUR: 'it returns false'. Refute it at one input. -/
def langAgainWrong : ChangeSpec := { name := "langAgain", fn := fun _ => fun
  | [d] => { results := [.lit (.bool false)], args := [d] }
  | _ => none }
def LangAgainWrongFalsely : Prop := langAgainRow.holds Try.pinned (OpenSpec.ofChange langAgainWrong)

/-- 'conciergelaw11.LangBrackets': WHATEVER THE INPUT: true; the input reads as it did. -/
def langBracketsSpec : ChangeSpec := { name := "langBrackets", fn := fun _ => fun
  | [d] => { results := [.lit (.bool true)], args := [d] }
  | _ => none }
def langBracketsRow : OpenClaim := { program := "ytpiaiibobjlipaa", sum := "03c3b1b158906699e1e79621f9f0bcf3a85c1fedfeaac599640b835b25a9bcb8", func := "concierge/conciergelaw11.LangBrackets", spec := "langBrackets", inPlace := ["internal/bytealg.CountString", "internal/bytealg.IndexByteString", "internal/bytealg.IndexString"], unfollowed := true, recurses := true, named := ["internal/bytealg.MaxLen"], apart := false }
def LangBracketsSaid : Prop := langBracketsRow.holds Try.pinned (OpenSpec.ofChange langBracketsSpec)

/-- ITS FALSE NEIGHBOUR: 'it returns false'. Refute it at one input. -/
def langBracketsWrong : ChangeSpec := { name := "langBrackets", fn := fun _ => fun
  | [d] => { results := [.lit (.bool false)], args := [d] }
  | _ => none }
def LangBracketsWrongFalsely : Prop := langBracketsRow.holds Try.pinned (OpenSpec.ofChange langBracketsWrong)

/- THE SECOND FORM. 'bulk': how many values and letters a reading holds, each counted each time it is reached (what is shared counts as often as it is met; a slice's spare places count too). A statement '..UptoSaid' is the law's where the arguments, and the package variables that the reading takes, are together of bulk at most 1048576: NARROWER than '..Said'. Prove '..Said' where nothing that the law and all that it calls make is longer than what came in: it says more and counts as full. Else prove '..UptoSaid'. A law counts once. -/
mutual
def uptoBulk {H : Type} : DataW H → Nat
  | .lit (.string bytes) => bytes.length + 1
  | .lit _ => 1
  | .nil => 1
  | .ptr d => uptoBulk d + 1
  | .slice elems spare => uptoBulkAll elems + uptoBulkAll spare + 1
  | .agg parts => uptoBulkAll parts + 1
  | .iface _ d => uptoBulk d + 1
  | .map entries => uptoBulkEntries entries + 1
  | .held _ => 1
def uptoBulkAll {H : Type} : List (DataW H) → Nat
  | [] => 0
  | d :: r => uptoBulk d + uptoBulkAll r
def uptoBulkEntries {H : Type} : List (Lit × DataW H) → Nat
  | [] => 0
  | x :: r => uptoBulkEntry x + uptoBulkEntries r
def uptoBulkEntry {H : Type} : Lit × DataW H → Nat
  | (.string bytes, d) => bytes.length + uptoBulk d + 1
  | (_, d) => uptoBulk d + 1
 end
def uptoSmall : (H : Type) → List (DataW H) → Bool := fun _ ds => decide (uptoBulkAll ds ≤ 1048576)
def OpenSpec.upto (s : _root_.Go.ChangeSpec) : _root_.Go.OpenSpec := { _root_.Go.OpenSpec.ofChange s with cond := some uptoSmall }

/-- 'conciergelaw11.LangParses', WHERE WHAT IT READS IS OF BULK AT MOST 1048576: true; the input reads as it did. -/
def langParsesUptoRow : OpenClaim := { program := "ytpiaiibobjlipaa", sum := "03c3b1b158906699e1e79621f9f0bcf3a85c1fedfeaac599640b835b25a9bcb8", func := "concierge/conciergelaw11.LangParses", spec := "langParses", inPlace := ["internal/bytealg.CountString", "internal/bytealg.IndexByteString", "internal/bytealg.IndexString"], unfollowed := true, recurses := true, named := ["internal/bytealg.MaxLen"], apart := false, narrowed := true }
def LangParsesUptoSaid : Prop := langParsesUptoRow.holds Try.pinned (OpenSpec.upto langParsesSpec)

/-- 'conciergelaw11.LangPrints', WHERE WHAT IT READS IS OF BULK AT MOST 1048576: true; the input reads as it did. -/
def langPrintsUptoRow : OpenClaim := { program := "ytpiaiibobjlipaa", sum := "03c3b1b158906699e1e79621f9f0bcf3a85c1fedfeaac599640b835b25a9bcb8", func := "concierge/conciergelaw11.LangPrints", spec := "langPrints", inPlace := ["internal/bytealg.CountString", "internal/bytealg.IndexByteString", "internal/bytealg.IndexString", "internal/abi.NoEscape", "internal/bytealg.MakeNoZero"], unfollowed := true, recurses := true, named := ["internal/bytealg.MaxLen"], loops := true, apart := false, narrowed := true }
def LangPrintsUptoSaid : Prop := langPrintsUptoRow.holds Try.pinned (OpenSpec.upto langPrintsSpec)

/-- 'conciergelaw11.LangBack', WHERE WHAT IT READS IS OF BULK AT MOST 1048576: true; the input reads as it did. -/
def langBackUptoRow : OpenClaim := { program := "ytpiaiibobjlipaa", sum := "03c3b1b158906699e1e79621f9f0bcf3a85c1fedfeaac599640b835b25a9bcb8", func := "concierge/conciergelaw11.LangBack", spec := "langBack", inPlace := ["internal/bytealg.CountString", "internal/bytealg.IndexByteString", "internal/bytealg.IndexString", "internal/abi.NoEscape", "internal/bytealg.MakeNoZero"], unfollowed := true, recurses := true, named := ["internal/bytealg.MaxLen"], loops := true, apart := false, narrowed := true }
def LangBackUptoSaid : Prop := langBackUptoRow.holds Try.pinned (OpenSpec.upto langBackSpec)

/-- 'conciergelaw11.LangAgain', WHERE WHAT IT READS IS OF BULK AT MOST 1048576: true; the input reads as it did. -/
def langAgainUptoRow : OpenClaim := { program := "ytpiaiibobjlipaa", sum := "03c3b1b158906699e1e79621f9f0bcf3a85c1fedfeaac599640b835b25a9bcb8", func := "concierge/conciergelaw11.LangAgain", spec := "langAgain", inPlace := ["internal/bytealg.CountString", "internal/bytealg.IndexByteString", "internal/bytealg.IndexString", "internal/abi.NoEscape", "internal/bytealg.MakeNoZero"], unfollowed := true, recurses := true, named := ["internal/bytealg.MaxLen"], apart := false, narrowed := true }
def LangAgainUptoSaid : Prop := langAgainUptoRow.holds Try.pinned (OpenSpec.upto langAgainSpec)

/-- 'conciergelaw11.LangBrackets', WHERE WHAT IT READS IS OF BULK AT MOST 1048576: true; the input reads as it did. -/
def langBracketsUptoRow : OpenClaim := { program := "ytpiaiibobjlipaa", sum := "03c3b1b158906699e1e79621f9f0bcf3a85c1fedfeaac599640b835b25a9bcb8", func := "concierge/conciergelaw11.LangBrackets", spec := "langBrackets", inPlace := ["internal/bytealg.CountString", "internal/bytealg.IndexByteString", "internal/bytealg.IndexString"], unfollowed := true, recurses := true, named := ["internal/bytealg.MaxLen"], apart := false, narrowed := true }
def LangBracketsUptoSaid : Prop := langBracketsUptoRow.holds Try.pinned (OpenSpec.upto langBracketsSpec)

end Rows
end Go.Proofs.Ytpiaiibobjlipaa
