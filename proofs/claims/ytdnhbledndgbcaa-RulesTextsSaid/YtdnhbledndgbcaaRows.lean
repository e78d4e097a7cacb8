/-
  NARROWER THAN 'FOR EVERY INPUT', by the rows' own cells (each row's printed sentence says how): RulesFinds: loops · RulesStands: loops · RulesOrder: loops.
  DERIVED. THE GIVEN ROWS OF THIS SEAT. 4 by the template 'for every input the law returns true; each argument reads behind the call as it read before'; 0 by the template 'total and deterministic' (their statements: YtdnhbledndgbcaaTotals.lean).
  GIVEN WITH THE SEED: the statements are not yours to turn. If you find one false, say at which input.
  Laid BY PROGRAM, IN A SANDBOX (cutbox-rows.mjs): the forced cells as the released guide's own fill.sh prints them over the translation 4e6404d73cdaf185… (all of the seat's roots in one cut). By AI agents, Wed Nov 11 2026. No macro, syntax, notation, axiom, sorry.
-/
import Derived.Test.YtdnhbledndgbcaaChecked
import GoSem.Claim
import GoSem.ClaimJoined
import GoSem.ClaimMapViews
import Derived.JoinedTies
import Derived.KernelRfl
namespace Go.Proofs.Ytdnhbledndgbcaa
/- THE CELL 'sum', in the pinned program and in every row, IS THE sha256 OF THE DUMP (.gsa) THAT YtdnhbledndgbcaaProg.lean LOADS. Nothing in Lean hashes anything: it is a label: what it is worth is what the hold of that sum in a sandbox is worth. -/
noncomputable def Try.pinned : Pinned := { name := "ytdnhbledndgbcaa", sum := "4e6404d73cdaf185faa36349ebdb31d54a36c8fdec1ce9c6eb4e273607d764e2", checked := Try.checked }
namespace Rows
def none {H : Type} : Left H := { results := [], args := [] }

/-- 'conciergelaw12.RulesTexts': WHATEVER THE INPUT: true; the input reads as it did. -/
def rulesTextsSpec : ChangeSpec := { name := "rulesTexts", fn := fun _ => fun
  | [d] => { results := [.lit (.bool true)], args := [d] }
  | _ => none }
def rulesTextsRow : OpenClaim := { program := "ytdnhbledndgbcaa", sum := "4e6404d73cdaf185faa36349ebdb31d54a36c8fdec1ce9c6eb4e273607d764e2", func := "concierge/conciergelaw12.RulesTexts", spec := "rulesTexts", unfollowed := true, recurses := true, plainKeys := false, apart := false }
def RulesTextsSaid : Prop := rulesTextsRow.holds Try.pinned (OpenSpec.ofChange rulesTextsSpec)

/-- ITS FALSE NEIGHBOUR: 'it returns false'. Refute it at one input. -/
def rulesTextsWrong : ChangeSpec := { name := "rulesTexts", fn := fun _ => fun
  | [d] => { results := [.lit (.bool false)], args := [d] }
  | _ => none }
def RulesTextsWrongFalsely : Prop := rulesTextsRow.holds Try.pinned (OpenSpec.ofChange rulesTextsWrong)

/-- 'conciergelaw12.RulesFinds': WHATEVER THE INPUT: true; the input reads as it did. -/
def rulesFindsSpec : ChangeSpec := { name := "rulesFinds", fn := fun _ => fun
  | [d1, d2, d3] => { results := [.lit (.bool true)], args := [d1, d2, d3] }
  | _ => none }
def rulesFindsRow : OpenClaim := { program := "ytdnhbledndgbcaa", sum := "4e6404d73cdaf185faa36349ebdb31d54a36c8fdec1ce9c6eb4e273607d764e2", func := "concierge/conciergelaw12.RulesFinds", spec := "rulesFinds", unfollowed := true, recurses := true, loops := true, plainKeys := false, apart := false }
def RulesFindsSaid : Prop := rulesFindsRow.holds Try.pinned (OpenSpec.ofChange rulesFindsSpec)

/-- ITS FALSE NEIGHBOUR: 'it returns false'. Refute it at one input. -/
def rulesFindsWrong : ChangeSpec := { name := "rulesFinds", fn := fun _ => fun
  | [d1, d2, d3] => { results := [.lit (.bool false)], args := [d1, d2, d3] }
  | _ => none }
def RulesFindsWrongFalsely : Prop := rulesFindsRow.holds Try.pinned (OpenSpec.ofChange rulesFindsWrong)

/-- 'conciergelaw12.RulesStands': WHATEVER THE INPUT: true; the input reads as it did. -/
def rulesStandsSpec : ChangeSpec := { name := "rulesStands", fn := fun _ => fun
  | [d] => { results := [.lit (.bool true)], args := [d] }
  | _ => none }
def rulesStandsRow : OpenClaim := { program := "ytdnhbledndgbcaa", sum := "4e6404d73cdaf185faa36349ebdb31d54a36c8fdec1ce9c6eb4e273607d764e2", func := "concierge/conciergelaw12.RulesStands", spec := "rulesStands", unfollowed := true, recurses := true, loops := true, plainKeys := false, apart := false }
def RulesStandsSaid : Prop := rulesStandsRow.holds Try.pinned (OpenSpec.ofChange rulesStandsSpec)

/-- ITS FALSE NEIGHBOUR: 'it returns false'. Refute it at one input. -/
def rulesStandsWrong : ChangeSpec := { name := "rulesStands", fn := fun _ => fun
  | [d] => { results := [.lit (.bool false)], args := [d] }
  | _ => none }
def RulesStandsWrongFalsely : Prop := rulesStandsRow.holds Try.pinned (OpenSpec.ofChange rulesStandsWrong)

/-- 'conciergelaw12.RulesOrder': WHATEVER THE INPUT: true; the input reads as it did. -/
def rulesOrderSpec : ChangeSpec := { name := "rulesOrder", fn := fun _ => fun
  | [d1, d2] => { results := [.lit (.bool true)], args := [d1, d2] }
  | _ => none }
def rulesOrderRow : OpenClaim := { program := "ytdnhbledndgbcaa", sum := "4e6404d73cdaf185faa36349ebdb31d54a36c8fdec1ce9c6eb4e273607d764e2", func := "concierge/conciergelaw12.RulesOrder", spec := "rulesOrder", unfollowed := true, recurses := true, loops := true, plainKeys := false, apart := false }
def RulesOrderSaid : Prop := rulesOrderRow.holds Try.pinned (OpenSpec.ofChange rulesOrderSpec)

/-- ITS FALSE NEIGHBOUR: 'it returns false'. Refute it at one input. -/
def rulesOrderWrong : ChangeSpec := { name := "rulesOrder", fn := fun _ => fun
  | [d1, d2] => { results := [.lit (.bool false)], args := [d1, d2] }
  | _ => none }
def RulesOrderWrongFalsely : Prop := rulesOrderRow.holds Try.pinned (OpenSpec.ofChange rulesOrderWrong)

/- THE SECOND FORM. 'bulk': how many values and letters a reading holds, each counted each time it is reached (what is shared counts as often as it is met; a slice's spare places count too). A statement '..UptoSaid' is the law's where the arguments, and the package variables that the reading takes, are together of bulk at most 1048576: NARROWER than '..Said'. Prove '..Said' where nothing that the law and all that it calls make is longer than what came in: it says more and counts as full. Else prove '..UptoSaid'. A law counts once. -/
mutual
def uptoBulk {H : Type} : DataW H → Nat
  | .lit (.string bytes) => bytes.length + 1
  | .lit _ => 1
  | .nil => 1
  | .ptr d => uptoBulk d + 1
  | .slice elems spare => uptoBulkAll elems + uptoBulkAll spare + 1
  | .agg parts => uptoBulkAll parts + 1
  | .iface _ d => uptoBulk d + 1
  | .map entries => uptoBulkEntries entries + 1
  | .held _ => 1
def uptoBulkAll {H : Type} : List (DataW H) → Nat
  | [] => 0
  | d :: r => uptoBulk d + uptoBulkAll r
def uptoBulkEntries {H : Type} : List (Lit × DataW H) → Nat
  | [] => 0
  | x :: r => uptoBulkEntry x + uptoBulkEntries r
def uptoBulkEntry {H : Type} : Lit × DataW H → Nat
  | (.string bytes, d) => bytes.length + uptoBulk d + 1
  | (_, d) => uptoBulk d + 1
 end
def uptoSmall : (H : Type) → List (DataW H) → Bool := fun _ ds => decide (uptoBulkAll ds ≤ 1048576)
def OpenSpec.upto (s : _root_.Go.ChangeSpec) : _root_.Go.OpenSpec := { _root_.Go.OpenSpec.ofChange s with cond := some uptoSmall }

/-- 'conciergelaw12.RulesTexts', WHERE WHAT IT READS IS OF BULK AT MOST 1048576: true; the input reads as it did. -/
def rulesTextsUptoRow : OpenClaim := { program := "ytdnhbledndgbcaa", sum := "4e6404d73cdaf185faa36349ebdb31d54a36c8fdec1ce9c6eb4e273607d764e2", func := "concierge/conciergelaw12.RulesTexts", spec := "rulesTexts", unfollowed := true, recurses := true, plainKeys := false, apart := false, narrowed := true }
def RulesTextsUptoSaid : Prop := rulesTextsUptoRow.holds Try.pinned (OpenSpec.upto rulesTextsSpec)

/-- 'conciergelaw12.RulesFinds', WHERE WHAT IT READS IS OF BULK AT MOST 1048576: true; the input reads as it did. -/
def rulesFindsUptoRow : OpenClaim := { program := "ytdnhbledndgbcaa", sum := "4e6404d73cdaf185faa36349ebdb31d54a36c8fdec1ce9c6eb4e273607d764e2", func := "concierge/conciergelaw12.RulesFinds", spec := "rulesFinds", unfollowed := true, recurses := true, loops := true, plainKeys := false, apart := false, narrowed := true }
def RulesFindsUptoSaid : Prop := rulesFindsUptoRow.holds Try.pinned (OpenSpec.upto rulesFindsSpec)

/-- 'conciergelaw12.RulesStands', WHERE WHAT IT READS IS OF BULK AT MOST 1048576: true; the input reads as it did. -/
def rulesStandsUptoRow : OpenClaim := { program := "ytdnhbledndgbcaa", sum := "4e6404d73cdaf185faa36349ebdb31d54a36c8fdec1ce9c6eb4e273607d764e2", func := "concierge/conciergelaw12.RulesStands", spec := "rulesStands", unfollowed := true, recurses := true, loops := true, plainKeys := false, apart := false, narrowed := true }
def RulesStandsUptoSaid : Prop := rulesStandsUptoRow.holds Try.pinned (OpenSpec.upto rulesStandsSpec)

/-- 'conciergelaw12.RulesOrder', WHERE WHAT IT READS IS OF BULK AT MOST 1048576: true; the input reads as it did. -/
def rulesOrderUptoRow : OpenClaim := { program := "ytdnhbledndgbcaa", sum := "4e6404d73cdaf185faa36349ebdb31d54a36c8fdec1ce9c6eb4e273607d764e2", func := "concierge/conciergelaw12.RulesOrder", spec := "rulesOrder", unfollowed := true, recurses := true, loops := true, plainKeys := false, apart := false, narrowed := true }
def RulesOrderUptoSaid : Prop := rulesOrderUptoRow.holds Try.pinned (OpenSpec.upto rulesOrderSpec)

end Rows
end Go.Proofs.Ytdnhbledndgbcaa
