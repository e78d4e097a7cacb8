/-
  The first type, the first relation for which a closure answers an error; the first of two faults, of two errors. Conditions: the schema is there; the closure answers.
  cmp.Or of faults, of errors: the first that is not zero. Condition: the list is there.
-/
import Derived.Test.YtehabjiacgibpaaGreatCRuP
import Derived.Shelf.Abstract
namespace Go.Proofs.YtehabjiacgibpaaGreat
open Go.RowKit
end Go.Proofs.YtehabjiacgibpaaGreat
namespace Go.Proofs.YtehabjiacgibpaaGreat
open Go.RowKit
end Go.Proofs.YtehabjiacgibpaaGreat
