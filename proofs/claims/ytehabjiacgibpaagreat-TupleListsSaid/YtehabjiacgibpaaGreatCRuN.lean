/-
  The number of a type, of a relation; a relation by its names (conciergeref12's typ, rel, Find). Condition: the schema is there.
  What is wrong with an expression of a type (conciergeref12's expr). Conditions: the schema and the expression are there; the type's number is one.
  What is wrong with a relation of a type (conciergeref12's names). Conditions: the schema and the relation are there; the type's number is one.
-/
import Derived.Test.YtehabjiacgibpaaGreatCTpL
import Derived.Test.YtehabjiacgibpaaGreatCNmSub
namespace Go.Proofs.YtehabjiacgibpaaGreat
open Go.RowKit
end Go.Proofs.YtehabjiacgibpaaGreat
namespace Go.Proofs.YtehabjiacgibpaaGreat
open Go.RowKit
end Go.Proofs.YtehabjiacgibpaaGreat
namespace Go.Proofs.YtehabjiacgibpaaGreat
open Go.RowKit
end Go.Proofs.YtehabjiacgibpaaGreat
