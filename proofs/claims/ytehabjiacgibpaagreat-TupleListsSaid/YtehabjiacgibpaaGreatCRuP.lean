/-
  All that is wrong with a schema but a cycle (conciergeref12's plain). Condition: the schema is there.
-/
import Derived.Test.YtehabjiacgibpaaGreatCRuN
namespace Go.Proofs.YtehabjiacgibpaaGreat
open Go.RowKit
end Go.Proofs.YtehabjiacgibpaaGreat
