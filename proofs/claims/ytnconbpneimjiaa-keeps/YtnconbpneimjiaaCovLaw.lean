/-
  P7: the law Covers.
-/
import Derived.Test.YtnconbpneimjiaaCovErr
import Derived.Test.YtnconbpneimjiaaCovRefC
namespace Go.Proofs.Ytnconbpneimjiaa
open Go.RowKit Go.PlainAid

end Go.Proofs.Ytnconbpneimjiaa
