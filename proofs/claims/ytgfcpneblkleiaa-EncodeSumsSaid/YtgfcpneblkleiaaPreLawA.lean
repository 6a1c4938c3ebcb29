/-
  The laws of package precode: awake; PrecodeRows, walked.
-/
import Derived.Test.YtgfcpneblkleiaaPreC
import Derived.Test.YtgfcpneblkleiaaPreRef
import Derived.Test.YtgfcpneblkleiaaRowsIn
namespace Go.Proofs.Ytgfcpneblkleiaa
open Go.ChangeShapes Go.WideShapes Go.ChangeAt Go.RowKit Go.Joins
set_option linter.unusedVariables false

end Go.Proofs.Ytgfcpneblkleiaa
