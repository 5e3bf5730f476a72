/-
  Contracts of Literal and Part.
-/
import Derived.Test.YtkgamkjdkapchaaCmF
namespace Go.Proofs.Ytkgamkjdkapchaa
set_option linter.unusedVariables false
set_option linter.unusedSimpArgs false
open Go Go.RowKit

end Go.Proofs.Ytkgamkjdkapchaa
