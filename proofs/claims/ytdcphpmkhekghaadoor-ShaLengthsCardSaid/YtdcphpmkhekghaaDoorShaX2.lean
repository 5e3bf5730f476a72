/-
  The constants: a quarter of the cube roots.
-/
import Derived.Test.YtdcphpmkhekghaaDoorShaX0
namespace Go.Proofs.YtdcphpmkhekghaaDoor
set_option linter.unusedVariables false
set_option linter.unusedSimpArgs false
open Go Go.RowKit

theorem ball1 : ((P64.drop 16).take 16).map (fun p => bis p true 40) = (R64.drop 16).take 16 := by decide +kernel
end Go.Proofs.YtdcphpmkhekghaaDoor
