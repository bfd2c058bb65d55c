/-
 APPEND onto an own row that keeps every other block (of wip/units XUSplit).
-/
import Derived.Test.YtlkmccmbpnbgbaaGreatGT
namespace Go.Proofs.YtlkmccmbpnbgbaaGreat
set_option linter.unusedVariables false
open Go.RowKit

section
variable {P : Program}
end
end Go.Proofs.YtlkmccmbpnbgbaaGreat
