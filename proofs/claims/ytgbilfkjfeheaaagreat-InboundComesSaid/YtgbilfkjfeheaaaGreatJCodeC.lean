/-
 THE CONTRACTS of the code that InboundComes reaches.
-/
import Derived.Test.YtgbilfkjfeheaaaGreatJCodeB
namespace Go.Proofs.YtgbilfkjfeheaaaGreat
set_option linter.unusedVariables false
open Go.RowKit

theorem cons : Cons := cons0
end Go.Proofs.YtgbilfkjfeheaaaGreat
