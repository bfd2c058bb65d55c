/-
 THE CONTRACTS of the code that InboundReceives reaches.
-/
import Derived.Test.YtgbilfkjfeheaaaGreatJCodeB
import Derived.Test.YtgbilfkjfeheaaaGreatJConA
namespace Go.Proofs.YtgbilfkjfeheaaaGreat
set_option linter.unusedVariables false
open Go.RowKit

theorem cons : ConsR := ⟨cons0⟩
end Go.Proofs.YtgbilfkjfeheaaaGreat
