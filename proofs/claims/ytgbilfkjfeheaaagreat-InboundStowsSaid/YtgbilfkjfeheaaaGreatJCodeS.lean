/-
 THE CONTRACTS of the code that InboundStows reaches.
-/
import Derived.Test.YtgbilfkjfeheaaaGreatJCodeB
import Derived.Test.YtgbilfkjfeheaaaGreatKStow
import Derived.Test.YtgbilfkjfeheaaaGreatJConA
namespace Go.Proofs.YtgbilfkjfeheaaaGreat
set_option linter.unusedVariables false
open Go.RowKit

theorem cons : ConsS := ⟨cons0, fun h L kb ki kl ks n w hh hn hc hk hq => cstow h L kb ki kl ks n w hh hn hc hk hq, fun h L s w hh => fcBin hh s⟩
end Go.Proofs.YtgbilfkjfeheaaaGreat
