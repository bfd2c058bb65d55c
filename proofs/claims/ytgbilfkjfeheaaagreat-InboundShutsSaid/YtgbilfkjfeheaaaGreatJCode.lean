/-
 THE CONTRACTS of the code that InboundAnnounces, InboundShuts, InboundTakes reach.
-/
import Derived.Test.YtgbilfkjfeheaaaGreatJCodeB
import Derived.Test.YtgbilfkjfeheaaaGreatKAnn
import Derived.Test.YtgbilfkjfeheaaaGreatJConA
namespace Go.Proofs.YtgbilfkjfeheaaaGreat
set_option linter.unusedVariables false
open Go.RowKit

theorem cons : ConsA := ⟨cons0, fun h L ls w hh hf => clines h L ls w hh hf, fun h L cs w hh hf hm h6 hc => cann h L cs w hh hf hm (by omega) hc, fun h L s w hh h6 hc => cshut h L s w hh (by omega) hc⟩
end Go.Proofs.YtgbilfkjfeheaaaGreat
