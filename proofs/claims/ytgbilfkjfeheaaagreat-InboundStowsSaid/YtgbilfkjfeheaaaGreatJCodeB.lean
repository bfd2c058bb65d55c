/-
 THE CONTRACTS of the code of stage 14 that every law reaches: stock's Total, inbound's Receive.
-/
import Derived.Test.YtgbilfkjfeheaaaGreatKRecv
import Derived.Test.YtgbilfkjfeheaaaGreatKM
import Derived.Test.YtgbilfkjfeheaaaGreatJCon
namespace Go.Proofs.YtgbilfkjfeheaaaGreat
set_option linter.unusedVariables false
open Go.RowKit

theorem cons0 : Cons := ⟨fun h L s t w hh => ctotal h L s t w hh, fun h L x w hh h4 h6 h13 hc hn => crecv h L x.notice x.item x.unit x.n x.lot x.dock w hh h4 h6 h13 hc hn⟩
end Go.Proofs.YtgbilfkjfeheaaaGreat
