/-
 The rows' FindNotice stands in OFind, where there is all of it.
-/
import Derived.Test.YtgbilfkjfeheaaaGreatOFind
namespace Go.Proofs.YtgbilfkjfeheaaaGreat
end Go.Proofs.YtgbilfkjfeheaaaGreat
