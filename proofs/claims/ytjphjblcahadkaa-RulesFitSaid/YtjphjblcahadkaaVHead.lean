/-
  What the texts of both seats want of what only one has.
-/
import Derived.Test.YtjphjblcahadkaaUHead
namespace Go.Proofs.Ytjphjblcahadkaa
theorem vhead : True := trivial
end Go.Proofs.Ytjphjblcahadkaa
