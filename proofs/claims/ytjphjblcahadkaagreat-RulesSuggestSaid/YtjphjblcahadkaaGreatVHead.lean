/-
  What the texts of both seats want of what only one has.
-/
import Derived.Test.YtjphjblcahadkaaGreatHKept
namespace Go.Proofs.YtjphjblcahadkaaGreat
theorem vhead : True := trivial
end Go.Proofs.YtjphjblcahadkaaGreat
