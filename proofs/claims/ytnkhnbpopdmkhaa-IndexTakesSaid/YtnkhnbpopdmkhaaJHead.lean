/-
 WORDS for laws without Kept: a block as a range.
-/
import Derived.Test.YtnkhnbpopdmkhaaHSmall
namespace Go.Proofs.Ytnkhnbpopdmkhaa
set_option linter.unusedVariables false
open Go.RowKit

theorem range_row0 {w : World} {b : Nat} {cs : Array Value} {t : TypeId} (h : w.heap[b]? = some (.cells cs t (0, 0))) : w.rangeAt b 0 cs.toList := fun i v hv => by rw [cell_of_block h, Nat.zero_add]; simpa using hv
end Go.Proofs.Ytnkhnbpopdmkhaa
