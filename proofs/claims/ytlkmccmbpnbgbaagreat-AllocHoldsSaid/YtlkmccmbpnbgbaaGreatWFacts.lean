/-
 WHAT IS TAKEN, SUMMED UP: no more than is asked for and than is open; no quant twice. (IndexTakes.)
-/
import Derived.Test.YtlkmccmbpnbgbaaGreatWPl
namespace Go.Proofs.YtlkmccmbpnbgbaaGreat
set_option linter.unusedVariables false
open Go.RowKit
open Pl (firstG findG putG It)

namespace Pl
theorem cutN_pre {fr : Nat → Int} : ∀ (l : List Nat) (q : Int), ((cutN fr l q).map Prod.fst) <+: l
 | [], q => by simp [cutN]
 | i :: l, q => by
  unfold cutN
  by_cases hq : q ≤ 0
  · rw [if_pos hq]; simp
  · rw [if_neg hq]
    simp only [List.map_cons]
    exact List.cons_prefix_cons.2 ⟨rfl, cutN_pre l _⟩
theorem cutN_len {fr : Nat → Int} (l : List Nat) (q : Int) : (cutN fr l q).length ≤ l.length := by
 have := (cutN_pre (fr := fr) l q).length_le
 simpa using this
end Pl
end Go.Proofs.YtlkmccmbpnbgbaaGreat
