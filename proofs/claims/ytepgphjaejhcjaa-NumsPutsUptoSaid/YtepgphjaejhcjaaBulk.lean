/-
  WHAT THE ROW's BOUND ('bulk') SAYS of a text and of a slice of plain values.
-/
import Derived.Test.YtepgphjaejhcjaaRows
namespace Go.Proofs.Ytepgphjaejhcjaa.bulks
variable {H : Type}

theorem bound {l : List (DataW H)} (hk : Rows.uptoSmall H l = true) : Rows.uptoBulkAll l ≤ 1048576 := of_decide_eq_true hk
theorem string_eq (b : List UInt8) : Rows.uptoBulk (.lit (.string b) : DataW H) = b.length + 1 := rfl
/-- Every value weighs something: so a list weighs no less than its length. -/
theorem pos (d : DataW H) : 0 < Rows.uptoBulk d := by
  cases d
  case lit l => cases l <;> simp [Rows.uptoBulk]
  all_goals simp [Rows.uptoBulk]
theorem length_le : ∀ l : List (DataW H), l.length ≤ Rows.uptoBulkAll l
  | [] => Nat.zero_le _
  | d :: t => by
    have h1 := length_le t
    have h2 := pos d
    simp only [List.length_cons, Rows.uptoBulkAll]
    omega
theorem slice_le (x y : List (DataW H)) : x.length + y.length + 1 ≤ Rows.uptoBulk (.slice x y) := by
  have h1 := length_le x
  have h2 := length_le y
  simp only [Rows.uptoBulk]
  omega
end Go.Proofs.Ytepgphjaejhcjaa.bulks
