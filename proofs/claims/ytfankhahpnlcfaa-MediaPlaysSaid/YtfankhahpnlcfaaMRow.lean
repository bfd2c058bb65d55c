/-
  OPENED: an argument that is an int.
-/
import Derived.Test.YtfankhahpnlcfaaRows
import Derived.Test.YtfankhahpnlcfaaMRead
import Derived.Lib.SmallJoins
import Derived.SizedLaws
import Derived.ChangeSame
import Derived.OpenShut
namespace Go.Proofs.Ytfankhahpnlcfaa
open Go.ChangeShapes Go.WideShapes Go.Deep Go.RowKit Go.Joins

section
variable {H : Type} {enc : TypeId × Value → H} {W : World}
theorem int_in {r : Reach} {b0 : Nat} {v : Value} {d : DataW H} {p : List MemPlace} (hv : Value.okWide Try.prog W r b0 3 v) (h : DataW.Trod enc Try.prog W 0 (fun _ => true) true 3 v d p) : ∃ z : Int, v = .int .i64 z ∧ Wf z := by
  obtain ⟨z, rfl⟩ := okWide_int Try.underlying3 hv
  obtain ⟨fuel, hf⟩ := h
  obtain ⟨z', hv, _, hw⟩ := DataW.trod_int Try.underlying3 hf
  simp [Value.cells] at hv
  subst hv
  exact ⟨_, rfl, Wf.of_lit hw⟩
end
end Go.Proofs.Ytfankhahpnlcfaa
