/-
  OPENED: arguments that are a lot, an int.
-/
import Derived.Test.YthliomckpfeekaaIRow
namespace Go.Proofs.Ythliomckpfeekaa
open Go.ChangeShapes Go.WideShapes Go.Deep Go.RowKit Go.Joins
set_option linter.unusedVariables false
set_option maxRecDepth 100000

/-- An int as a machine holds it. -/
def Wf (z : Int) : Prop := -9223372036854775808 ≤ z ∧ z ≤ 9223372036854775807
theorem wf_of {z : Int} (h : Mild (.int .i64 z)) : Wf z := by
  have h : (Lit.int .i64 z).wf = true := h
  have hlo : IntKind.i64.min = -9223372036854775808 := by decide
  have hhi : IntKind.i64.max = 9223372036854775807 := by decide
  simp [Lit.wf, hlo, hhi] at h; exact h
section
variable {H : Type} {enc : TypeId × Value → H} {W : World}
theorem lot_in {r : Reach} {b0 : Nat} {v : Value} {d : DataW H} {p : List MemPlace} (hv : Value.okWide Try.prog W r b0 39 v) (h : DataW.Trod enc Try.prog W 0 (fun _ => true) true 39 v d p) :
    ∃ cs : List Value, v = .agg cs.toArray ∧ Fits kLot cs ∧ ∀ u ∈ cs, Mild u := struct_in Try.underlying39 opLot hv h
theorem int_in {r : Reach} {b0 : Nat} {v : Value} {d : DataW H} {p : List MemPlace} (hv : Value.okWide Try.prog W r b0 3 v) (h : DataW.Trod enc Try.prog W 0 (fun _ => true) true 3 v d p) : ∃ z : Int, v = .int .i64 z ∧ Wf z := by
  obtain ⟨z, rfl⟩ := okWide_int Try.underlying3 hv
  obtain ⟨fuel, hf⟩ := h
  have := (opI).op hf
  exact ⟨z, rfl, wf_of (this.2 _ (by simp [Value.cells]))⟩
end
abbrev zeroLC : Array Value := #[.string ⟨#[]⟩, .string ⟨#[]⟩, .int .i64 0]
end Go.Proofs.Ythliomckpfeekaa
