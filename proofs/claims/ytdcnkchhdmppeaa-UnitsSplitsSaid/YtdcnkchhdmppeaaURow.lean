/-
  OPENED: arguments that are an item, an int, an array of two ints.
-/
import Derived.Test.YtdcnkchhdmppeaaHOpens
import Derived.Deep.SlicePairs
import Derived.Lib.SmallJoins
import Derived.SizedLaws
import Derived.ChangeSame
import Derived.OpenShut
namespace Go.Proofs.Ytdcnkchhdmppeaa
open Go.ChangeShapes Go.WideShapes Go.Deep Go.RowKit Go.Joins
set_option linter.unusedVariables false
set_option maxRecDepth 100000

/-- An int as a machine holds it. -/
def Wf (z : Int) : Prop := -9223372036854775808 ≤ z ∧ z ≤ 9223372036854775807
theorem wf_of {z : Int} (h : Mild (.int .i64 z)) : Wf z := by
  have h : (Lit.int .i64 z).wf = true := h
  have hlo : IntKind.i64.min = -9223372036854775808 := by decide
  have hhi : IntKind.i64.max = 9223372036854775807 := by decide
  simp [Lit.wf, hlo, hhi] at h; exact h
section
variable {H : Type} {enc : TypeId × Value → H} {W : World}
theorem item_in {r : Reach} {b0 : Nat} {v : Value} {d : DataW H} {p : List MemPlace} (hv : Value.okWide Try.prog W r b0 26 v) (h : DataW.Trod enc Try.prog W 0 (fun _ => true) true 26 v d p) :
    ∃ cs : List Value, v = .agg cs.toArray ∧ Fits kItem cs ∧ ∀ u ∈ cs, Mild u := struct_in Try.underlying26 opItem hv h
theorem int_in {r : Reach} {b0 : Nat} {v : Value} {d : DataW H} {p : List MemPlace} (hv : Value.okWide Try.prog W r b0 3 v) (h : DataW.Trod enc Try.prog W 0 (fun _ => true) true 3 v d p) : ∃ z : Int, v = .int .i64 z ∧ Wf z := by
  obtain ⟨z, rfl⟩ := okWide_int Try.underlying3 hv
  obtain ⟨fuel, hf⟩ := h
  have := (opI).op hf
  exact ⟨z, rfl, wf_of (this.2 _ (by simp [Value.cells]))⟩
theorem two_in {r : Reach} {b0 : Nat} {v : Value} {d : DataW H} {p : List MemPlace} (hv : Value.okWide Try.prog W r b0 38 v) (h : DataW.Trod enc Try.prog W 0 (fun _ => true) true 38 v d p) : ∃ y z : Int, v = .agg #[.int .i64 y, .int .i64 z] ∧ Wf y ∧ Wf z := by
  have ha : ∃ cs, v = .agg cs := by
    simp only [Value.okWide, Try.underlying38] at hv
    obtain ⟨cs, h1, _⟩ := hv
    exact ⟨cs, h1⟩
  obtain ⟨cs, rfl⟩ := ha
  obtain ⟨fuel, hf⟩ := h
  have h2 := (array_op 2 Try.underlying38 (by kernel_rfl) opI).op hf
  obtain ⟨l, rfl⟩ : ∃ l : List Value, cs = l.toArray := ⟨cs.toList, rfl⟩
  simp only [Value.cells] at h2
  obtain ⟨h3, h4⟩ := h2
  match l, h3 with
  | [a, b], h3 =>
    obtain ⟨⟨y, rfl⟩, ⟨z, rfl⟩, _⟩ := h3
    exact ⟨y, z, rfl, wf_of (h4 _ (by simp)), wf_of (h4 _ (by simp))⟩
end
abbrev zeroIC : Array Value := #[.string ⟨#[]⟩, .string ⟨#[]⟩, .int .i64 0, .string ⟨#[]⟩, .int .i64 0, .string ⟨#[]⟩, .int .i64 0, .string ⟨#[]⟩, .int .i64 0, .int .i64 0, .int .i64 0, .bool false, .bool false, .bool false]
end Go.Proofs.Ytdcnkchhdmppeaa
