/-
  OPENED: arguments that are an Ask (a site, an item, a number), a row of them, a row of houses.
-/
import Derived.Test.YtnkhnbpopdmkhaaGreatOPl
import Derived.Test.YtnkhnbpopdmkhaaGreatWPl
namespace Go.Proofs.YtnkhnbpopdmkhaaGreat
open Go.ChangeShapes Go.WideShapes Go.Deep Go.RowKit Go.Joins
set_option linter.unusedVariables false
set_option maxRecDepth 100000

def kAsk : List CK := ([.s] ++ ([.s] ++ ([.i] ++ ([] : List CK))))
theorem opAsk : OpT Tryz.prog 39 kAsk := by
  refine struct_op (ks := kAsk) Tryz.underlying39 (by kernel_rfl) ?_
  unfold kAsk
  refine FieldsOp.cons (ks := [.s]) (ks' := ([.s] ++ ([.i] ++ ([] : List CK)))) ?_ ?_ ?_
  · rfl
  · exact opS
  refine FieldsOp.cons (ks := [.s]) (ks' := ([.i] ++ ([] : List CK))) ?_ ?_ ?_
  · rfl
  · exact opS
  refine FieldsOp.cons (ks := [.i]) (ks' := ([] : List CK)) ?_ ?_ ?_
  · rfl
  · exact opI
  exact FieldsOp.nil _
theorem wf_of {z : Int} (h : Mild (.int .i64 z)) : Wf z := by
  have h : (Lit.int .i64 z).wf = true := h
  have hlo : IntKind.i64.min = -9223372036854775808 := by decide
  have hhi : IntKind.i64.max = 9223372036854775807 := by decide
  simp [Lit.wf, hlo, hhi] at h; exact h
/-- An Ask by its fields. -/
theorem ask_cells {x : List Value} (h : Fits kAsk x) : ∃ s t n, x = [.string s, .string t, .int .i64 n] := by
  match x, h with
  | [c0, c1, c2], h =>
    obtain ⟨⟨a0, rfl⟩, ⟨a1, rfl⟩, ⟨a2, rfl⟩, _⟩ := h
    exact ⟨_, _, _, rfl⟩
section
variable {H : Type} {enc : TypeId × Value → H} {W : World}
theorem ask_in {r : Reach} {b0 : Nat} {v : Value} {d : DataW H} {p : List MemPlace} (hv : Value.okWide Tryz.prog W r b0 39 v) (h : DataW.Trod enc Tryz.prog W 0 (fun _ => true) true 39 v d p) :
    ∃ cs : List Value, v = .agg cs.toArray ∧ Fits kAsk cs ∧ ∀ u ∈ cs, Mild u := struct_in Tryz.underlying39 opAsk hv h
end
end Go.Proofs.YtnkhnbpopdmkhaaGreat
