/-
  OPENED: arguments that are an Ask (a bin, an item, three numbers), a row of them.
-/
import Derived.Test.YthoblccmdadmmaaIRow
namespace Go.Proofs.Ythoblccmdadmmaa
open Go.ChangeShapes Go.WideShapes Go.Deep Go.RowKit Go.Joins
set_option linter.unusedVariables false
set_option maxRecDepth 100000

def kAsk : List CK := ([.s] ++ ([.s] ++ ([.i] ++ ([.i] ++ ([.i] ++ ([] : List CK))))))
theorem opAsk : OpT Try.prog 39 kAsk := by
  refine struct_op (ks := kAsk) Try.underlying39 (by kernel_rfl) ?_
  unfold kAsk
  refine FieldsOp.cons (ks := [.s]) (ks' := ([.s] ++ ([.i] ++ ([.i] ++ ([.i] ++ ([] : List CK)))))) ?_ ?_ ?_
  · rfl
  · exact opS
  refine FieldsOp.cons (ks := [.s]) (ks' := ([.i] ++ ([.i] ++ ([.i] ++ ([] : List CK))))) ?_ ?_ ?_
  · rfl
  · exact opS
  refine FieldsOp.cons (ks := [.i]) (ks' := ([.i] ++ ([.i] ++ ([] : List CK)))) ?_ ?_ ?_
  · rfl
  · exact opI
  refine FieldsOp.cons (ks := [.i]) (ks' := ([.i] ++ ([] : List CK))) ?_ ?_ ?_
  · rfl
  · exact opI
  refine FieldsOp.cons (ks := [.i]) (ks' := ([] : List CK)) ?_ ?_ ?_
  · rfl
  · exact opI
  exact FieldsOp.nil _
/-- A number as a machine holds it. -/
def Wf (z : Int) : Prop := -9223372036854775808 ≤ z ∧ z ≤ 9223372036854775807
theorem wf_of {z : Int} (h : Mild (.int .i64 z)) : Wf z := by
  have h : (Lit.int .i64 z).wf = true := h
  have hlo : IntKind.i64.min = -9223372036854775808 := by decide
  have hhi : IntKind.i64.max = 9223372036854775807 := by decide
  simp [Lit.wf, hlo, hhi] at h; exact h
/-- An Ask by its fields. -/
theorem ask_cells {x : List Value} (h : Fits kAsk x) : ∃ s t n v u, x = [.string s, .string t, .int .i64 n, .int .i64 v, .int .i64 u] := by
  match x, h with
  | [c0, c1, c2, c3, c4], h =>
    obtain ⟨⟨a0, rfl⟩, ⟨a1, rfl⟩, ⟨a2, rfl⟩, ⟨a3, rfl⟩, ⟨a4, rfl⟩, _⟩ := h
    exact ⟨_, _, _, _, _, rfl⟩
section
variable {H : Type} {enc : TypeId × Value → H} {W : World}
theorem ask_in {r : Reach} {b0 : Nat} {v : Value} {d : DataW H} {p : List MemPlace} (hv : Value.okWide Try.prog W r b0 39 v) (h : DataW.Trod enc Try.prog W 0 (fun _ => true) true 39 v d p) :
    ∃ cs : List Value, v = .agg cs.toArray ∧ Fits kAsk cs ∧ ∀ u ∈ cs, Mild u := struct_in Try.underlying39 opAsk hv h
theorem asks_in {A : Option Addr} {len cap : Nat} {d : DataW H} {p : List MemPlace} (h : DataW.Trod enc Try.prog W 0 (fun _ => true) true 54 (.slice A len cap) d p) :
    ∃ L : List (List Value), LIn kAsk W (.slice A len cap) A len cap L := by
  obtain ⟨fuel, hf⟩ := h
  obtain ⟨A', len', cap', L, h2, h3, h4, h5, h6, h7, h8⟩ := row_in Try.underlying54 opAsk (by decide) hf
  simp [Value.cells] at h2
  obtain ⟨rfl, rfl, rfl⟩ := h2
  exact ⟨L, rfl, h3, h4, h5, h6, h7, h8⟩
end
end Go.Proofs.Ythoblccmdadmmaa
