/-
  OPENED: arguments that are a Key.
-/
import Derived.Test.YtjacodbmmhnopaaGreatQCon
namespace Go.Proofs.YtjacodbmmhnopaaGreat
open Go.ChangeShapes Go.WideShapes Go.Deep Go.RowKit Go.Joins
set_option linter.unusedVariables false
set_option maxRecDepth 100000

theorem wf_of {z : Int} (h : Mild (.int .i64 z)) : Wf z := by
  have h : (Lit.int .i64 z).wf = true := h
  have hlo : IntKind.i64.min = -9223372036854775808 := by decide
  have hhi : IntKind.i64.max = 9223372036854775807 := by decide
  simp [Lit.wf, hlo, hhi] at h; exact h
def kOp : List CK := ([.i] ++ (kKey ++ ([.i] ++ ([.s] ++ ([.i] ++ ([] : List CK))))))
theorem opOp : OpT Tryz.prog 41 kOp := by
  refine struct_op (ks := kOp) Tryz.underlying41 (by kernel_rfl) ?_
  unfold kOp
  refine FieldsOp.cons (ks := [.i]) (ks' := (kKey ++ ([.i] ++ ([.s] ++ ([.i] ++ ([] : List CK)))))) ?_ ?_ ?_
  · rfl
  · exact opI
  refine FieldsOp.cons (ks := kKey) (ks' := ([.i] ++ ([.s] ++ ([.i] ++ ([] : List CK))))) ?_ ?_ ?_
  · rfl
  · exact opKey
  refine FieldsOp.cons (ks := [.i]) (ks' := ([.s] ++ ([.i] ++ ([] : List CK)))) ?_ ?_ ?_
  · rfl
  · exact opI
  refine FieldsOp.cons (ks := [.s]) (ks' := ([.i] ++ ([] : List CK))) ?_ ?_ ?_
  · rfl
  · exact opS
  refine FieldsOp.cons (ks := [.i]) (ks' := ([] : List CK)) ?_ ?_ ?_
  · rfl
  · exact opI
  exact FieldsOp.nil _
theorem op_cells {x : List Value} (h : Fits kOp x) : ∃ ak b i l s n t st, x = [.int .i64 ak, .string b, .string i, .string l, .int .i64 s, .int .i64 n, .string t, .int .i64 st] := by
  match x, h with
  | [c0, c1, c2, c3, c4, c5, c6, c7], h =>
    obtain ⟨⟨a0, rfl⟩, ⟨a1, rfl⟩, ⟨a2, rfl⟩, ⟨a3, rfl⟩, ⟨a4, rfl⟩, ⟨a5, rfl⟩, ⟨a6, rfl⟩, ⟨a7, rfl⟩, _⟩ := h
    exact ⟨_, _, _, _, _, _, _, _, rfl⟩
section
variable {H : Type} {enc : TypeId × Value → H} {W : World}
theorem key_in {r : Reach} {b0 : Nat} {v : Value} {d : DataW H} {p : List MemPlace} (hv : Value.okWide Tryz.prog W r b0 39 v) (h : DataW.Trod enc Tryz.prog W 0 (fun _ => true) true 39 v d p) :
    ∃ cs : List Value, v = .agg cs.toArray ∧ Fits kKey cs ∧ ∀ u ∈ cs, Mild u := struct_in Tryz.underlying39 opKey hv h
theorem op_in {r : Reach} {b0 : Nat} {v : Value} {d : DataW H} {p : List MemPlace} (hv : Value.okWide Tryz.prog W r b0 41 v) (h : DataW.Trod enc Tryz.prog W 0 (fun _ => true) true 41 v d p) :
    ∃ cs : List Value, v = .agg cs.toArray ∧ Fits kOp cs ∧ ∀ u ∈ cs, Mild u := struct_in Tryz.underlying41 opOp hv h
theorem int_in {r : Reach} {b0 : Nat} {v : Value} {d : DataW H} {p : List MemPlace} (hv : Value.okWide Tryz.prog W r b0 3 v) (h : DataW.Trod enc Tryz.prog W 0 (fun _ => true) true 3 v d p) : ∃ z : Int, v = .int .i64 z ∧ Wf z := by
  obtain ⟨z, rfl⟩ := okWide_int Tryz.underlying3 hv
  obtain ⟨fuel, hf⟩ := h
  have := (opI).op hf
  exact ⟨z, rfl, wf_of (this.2 _ (by simp [Value.cells]))⟩
end
end Go.Proofs.YtjacodbmmhnopaaGreat
