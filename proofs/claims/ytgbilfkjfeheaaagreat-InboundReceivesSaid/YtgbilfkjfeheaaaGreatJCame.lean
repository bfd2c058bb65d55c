/-
 OPENED: arguments that are what came (three texts, a number, two texts), or a row of it.
-/
import Derived.Test.YtgbilfkjfeheaaaGreatOPl
import Derived.Test.YtgbilfkjfeheaaaGreatJCon
namespace Go.Proofs.YtgbilfkjfeheaaaGreat
open Go.ChangeShapes Go.WideShapes Go.Deep Go.RowKit Go.Joins
set_option linter.unusedVariables false
set_option maxRecDepth 100000

def kCame : List CK := ([.s] ++ ([.s] ++ ([.s] ++ ([.i] ++ ([.s] ++ ([.s] ++ ([] : List CK)))))))
theorem opCame : OpT Tryz.prog 54 kCame := by
 refine struct_op (ks := kCame) Tryz.underlying54 (by kernel_rfl) ?_
 unfold kCame
 refine FieldsOp.cons (ks := [.s]) (ks' := ([.s] ++ ([.s] ++ ([.i] ++ ([.s] ++ ([.s] ++ ([] : List CK))))))) ?_ ?_ ?_
 · rfl
 · exact opS
 refine FieldsOp.cons (ks := [.s]) (ks' := ([.s] ++ ([.i] ++ ([.s] ++ ([.s] ++ ([] : List CK)))))) ?_ ?_ ?_
 · rfl
 · exact opS
 refine FieldsOp.cons (ks := [.s]) (ks' := ([.i] ++ ([.s] ++ ([.s] ++ ([] : List CK))))) ?_ ?_ ?_
 · rfl
 · exact opS
 refine FieldsOp.cons (ks := [.i]) (ks' := ([.s] ++ ([.s] ++ ([] : List CK)))) ?_ ?_ ?_
 · rfl
 · exact opI
 refine FieldsOp.cons (ks := [.s]) (ks' := ([.s] ++ ([] : List CK))) ?_ ?_ ?_
 · rfl
 · exact opS
 refine FieldsOp.cons (ks := [.s]) (ks' := ([] : List CK)) ?_ ?_ ?_
 · rfl
 · exact opS
 exact FieldsOp.nil _
theorem wf_of {z : Int} (h : Mild (.int .i64 z)) : Wf z := by
 have h : (Lit.int .i64 z).wf = true := h
 have hlo : IntKind.i64.min = -9223372036854775808 := by decide
 have hhi : IntKind.i64.max = 9223372036854775807 := by decide
 simp [Lit.wf, hlo, hhi] at h; exact h
def cmOf : List Value → Cm
 | [.string a, .string b, .string c, .int _ n, .string d, .string e] => ⟨a, b, c, n, d, e⟩
 | _ => ⟨⟨#[]⟩, ⟨#[]⟩, ⟨#[]⟩, 0, ⟨#[]⟩, ⟨#[]⟩⟩
theorem cm_cells {x : List Value} (h : Fits kCame x) : x = (cmOf x).cells := by
 match x, h with
 | [c0, c1, c2, c3, c4, c5], h =>
  obtain ⟨⟨a0, rfl⟩, ⟨a1, rfl⟩, ⟨a2, rfl⟩, ⟨a3, rfl⟩, ⟨a4, rfl⟩, ⟨a5, rfl⟩, _⟩ := h
  rfl
section
variable {H : Type} {enc : TypeId × Value → H} {W : World}
theorem came_in {r : Reach} {b0 : Nat} {v : Value} {d : DataW H} {p : List MemPlace} (hv : Value.okWide Tryz.prog W r b0 54 v) (h : DataW.Trod enc Tryz.prog W 0 (fun _ => true) true 54 v d p) :
 ∃ cs : List Value, v = .agg cs.toArray ∧ Fits kCame cs ∧ ∀ u ∈ cs, Mild u := struct_in Tryz.underlying54 opCame hv h
theorem int_in {r : Reach} {b0 : Nat} {v : Value} {d : DataW H} {p : List MemPlace} (hv : Value.okWide Tryz.prog W r b0 3 v) (h : DataW.Trod enc Tryz.prog W 0 (fun _ => true) true 3 v d p) : ∃ z : Int, v = .int .i64 z ∧ Wf z := by
 obtain ⟨z, rfl⟩ := okWide_int Tryz.underlying3 hv
 obtain ⟨fuel, hf⟩ := h
 have := (opI).op hf
 exact ⟨z, rfl, wf_of (this.2 _ (by simp [Value.cells]))⟩
end
end Go.Proofs.YtgbilfkjfeheaaaGreat
