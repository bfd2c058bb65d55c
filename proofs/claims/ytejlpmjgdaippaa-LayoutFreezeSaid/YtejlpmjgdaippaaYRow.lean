/-
  OPENED: arguments that are a zone, a bin, a truth value; rows of zones, of bins.
-/
import Derived.Test.YtejlpmjgdaippaaIRow
namespace Go.Proofs.Ytejlpmjgdaippaa
open Go.ChangeShapes Go.WideShapes Go.Deep Go.RowKit Go.Joins
set_option linter.unusedVariables false
set_option maxRecDepth 100000

section
variable {H : Type} {enc : TypeId × Value → H} {W : World}
theorem zone_in {r : Reach} {b0 : Nat} {v : Value} {d : DataW H} {p : List MemPlace} (hv : Value.okWide Try.prog W r b0 39 v) (h : DataW.Trod enc Try.prog W 0 (fun _ => true) true 39 v d p) :
    ∃ cs : List Value, v = .agg cs.toArray ∧ Fits kZone cs ∧ ∀ u ∈ cs, Mild u := struct_in Try.underlying39 opZone hv h
theorem bin_in {r : Reach} {b0 : Nat} {v : Value} {d : DataW H} {p : List MemPlace} (hv : Value.okWide Try.prog W r b0 41 v) (h : DataW.Trod enc Try.prog W 0 (fun _ => true) true 41 v d p) :
    ∃ cs : List Value, v = .agg cs.toArray ∧ Fits kBin cs ∧ ∀ u ∈ cs, Mild u := struct_in Try.underlying41 opBin hv h
theorem zones_in {A : Option Addr} {len cap : Nat} {d : DataW H} {p : List MemPlace} (h : DataW.Trod enc Try.prog W 0 (fun _ => true) true 24 (.slice A len cap) d p) :
    ∃ L : List (List Value), LIn kZone W (.slice A len cap) A len cap L := by
  obtain ⟨fuel, hf⟩ := h
  obtain ⟨A', len', cap', L, h2, h3, h4, h5, h6, h7, h8⟩ := row_in Try.underlying24 opZone (by decide) hf
  simp [Value.cells] at h2
  obtain ⟨rfl, rfl, rfl⟩ := h2
  exact ⟨L, rfl, h3, h4, h5, h6, h7, h8⟩
theorem bins_in {A : Option Addr} {len cap : Nat} {d : DataW H} {p : List MemPlace} (h : DataW.Trod enc Try.prog W 0 (fun _ => true) true 25 (.slice A len cap) d p) :
    ∃ L : List (List Value), LIn kBin W (.slice A len cap) A len cap L := by
  obtain ⟨fuel, hf⟩ := h
  obtain ⟨A', len', cap', L, h2, h3, h4, h5, h6, h7, h8⟩ := row_in Try.underlying25 opBin (by decide) hf
  simp [Value.cells] at h2
  obtain ⟨rfl, rfl, rfl⟩ := h2
  exact ⟨L, rfl, h3, h4, h5, h6, h7, h8⟩
end
end Go.Proofs.Ytejlpmjgdaippaa
