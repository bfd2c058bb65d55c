/-
 A list of what came, as an argument.
-/
import Derived.Test.YtgbilfkjfeheaaaGreatJCame
namespace Go.Proofs.YtgbilfkjfeheaaaGreat
set_option linter.unusedVariables false
open Go.RowKit

section
variable {H : Type} {enc : TypeId × Value → H} {W : World}
theorem cames_in {A : Option Addr} {len cap : Nat} {d : DataW H} {p : List MemPlace} (h : DataW.Trod enc Tryz.prog W 0 (fun _ => true) true 69 (.slice A len cap) d p) :
  ∃ L : List (List Value), LIn kCame W (.slice A len cap) A len cap L := by
 obtain ⟨fuel, hf⟩ := h
 obtain ⟨A', len', cap', L, h2, h3, h4, h5, h6, h7, h8⟩ := row_in Tryz.underlying69 opCame (by decide) hf
 simp [Value.cells] at h2
 obtain ⟨rfl, rfl, rfl⟩ := h2
 exact ⟨L, rfl, h3, h4, h5, h6, h7, h8⟩
end
end Go.Proofs.YtgbilfkjfeheaaaGreat
