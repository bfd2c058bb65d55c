/-
  THE COMPARISON '==' of two structs.
-/
import Derived.Test.YtdcnkchhdmppeaaHEq
namespace Go.Proofs.Ytdcnkchhdmppeaa
set_option linter.unusedVariables false
open Go.RowKit

theorem eql_struct {P : Program} {h : Nat} {t : TypeId} {ks : List CK} (e : EqT P h t true ks) (hh : h ≤ 10000) (xs ys : List Value) (w : World) (hx : Fits ks xs) (hy : Fits ks ys) : ∃ b : Bool, (binOp .eql t (.agg xs.toArray) (.agg ys.toArray)).run P w = .ok (.bool b) w ∧ (b = true ↔ xs = ys) := by
  obtain ⟨b, eb, ib⟩ := e.eq (10000 - h) xs ys w hx hy
  rw [show 10000 - h + h = 10000 from by omega] at eb
  refine ⟨b, ?_, ib⟩
  rw [run_eql_struct]
  have : Op.equalIn 10000 t (.agg xs.toArray) (.agg ys.toArray) = Op.equalIn 10000 t (valC true xs) (valC true ys) := rfl
  rw [this, eb]
  rfl
theorem eql_same {P : Program} {h : Nat} {t : TypeId} {ks : List CK} (e : EqT P h t true ks) (hh : h ≤ 10000) (xs : List Value) (w : World) (hx : Fits ks xs) : (binOp .eql t (.agg xs.toArray) (.agg xs.toArray)).run P w = .ok (.bool true) w := by
  obtain ⟨b, h1, h2⟩ := eql_struct e hh xs xs w hx hx
  rw [h1, h2.2 rfl]
end Go.Proofs.Ytdcnkchhdmppeaa
