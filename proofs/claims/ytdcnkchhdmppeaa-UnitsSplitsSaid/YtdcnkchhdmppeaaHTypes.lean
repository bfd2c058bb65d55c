/-
  A HOUSE's THINGS: the kinds of their cells; how '!=' compares them. (By wip/tools/gen_types.py.)
-/
import Derived.Test.YtdcnkchhdmppeaaHEq
namespace Go.Proofs.Ytdcnkchhdmppeaa
open Go.RowKit

theorem eqI : EqT Try.prog 1 3 false [.i] := eq_int Try.underlying3 (by kernel_rfl)
theorem eqS : EqT Try.prog 1 9 false [.s] := eq_str Try.underlying9 (by kernel_rfl)
theorem eqB : EqT Try.prog 1 4 false [.b] := eq_bool Try.underlying4 (by kernel_rfl)
def kUnit : List CK := ([.s] ++ ([.i] ++ ([] : List CK)))
theorem eqUnit : EqT Try.prog 2 23 true kUnit := by
  refine struct_eq (h := 1) (ks := kUnit) Try.underlying23 (by kernel_rfl) (by kernel_rfl) ?_
  unfold kUnit
  refine FieldsOk.cons (agg := false) (ks := [.s]) (ks' := ([.i] ++ ([] : List CK))) ?_ ?_ ?_ ?_ ?_
  · rfl
  · decide
  · decide
  · exact eqS.mono (by decide)
  refine FieldsOk.cons (agg := false) (ks := [.i]) (ks' := ([] : List CK)) ?_ ?_ ?_ ?_ ?_
  · rfl
  · decide
  · decide
  · exact eqI.mono (by decide)
  exact FieldsOk.nil _
def kUnit4 : List CK := reps 4 kUnit
theorem eqAUnit : EqT Try.prog 3 24 true kUnit4 := array_eq Try.underlying24 (by kernel_rfl) eqUnit (by decide) (by kernel_rfl)
def kItem : List CK := ([.s] ++ (kUnit4 ++ ([.i] ++ ([.i] ++ ([.b] ++ ([.b] ++ ([.b] ++ ([] : List CK))))))))
theorem eqItem : EqT Try.prog 4 26 true kItem := by
  refine struct_eq (h := 3) (ks := kItem) Try.underlying26 (by kernel_rfl) (by kernel_rfl) ?_
  unfold kItem
  refine FieldsOk.cons (agg := false) (ks := [.s]) (ks' := (kUnit4 ++ ([.i] ++ ([.i] ++ ([.b] ++ ([.b] ++ ([.b] ++ ([] : List CK)))))))) ?_ ?_ ?_ ?_ ?_
  · rfl
  · decide
  · decide
  · exact eqS.mono (by decide)
  refine FieldsOk.cons (agg := true) (ks := kUnit4) (ks' := ([.i] ++ ([.i] ++ ([.b] ++ ([.b] ++ ([.b] ++ ([] : List CK))))))) ?_ ?_ ?_ ?_ ?_
  · rfl
  · decide
  · decide
  · exact eqAUnit.mono (by decide)
  refine FieldsOk.cons (agg := false) (ks := [.i]) (ks' := ([.i] ++ ([.b] ++ ([.b] ++ ([.b] ++ ([] : List CK)))))) ?_ ?_ ?_ ?_ ?_
  · rfl
  · decide
  · decide
  · exact eqI.mono (by decide)
  refine FieldsOk.cons (agg := false) (ks := [.i]) (ks' := ([.b] ++ ([.b] ++ ([.b] ++ ([] : List CK))))) ?_ ?_ ?_ ?_ ?_
  · rfl
  · decide
  · decide
  · exact eqI.mono (by decide)
  refine FieldsOk.cons (agg := false) (ks := [.b]) (ks' := ([.b] ++ ([.b] ++ ([] : List CK)))) ?_ ?_ ?_ ?_ ?_
  · rfl
  · decide
  · decide
  · exact eqB.mono (by decide)
  refine FieldsOk.cons (agg := false) (ks := [.b]) (ks' := ([.b] ++ ([] : List CK))) ?_ ?_ ?_ ?_ ?_
  · rfl
  · decide
  · decide
  · exact eqB.mono (by decide)
  refine FieldsOk.cons (agg := false) (ks := [.b]) (ks' := ([] : List CK)) ?_ ?_ ?_ ?_ ?_
  · rfl
  · decide
  · decide
  · exact eqB.mono (by decide)
  exact FieldsOk.nil _
def kPair : List CK := ([.s] ++ ([.i] ++ ([] : List CK)))
theorem eqPair : EqT Try.prog 2 36 true kPair := by
  refine struct_eq (h := 1) (ks := kPair) Try.underlying36 (by kernel_rfl) (by kernel_rfl) ?_
  unfold kPair
  refine FieldsOk.cons (agg := false) (ks := [.s]) (ks' := ([.i] ++ ([] : List CK))) ?_ ?_ ?_ ?_ ?_
  · rfl
  · decide
  · decide
  · exact eqS.mono (by decide)
  refine FieldsOk.cons (agg := false) (ks := [.i]) (ks' := ([] : List CK)) ?_ ?_ ?_ ?_ ?_
  · rfl
  · decide
  · decide
  · exact eqI.mono (by decide)
  exact FieldsOk.nil _
end Go.Proofs.Ytdcnkchhdmppeaa
