/-
  A HOUSE's THINGS as arguments. (By wip/tools/gen_opens.py.)
-/
import Derived.Test.YtdcnkchhdmppeaaHOpen
namespace Go.Proofs.Ytdcnkchhdmppeaa
set_option linter.unusedVariables false
open Go.RowKit

theorem opI : OpT Try.prog 3 [.i] := op_int Try.underlying3 (by kernel_rfl)
theorem opS : OpT Try.prog 9 [.s] := op_str Try.underlying9 (by kernel_rfl)
theorem opB : OpT Try.prog 4 [.b] := op_bool Try.underlying4 (by kernel_rfl)
theorem opUnit : OpT Try.prog 23 kUnit := by
  refine struct_op (ks := kUnit) Try.underlying23 (by kernel_rfl) ?_
  unfold kUnit
  refine FieldsOp.cons (ks := [.s]) (ks' := ([.i] ++ ([] : List CK))) ?_ ?_ ?_
  · rfl
  · exact opS
  refine FieldsOp.cons (ks := [.i]) (ks' := ([] : List CK)) ?_ ?_ ?_
  · rfl
  · exact opI
  exact FieldsOp.nil _
theorem opAUnit : OpT Try.prog 24 kUnit4 := array_op 4 Try.underlying24 (by kernel_rfl) opUnit
theorem opItem : OpT Try.prog 26 kItem := by
  refine struct_op (ks := kItem) Try.underlying26 (by kernel_rfl) ?_
  unfold kItem
  refine FieldsOp.cons (ks := [.s]) (ks' := (kUnit4 ++ ([.i] ++ ([.i] ++ ([.b] ++ ([.b] ++ ([.b] ++ ([] : List CK)))))))) ?_ ?_ ?_
  · rfl
  · exact opS
  refine FieldsOp.cons (ks := kUnit4) (ks' := ([.i] ++ ([.i] ++ ([.b] ++ ([.b] ++ ([.b] ++ ([] : List CK))))))) ?_ ?_ ?_
  · rfl
  · exact opAUnit
  refine FieldsOp.cons (ks := [.i]) (ks' := ([.i] ++ ([.b] ++ ([.b] ++ ([.b] ++ ([] : List CK)))))) ?_ ?_ ?_
  · rfl
  · exact opI
  refine FieldsOp.cons (ks := [.i]) (ks' := ([.b] ++ ([.b] ++ ([.b] ++ ([] : List CK))))) ?_ ?_ ?_
  · rfl
  · exact opI
  refine FieldsOp.cons (ks := [.b]) (ks' := ([.b] ++ ([.b] ++ ([] : List CK)))) ?_ ?_ ?_
  · rfl
  · exact opB
  refine FieldsOp.cons (ks := [.b]) (ks' := ([.b] ++ ([] : List CK))) ?_ ?_ ?_
  · rfl
  · exact opB
  refine FieldsOp.cons (ks := [.b]) (ks' := ([] : List CK)) ?_ ?_ ?_
  · rfl
  · exact opB
  exact FieldsOp.nil _
theorem opPair : OpT Try.prog 36 kPair := by
  refine struct_op (ks := kPair) Try.underlying36 (by kernel_rfl) ?_
  unfold kPair
  refine FieldsOp.cons (ks := [.s]) (ks' := ([.i] ++ ([] : List CK))) ?_ ?_ ?_
  · rfl
  · exact opS
  refine FieldsOp.cons (ks := [.i]) (ks' := ([] : List CK)) ?_ ?_ ?_
  · rfl
  · exact opI
  exact FieldsOp.nil _
end Go.Proofs.Ytdcnkchhdmppeaa
