/-
  A HOUSE's THINGS as arguments. (By wip/tools/gen_opens.py.)
-/
import Derived.Test.YtcihibmapbigdaaHOpen
namespace Go.Proofs.Ytcihibmapbigdaa
set_option linter.unusedVariables false
open Go.RowKit

theorem opI : OpT Try.prog 3 [.i] := op_int Try.underlying3 (by kernel_rfl)
theorem opS : OpT Try.prog 9 [.s] := op_str Try.underlying9 (by kernel_rfl)
theorem opB : OpT Try.prog 4 [.b] := op_bool Try.underlying4 (by kernel_rfl)
theorem opUnit : OpT Try.prog 39 kUnit := by
  refine struct_op (ks := kUnit) Try.underlying39 (by kernel_rfl) ?_
  unfold kUnit
  refine FieldsOp.cons (ks := [.s]) (ks' := ([.i] ++ ([] : List CK))) ?_ ?_ ?_
  · rfl
  · exact opS
  refine FieldsOp.cons (ks := [.i]) (ks' := ([] : List CK)) ?_ ?_ ?_
  · rfl
  · exact opI
  exact FieldsOp.nil _
theorem opAUnit : OpT Try.prog 40 kUnit4 := array_op 4 Try.underlying40 (by kernel_rfl) opUnit
theorem opItem : OpT Try.prog 42 kItem := by
  refine struct_op (ks := kItem) Try.underlying42 (by kernel_rfl) ?_
  unfold kItem
  refine FieldsOp.cons (ks := [.s]) (ks' := (kUnit4 ++ ([.i] ++ ([.i] ++ ([.b] ++ ([.b] ++ ([.b] ++ ([] : List CK)))))))) ?_ ?_ ?_
  · rfl
  · exact opS
  refine FieldsOp.cons (ks := kUnit4) (ks' := ([.i] ++ ([.i] ++ ([.b] ++ ([.b] ++ ([.b] ++ ([] : List CK))))))) ?_ ?_ ?_
  · rfl
  · exact opAUnit
  refine FieldsOp.cons (ks := [.i]) (ks' := ([.i] ++ ([.b] ++ ([.b] ++ ([.b] ++ ([] : List CK)))))) ?_ ?_ ?_
  · rfl
  · exact opI
  refine FieldsOp.cons (ks := [.i]) (ks' := ([.b] ++ ([.b] ++ ([.b] ++ ([] : List CK))))) ?_ ?_ ?_
  · rfl
  · exact opI
  refine FieldsOp.cons (ks := [.b]) (ks' := ([.b] ++ ([.b] ++ ([] : List CK)))) ?_ ?_ ?_
  · rfl
  · exact opB
  refine FieldsOp.cons (ks := [.b]) (ks' := ([.b] ++ ([] : List CK))) ?_ ?_ ?_
  · rfl
  · exact opB
  refine FieldsOp.cons (ks := [.b]) (ks' := ([] : List CK)) ?_ ?_ ?_
  · rfl
  · exact opB
  exact FieldsOp.nil _
theorem opLot : OpT Try.prog 62 kLot := by
  refine struct_op (ks := kLot) Try.underlying62 (by kernel_rfl) ?_
  unfold kLot
  refine FieldsOp.cons (ks := [.s]) (ks' := ([.s] ++ ([.i] ++ ([] : List CK)))) ?_ ?_ ?_
  · rfl
  · exact opS
  refine FieldsOp.cons (ks := [.s]) (ks' := ([.i] ++ ([] : List CK))) ?_ ?_ ?_
  · rfl
  · exact opS
  refine FieldsOp.cons (ks := [.i]) (ks' := ([] : List CK)) ?_ ?_ ?_
  · rfl
  · exact opI
  exact FieldsOp.nil _
theorem opZone : OpT Try.prog 65 kZone := by
  refine struct_op (ks := kZone) Try.underlying65 (by kernel_rfl) ?_
  unfold kZone
  refine FieldsOp.cons (ks := [.s]) (ks' := ([.s] ++ ([] : List CK))) ?_ ?_ ?_
  · rfl
  · exact opS
  refine FieldsOp.cons (ks := [.s]) (ks' := ([] : List CK)) ?_ ?_ ?_
  · rfl
  · exact opS
  exact FieldsOp.nil _
theorem opBin : OpT Try.prog 68 kBin := by
  refine struct_op (ks := kBin) Try.underlying68 (by kernel_rfl) ?_
  unfold kBin
  refine FieldsOp.cons (ks := [.s]) (ks' := ([.s] ++ ([.i] ++ ([.i] ++ ([.i] ++ ([.i] ++ ([.i] ++ ([.b] ++ ([] : List CK))))))))) ?_ ?_ ?_
  · rfl
  · exact opS
  refine FieldsOp.cons (ks := [.s]) (ks' := ([.i] ++ ([.i] ++ ([.i] ++ ([.i] ++ ([.i] ++ ([.b] ++ ([] : List CK)))))))) ?_ ?_ ?_
  · rfl
  · exact opS
  refine FieldsOp.cons (ks := [.i]) (ks' := ([.i] ++ ([.i] ++ ([.i] ++ ([.i] ++ ([.b] ++ ([] : List CK))))))) ?_ ?_ ?_
  · rfl
  · exact opI
  refine FieldsOp.cons (ks := [.i]) (ks' := ([.i] ++ ([.i] ++ ([.i] ++ ([.b] ++ ([] : List CK)))))) ?_ ?_ ?_
  · rfl
  · exact opI
  refine FieldsOp.cons (ks := [.i]) (ks' := ([.i] ++ ([.i] ++ ([.b] ++ ([] : List CK))))) ?_ ?_ ?_
  · rfl
  · exact opI
  refine FieldsOp.cons (ks := [.i]) (ks' := ([.i] ++ ([.b] ++ ([] : List CK)))) ?_ ?_ ?_
  · rfl
  · exact opI
  refine FieldsOp.cons (ks := [.i]) (ks' := ([.b] ++ ([] : List CK))) ?_ ?_ ?_
  · rfl
  · exact opI
  refine FieldsOp.cons (ks := [.b]) (ks' := ([] : List CK)) ?_ ?_ ?_
  · rfl
  · exact opB
  exact FieldsOp.nil _
theorem opKey : OpT Try.prog 71 kKey := by
  refine struct_op (ks := kKey) Try.underlying71 (by kernel_rfl) ?_
  unfold kKey
  refine FieldsOp.cons (ks := [.s]) (ks' := ([.s] ++ ([.s] ++ ([.i] ++ ([] : List CK))))) ?_ ?_ ?_
  · rfl
  · exact opS
  refine FieldsOp.cons (ks := [.s]) (ks' := ([.s] ++ ([.i] ++ ([] : List CK)))) ?_ ?_ ?_
  · rfl
  · exact opS
  refine FieldsOp.cons (ks := [.s]) (ks' := ([.i] ++ ([] : List CK))) ?_ ?_ ?_
  · rfl
  · exact opS
  refine FieldsOp.cons (ks := [.i]) (ks' := ([] : List CK)) ?_ ?_ ?_
  · rfl
  · exact opI
  exact FieldsOp.nil _
theorem opQuant : OpT Try.prog 73 kQuant := by
  refine struct_op (ks := kQuant) Try.underlying73 (by kernel_rfl) ?_
  unfold kQuant
  refine FieldsOp.cons (ks := kKey) (ks' := ([.i] ++ ([.i] ++ ([] : List CK)))) ?_ ?_ ?_
  · rfl
  · exact opKey
  refine FieldsOp.cons (ks := [.i]) (ks' := ([.i] ++ ([] : List CK))) ?_ ?_ ?_
  · rfl
  · exact opI
  refine FieldsOp.cons (ks := [.i]) (ks' := ([] : List CK)) ?_ ?_ ?_
  · rfl
  · exact opI
  exact FieldsOp.nil _
theorem opRule : OpT Try.prog 76 kRule := by
  refine struct_op (ks := kRule) Try.underlying76 (by kernel_rfl) ?_
  unfold kRule
  refine FieldsOp.cons (ks := [.s]) (ks' := ([.s] ++ ([.i] ++ ([] : List CK)))) ?_ ?_ ?_
  · rfl
  · exact opS
  refine FieldsOp.cons (ks := [.s]) (ks' := ([.i] ++ ([] : List CK))) ?_ ?_ ?_
  · rfl
  · exact opS
  refine FieldsOp.cons (ks := [.i]) (ks' := ([] : List CK)) ?_ ?_ ?_
  · rfl
  · exact opI
  exact FieldsOp.nil _
theorem opLine : OpT Try.prog 79 kLine := by
  refine struct_op (ks := kLine) Try.underlying79 (by kernel_rfl) ?_
  unfold kLine
  refine FieldsOp.cons (ks := [.s]) (ks' := ([.i] ++ ([.i] ++ ([.i] ++ ([.i] ++ ([.i] ++ ([] : List CK))))))) ?_ ?_ ?_
  · rfl
  · exact opS
  refine FieldsOp.cons (ks := [.i]) (ks' := ([.i] ++ ([.i] ++ ([.i] ++ ([.i] ++ ([] : List CK)))))) ?_ ?_ ?_
  · rfl
  · exact opI
  refine FieldsOp.cons (ks := [.i]) (ks' := ([.i] ++ ([.i] ++ ([.i] ++ ([] : List CK))))) ?_ ?_ ?_
  · rfl
  · exact opI
  refine FieldsOp.cons (ks := [.i]) (ks' := ([.i] ++ ([.i] ++ ([] : List CK)))) ?_ ?_ ?_
  · rfl
  · exact opI
  refine FieldsOp.cons (ks := [.i]) (ks' := ([.i] ++ ([] : List CK))) ?_ ?_ ?_
  · rfl
  · exact opI
  refine FieldsOp.cons (ks := [.i]) (ks' := ([] : List CK)) ?_ ?_ ?_
  · rfl
  · exact opI
  exact FieldsOp.nil _
theorem opALine : OpT Try.prog 80 kLine8 := array_op 8 Try.underlying80 (by kernel_rfl) opLine
theorem opNotice : OpT Try.prog 82 kNotice := by
  refine struct_op (ks := kNotice) Try.underlying82 (by kernel_rfl) ?_
  unfold kNotice
  refine FieldsOp.cons (ks := [.s]) (ks' := ([.s] ++ (kLine8 ++ ([.b] ++ ([] : List CK))))) ?_ ?_ ?_
  · rfl
  · exact opS
  refine FieldsOp.cons (ks := [.s]) (ks' := (kLine8 ++ ([.b] ++ ([] : List CK)))) ?_ ?_ ?_
  · rfl
  · exact opS
  refine FieldsOp.cons (ks := kLine8) (ks' := ([.b] ++ ([] : List CK))) ?_ ?_ ?_
  · rfl
  · exact opALine
  refine FieldsOp.cons (ks := [.b]) (ks' := ([] : List CK)) ?_ ?_ ?_
  · rfl
  · exact opB
  exact FieldsOp.nil _
theorem opOrder : OpT Try.prog 85 kOrder := by
  refine struct_op (ks := kOrder) Try.underlying85 (by kernel_rfl) ?_
  unfold kOrder
  refine FieldsOp.cons (ks := [.s]) (ks' := ([.s] ++ (kLine8 ++ ([] : List CK)))) ?_ ?_ ?_
  · rfl
  · exact opS
  refine FieldsOp.cons (ks := [.s]) (ks' := (kLine8 ++ ([] : List CK))) ?_ ?_ ?_
  · rfl
  · exact opS
  refine FieldsOp.cons (ks := kLine8) (ks' := ([] : List CK)) ?_ ?_ ?_
  · rfl
  · exact opALine
  exact FieldsOp.nil _
theorem opClaim : OpT Try.prog 88 kClaim := by
  refine struct_op (ks := kClaim) Try.underlying88 (by kernel_rfl) ?_
  unfold kClaim
  refine FieldsOp.cons (ks := [.s]) (ks' := ([.i] ++ (kKey ++ ([.i] ++ ([.i] ++ ([] : List CK)))))) ?_ ?_ ?_
  · rfl
  · exact opS
  refine FieldsOp.cons (ks := [.i]) (ks' := (kKey ++ ([.i] ++ ([.i] ++ ([] : List CK))))) ?_ ?_ ?_
  · rfl
  · exact opI
  refine FieldsOp.cons (ks := kKey) (ks' := ([.i] ++ ([.i] ++ ([] : List CK)))) ?_ ?_ ?_
  · rfl
  · exact opKey
  refine FieldsOp.cons (ks := [.i]) (ks' := ([.i] ++ ([] : List CK))) ?_ ?_ ?_
  · rfl
  · exact opI
  refine FieldsOp.cons (ks := [.i]) (ks' := ([] : List CK)) ?_ ?_ ?_
  · rfl
  · exact opI
  exact FieldsOp.nil _
theorem opTask : OpT Try.prog 91 kTask := by
  refine struct_op (ks := kTask) Try.underlying91 (by kernel_rfl) ?_
  unfold kTask
  refine FieldsOp.cons (ks := [.i]) (ks' := ([.i] ++ ([.s] ++ ([.i] ++ (kKey ++ ([.s] ++ ([.i] ++ ([.s] ++ ([] : List CK))))))))) ?_ ?_ ?_
  · rfl
  · exact opI
  refine FieldsOp.cons (ks := [.i]) (ks' := ([.s] ++ ([.i] ++ (kKey ++ ([.s] ++ ([.i] ++ ([.s] ++ ([] : List CK)))))))) ?_ ?_ ?_
  · rfl
  · exact opI
  refine FieldsOp.cons (ks := [.s]) (ks' := ([.i] ++ (kKey ++ ([.s] ++ ([.i] ++ ([.s] ++ ([] : List CK))))))) ?_ ?_ ?_
  · rfl
  · exact opS
  refine FieldsOp.cons (ks := [.i]) (ks' := (kKey ++ ([.s] ++ ([.i] ++ ([.s] ++ ([] : List CK)))))) ?_ ?_ ?_
  · rfl
  · exact opI
  refine FieldsOp.cons (ks := kKey) (ks' := ([.s] ++ ([.i] ++ ([.s] ++ ([] : List CK))))) ?_ ?_ ?_
  · rfl
  · exact opKey
  refine FieldsOp.cons (ks := [.s]) (ks' := ([.i] ++ ([.s] ++ ([] : List CK)))) ?_ ?_ ?_
  · rfl
  · exact opS
  refine FieldsOp.cons (ks := [.i]) (ks' := ([.s] ++ ([] : List CK))) ?_ ?_ ?_
  · rfl
  · exact opI
  refine FieldsOp.cons (ks := [.s]) (ks' := ([] : List CK)) ?_ ?_ ?_
  · rfl
  · exact opS
  exact FieldsOp.nil _
theorem opParcel : OpT Try.prog 94 kParcel := by
  refine struct_op (ks := kParcel) Try.underlying94 (by kernel_rfl) ?_
  unfold kParcel
  refine FieldsOp.cons (ks := [.s]) (ks' := ([.s] ++ ([] : List CK))) ?_ ?_ ?_
  · rfl
  · exact opS
  refine FieldsOp.cons (ks := [.s]) (ks' := ([] : List CK)) ?_ ?_ ?_
  · rfl
  · exact opS
  exact FieldsOp.nil _
theorem opSent : OpT Try.prog 97 kSent := by
  refine struct_op (ks := kSent) Try.underlying97 (by kernel_rfl) ?_
  unfold kSent
  refine FieldsOp.cons (ks := [.s]) (ks' := ([.s] ++ ([.s] ++ ([.i] ++ ([.i] ++ ([] : List CK)))))) ?_ ?_ ?_
  · rfl
  · exact opS
  refine FieldsOp.cons (ks := [.s]) (ks' := ([.s] ++ ([.i] ++ ([.i] ++ ([] : List CK))))) ?_ ?_ ?_
  · rfl
  · exact opS
  refine FieldsOp.cons (ks := [.s]) (ks' := ([.i] ++ ([.i] ++ ([] : List CK)))) ?_ ?_ ?_
  · rfl
  · exact opS
  refine FieldsOp.cons (ks := [.i]) (ks' := ([.i] ++ ([] : List CK))) ?_ ?_ ?_
  · rfl
  · exact opI
  refine FieldsOp.cons (ks := [.i]) (ks' := ([] : List CK)) ?_ ?_ ?_
  · rfl
  · exact opI
  exact FieldsOp.nil _
theorem opCounted : OpT Try.prog 100 kCounted := by
  refine struct_op (ks := kCounted) Try.underlying100 (by kernel_rfl) ?_
  unfold kCounted
  refine FieldsOp.cons (ks := kKey) (ks' := ([.i] ++ ([] : List CK))) ?_ ?_ ?_
  · rfl
  · exact opKey
  refine FieldsOp.cons (ks := [.i]) (ks' := ([] : List CK)) ?_ ?_ ?_
  · rfl
  · exact opI
  exact FieldsOp.nil _
theorem opTotal : OpT Try.prog 103 kTotal := by
  refine struct_op (ks := kTotal) Try.underlying103 (by kernel_rfl) ?_
  unfold kTotal
  refine FieldsOp.cons (ks := [.s]) (ks' := ([.s] ++ ([.i] ++ ([.i] ++ ([.i] ++ ([.i] ++ ([] : List CK))))))) ?_ ?_ ?_
  · rfl
  · exact opS
  refine FieldsOp.cons (ks := [.s]) (ks' := ([.i] ++ ([.i] ++ ([.i] ++ ([.i] ++ ([] : List CK)))))) ?_ ?_ ?_
  · rfl
  · exact opS
  refine FieldsOp.cons (ks := [.i]) (ks' := ([.i] ++ ([.i] ++ ([.i] ++ ([] : List CK))))) ?_ ?_ ?_
  · rfl
  · exact opI
  refine FieldsOp.cons (ks := [.i]) (ks' := ([.i] ++ ([.i] ++ ([] : List CK)))) ?_ ?_ ?_
  · rfl
  · exact opI
  refine FieldsOp.cons (ks := [.i]) (ks' := ([.i] ++ ([] : List CK))) ?_ ?_ ?_
  · rfl
  · exact opI
  refine FieldsOp.cons (ks := [.i]) (ks' := ([] : List CK)) ?_ ?_ ?_
  · rfl
  · exact opI
  exact FieldsOp.nil _
end Go.Proofs.Ytcihibmapbigdaa
