/-
  A HOUSE's THINGS: the kinds of their cells; how '!=' compares them. (By wip/tools/gen_types.py.)
-/
import Derived.Test.YtcihibmapbigdaaHEq
namespace Go.Proofs.Ytcihibmapbigdaa
open Go.RowKit

theorem eqI : EqT Try.prog 1 3 false [.i] := eq_int Try.underlying3 (by kernel_rfl)
theorem eqS : EqT Try.prog 1 9 false [.s] := eq_str Try.underlying9 (by kernel_rfl)
theorem eqB : EqT Try.prog 1 4 false [.b] := eq_bool Try.underlying4 (by kernel_rfl)
def kUnit : List CK := ([.s] ++ ([.i] ++ ([] : List CK)))
theorem eqUnit : EqT Try.prog 2 39 true kUnit := by
  refine struct_eq (h := 1) (ks := kUnit) Try.underlying39 (by kernel_rfl) (by kernel_rfl) ?_
  unfold kUnit
  refine FieldsOk.cons (agg := false) (ks := [.s]) (ks' := ([.i] ++ ([] : List CK))) ?_ ?_ ?_ ?_ ?_
  · rfl
  · decide
  · decide
  · exact eqS.mono (by decide)
  refine FieldsOk.cons (agg := false) (ks := [.i]) (ks' := ([] : List CK)) ?_ ?_ ?_ ?_ ?_
  · rfl
  · decide
  · decide
  · exact eqI.mono (by decide)
  exact FieldsOk.nil _
def kUnit4 : List CK := reps 4 kUnit
theorem eqAUnit : EqT Try.prog 3 40 true kUnit4 := array_eq Try.underlying40 (by kernel_rfl) eqUnit (by decide) (by kernel_rfl)
def kItem : List CK := ([.s] ++ (kUnit4 ++ ([.i] ++ ([.i] ++ ([.b] ++ ([.b] ++ ([.b] ++ ([] : List CK))))))))
theorem eqItem : EqT Try.prog 4 42 true kItem := by
  refine struct_eq (h := 3) (ks := kItem) Try.underlying42 (by kernel_rfl) (by kernel_rfl) ?_
  unfold kItem
  refine FieldsOk.cons (agg := false) (ks := [.s]) (ks' := (kUnit4 ++ ([.i] ++ ([.i] ++ ([.b] ++ ([.b] ++ ([.b] ++ ([] : List CK)))))))) ?_ ?_ ?_ ?_ ?_
  · rfl
  · decide
  · decide
  · exact eqS.mono (by decide)
  refine FieldsOk.cons (agg := true) (ks := kUnit4) (ks' := ([.i] ++ ([.i] ++ ([.b] ++ ([.b] ++ ([.b] ++ ([] : List CK))))))) ?_ ?_ ?_ ?_ ?_
  · rfl
  · decide
  · decide
  · exact eqAUnit.mono (by decide)
  refine FieldsOk.cons (agg := false) (ks := [.i]) (ks' := ([.i] ++ ([.b] ++ ([.b] ++ ([.b] ++ ([] : List CK)))))) ?_ ?_ ?_ ?_ ?_
  · rfl
  · decide
  · decide
  · exact eqI.mono (by decide)
  refine FieldsOk.cons (agg := false) (ks := [.i]) (ks' := ([.b] ++ ([.b] ++ ([.b] ++ ([] : List CK))))) ?_ ?_ ?_ ?_ ?_
  · rfl
  · decide
  · decide
  · exact eqI.mono (by decide)
  refine FieldsOk.cons (agg := false) (ks := [.b]) (ks' := ([.b] ++ ([.b] ++ ([] : List CK)))) ?_ ?_ ?_ ?_ ?_
  · rfl
  · decide
  · decide
  · exact eqB.mono (by decide)
  refine FieldsOk.cons (agg := false) (ks := [.b]) (ks' := ([.b] ++ ([] : List CK))) ?_ ?_ ?_ ?_ ?_
  · rfl
  · decide
  · decide
  · exact eqB.mono (by decide)
  refine FieldsOk.cons (agg := false) (ks := [.b]) (ks' := ([] : List CK)) ?_ ?_ ?_ ?_ ?_
  · rfl
  · decide
  · decide
  · exact eqB.mono (by decide)
  exact FieldsOk.nil _
def kLot : List CK := ([.s] ++ ([.s] ++ ([.i] ++ ([] : List CK))))
theorem eqLot : EqT Try.prog 2 62 true kLot := by
  refine struct_eq (h := 1) (ks := kLot) Try.underlying62 (by kernel_rfl) (by kernel_rfl) ?_
  unfold kLot
  refine FieldsOk.cons (agg := false) (ks := [.s]) (ks' := ([.s] ++ ([.i] ++ ([] : List CK)))) ?_ ?_ ?_ ?_ ?_
  · rfl
  · decide
  · decide
  · exact eqS.mono (by decide)
  refine FieldsOk.cons (agg := false) (ks := [.s]) (ks' := ([.i] ++ ([] : List CK))) ?_ ?_ ?_ ?_ ?_
  · rfl
  · decide
  · decide
  · exact eqS.mono (by decide)
  refine FieldsOk.cons (agg := false) (ks := [.i]) (ks' := ([] : List CK)) ?_ ?_ ?_ ?_ ?_
  · rfl
  · decide
  · decide
  · exact eqI.mono (by decide)
  exact FieldsOk.nil _
def kZone : List CK := ([.s] ++ ([.s] ++ ([] : List CK)))
theorem eqZone : EqT Try.prog 2 65 true kZone := by
  refine struct_eq (h := 1) (ks := kZone) Try.underlying65 (by kernel_rfl) (by kernel_rfl) ?_
  unfold kZone
  refine FieldsOk.cons (agg := false) (ks := [.s]) (ks' := ([.s] ++ ([] : List CK))) ?_ ?_ ?_ ?_ ?_
  · rfl
  · decide
  · decide
  · exact eqS.mono (by decide)
  refine FieldsOk.cons (agg := false) (ks := [.s]) (ks' := ([] : List CK)) ?_ ?_ ?_ ?_ ?_
  · rfl
  · decide
  · decide
  · exact eqS.mono (by decide)
  exact FieldsOk.nil _
def kBin : List CK := ([.s] ++ ([.s] ++ ([.i] ++ ([.i] ++ ([.i] ++ ([.i] ++ ([.i] ++ ([.b] ++ ([] : List CK)))))))))
theorem eqBin : EqT Try.prog 2 68 true kBin := by
  refine struct_eq (h := 1) (ks := kBin) Try.underlying68 (by kernel_rfl) (by kernel_rfl) ?_
  unfold kBin
  refine FieldsOk.cons (agg := false) (ks := [.s]) (ks' := ([.s] ++ ([.i] ++ ([.i] ++ ([.i] ++ ([.i] ++ ([.i] ++ ([.b] ++ ([] : List CK))))))))) ?_ ?_ ?_ ?_ ?_
  · rfl
  · decide
  · decide
  · exact eqS.mono (by decide)
  refine FieldsOk.cons (agg := false) (ks := [.s]) (ks' := ([.i] ++ ([.i] ++ ([.i] ++ ([.i] ++ ([.i] ++ ([.b] ++ ([] : List CK)))))))) ?_ ?_ ?_ ?_ ?_
  · rfl
  · decide
  · decide
  · exact eqS.mono (by decide)
  refine FieldsOk.cons (agg := false) (ks := [.i]) (ks' := ([.i] ++ ([.i] ++ ([.i] ++ ([.i] ++ ([.b] ++ ([] : List CK))))))) ?_ ?_ ?_ ?_ ?_
  · rfl
  · decide
  · decide
  · exact eqI.mono (by decide)
  refine FieldsOk.cons (agg := false) (ks := [.i]) (ks' := ([.i] ++ ([.i] ++ ([.i] ++ ([.b] ++ ([] : List CK)))))) ?_ ?_ ?_ ?_ ?_
  · rfl
  · decide
  · decide
  · exact eqI.mono (by decide)
  refine FieldsOk.cons (agg := false) (ks := [.i]) (ks' := ([.i] ++ ([.i] ++ ([.b] ++ ([] : List CK))))) ?_ ?_ ?_ ?_ ?_
  · rfl
  · decide
  · decide
  · exact eqI.mono (by decide)
  refine FieldsOk.cons (agg := false) (ks := [.i]) (ks' := ([.i] ++ ([.b] ++ ([] : List CK)))) ?_ ?_ ?_ ?_ ?_
  · rfl
  · decide
  · decide
  · exact eqI.mono (by decide)
  refine FieldsOk.cons (agg := false) (ks := [.i]) (ks' := ([.b] ++ ([] : List CK))) ?_ ?_ ?_ ?_ ?_
  · rfl
  · decide
  · decide
  · exact eqI.mono (by decide)
  refine FieldsOk.cons (agg := false) (ks := [.b]) (ks' := ([] : List CK)) ?_ ?_ ?_ ?_ ?_
  · rfl
  · decide
  · decide
  · exact eqB.mono (by decide)
  exact FieldsOk.nil _
def kKey : List CK := ([.s] ++ ([.s] ++ ([.s] ++ ([.i] ++ ([] : List CK)))))
theorem eqKey : EqT Try.prog 2 71 true kKey := by
  refine struct_eq (h := 1) (ks := kKey) Try.underlying71 (by kernel_rfl) (by kernel_rfl) ?_
  unfold kKey
  refine FieldsOk.cons (agg := false) (ks := [.s]) (ks' := ([.s] ++ ([.s] ++ ([.i] ++ ([] : List CK))))) ?_ ?_ ?_ ?_ ?_
  · rfl
  · decide
  · decide
  · exact eqS.mono (by decide)
  refine FieldsOk.cons (agg := false) (ks := [.s]) (ks' := ([.s] ++ ([.i] ++ ([] : List CK)))) ?_ ?_ ?_ ?_ ?_
  · rfl
  · decide
  · decide
  · exact eqS.mono (by decide)
  refine FieldsOk.cons (agg := false) (ks := [.s]) (ks' := ([.i] ++ ([] : List CK))) ?_ ?_ ?_ ?_ ?_
  · rfl
  · decide
  · decide
  · exact eqS.mono (by decide)
  refine FieldsOk.cons (agg := false) (ks := [.i]) (ks' := ([] : List CK)) ?_ ?_ ?_ ?_ ?_
  · rfl
  · decide
  · decide
  · exact eqI.mono (by decide)
  exact FieldsOk.nil _
def kQuant : List CK := (kKey ++ ([.i] ++ ([.i] ++ ([] : List CK))))
theorem eqQuant : EqT Try.prog 3 73 true kQuant := by
  refine struct_eq (h := 2) (ks := kQuant) Try.underlying73 (by kernel_rfl) (by kernel_rfl) ?_
  unfold kQuant
  refine FieldsOk.cons (agg := true) (ks := kKey) (ks' := ([.i] ++ ([.i] ++ ([] : List CK)))) ?_ ?_ ?_ ?_ ?_
  · rfl
  · decide
  · decide
  · exact eqKey.mono (by decide)
  refine FieldsOk.cons (agg := false) (ks := [.i]) (ks' := ([.i] ++ ([] : List CK))) ?_ ?_ ?_ ?_ ?_
  · rfl
  · decide
  · decide
  · exact eqI.mono (by decide)
  refine FieldsOk.cons (agg := false) (ks := [.i]) (ks' := ([] : List CK)) ?_ ?_ ?_ ?_ ?_
  · rfl
  · decide
  · decide
  · exact eqI.mono (by decide)
  exact FieldsOk.nil _
def kRule : List CK := ([.s] ++ ([.s] ++ ([.i] ++ ([] : List CK))))
theorem eqRule : EqT Try.prog 2 76 true kRule := by
  refine struct_eq (h := 1) (ks := kRule) Try.underlying76 (by kernel_rfl) (by kernel_rfl) ?_
  unfold kRule
  refine FieldsOk.cons (agg := false) (ks := [.s]) (ks' := ([.s] ++ ([.i] ++ ([] : List CK)))) ?_ ?_ ?_ ?_ ?_
  · rfl
  · decide
  · decide
  · exact eqS.mono (by decide)
  refine FieldsOk.cons (agg := false) (ks := [.s]) (ks' := ([.i] ++ ([] : List CK))) ?_ ?_ ?_ ?_ ?_
  · rfl
  · decide
  · decide
  · exact eqS.mono (by decide)
  refine FieldsOk.cons (agg := false) (ks := [.i]) (ks' := ([] : List CK)) ?_ ?_ ?_ ?_ ?_
  · rfl
  · decide
  · decide
  · exact eqI.mono (by decide)
  exact FieldsOk.nil _
def kLine : List CK := ([.s] ++ ([.i] ++ ([.i] ++ ([.i] ++ ([.i] ++ ([.i] ++ ([] : List CK)))))))
theorem eqLine : EqT Try.prog 2 79 true kLine := by
  refine struct_eq (h := 1) (ks := kLine) Try.underlying79 (by kernel_rfl) (by kernel_rfl) ?_
  unfold kLine
  refine FieldsOk.cons (agg := false) (ks := [.s]) (ks' := ([.i] ++ ([.i] ++ ([.i] ++ ([.i] ++ ([.i] ++ ([] : List CK))))))) ?_ ?_ ?_ ?_ ?_
  · rfl
  · decide
  · decide
  · exact eqS.mono (by decide)
  refine FieldsOk.cons (agg := false) (ks := [.i]) (ks' := ([.i] ++ ([.i] ++ ([.i] ++ ([.i] ++ ([] : List CK)))))) ?_ ?_ ?_ ?_ ?_
  · rfl
  · decide
  · decide
  · exact eqI.mono (by decide)
  refine FieldsOk.cons (agg := false) (ks := [.i]) (ks' := ([.i] ++ ([.i] ++ ([.i] ++ ([] : List CK))))) ?_ ?_ ?_ ?_ ?_
  · rfl
  · decide
  · decide
  · exact eqI.mono (by decide)
  refine FieldsOk.cons (agg := false) (ks := [.i]) (ks' := ([.i] ++ ([.i] ++ ([] : List CK)))) ?_ ?_ ?_ ?_ ?_
  · rfl
  · decide
  · decide
  · exact eqI.mono (by decide)
  refine FieldsOk.cons (agg := false) (ks := [.i]) (ks' := ([.i] ++ ([] : List CK))) ?_ ?_ ?_ ?_ ?_
  · rfl
  · decide
  · decide
  · exact eqI.mono (by decide)
  refine FieldsOk.cons (agg := false) (ks := [.i]) (ks' := ([] : List CK)) ?_ ?_ ?_ ?_ ?_
  · rfl
  · decide
  · decide
  · exact eqI.mono (by decide)
  exact FieldsOk.nil _
def kLine8 : List CK := reps 8 kLine
theorem eqALine : EqT Try.prog 3 80 true kLine8 := array_eq Try.underlying80 (by kernel_rfl) eqLine (by decide) (by kernel_rfl)
def kNotice : List CK := ([.s] ++ ([.s] ++ (kLine8 ++ ([.b] ++ ([] : List CK)))))
theorem eqNotice : EqT Try.prog 4 82 true kNotice := by
  refine struct_eq (h := 3) (ks := kNotice) Try.underlying82 (by kernel_rfl) (by kernel_rfl) ?_
  unfold kNotice
  refine FieldsOk.cons (agg := false) (ks := [.s]) (ks' := ([.s] ++ (kLine8 ++ ([.b] ++ ([] : List CK))))) ?_ ?_ ?_ ?_ ?_
  · rfl
  · decide
  · decide
  · exact eqS.mono (by decide)
  refine FieldsOk.cons (agg := false) (ks := [.s]) (ks' := (kLine8 ++ ([.b] ++ ([] : List CK)))) ?_ ?_ ?_ ?_ ?_
  · rfl
  · decide
  · decide
  · exact eqS.mono (by decide)
  refine FieldsOk.cons (agg := true) (ks := kLine8) (ks' := ([.b] ++ ([] : List CK))) ?_ ?_ ?_ ?_ ?_
  · rfl
  · decide
  · decide
  · exact eqALine.mono (by decide)
  refine FieldsOk.cons (agg := false) (ks := [.b]) (ks' := ([] : List CK)) ?_ ?_ ?_ ?_ ?_
  · rfl
  · decide
  · decide
  · exact eqB.mono (by decide)
  exact FieldsOk.nil _
def kOrder : List CK := ([.s] ++ ([.s] ++ (kLine8 ++ ([] : List CK))))
theorem eqOrder : EqT Try.prog 4 85 true kOrder := by
  refine struct_eq (h := 3) (ks := kOrder) Try.underlying85 (by kernel_rfl) (by kernel_rfl) ?_
  unfold kOrder
  refine FieldsOk.cons (agg := false) (ks := [.s]) (ks' := ([.s] ++ (kLine8 ++ ([] : List CK)))) ?_ ?_ ?_ ?_ ?_
  · rfl
  · decide
  · decide
  · exact eqS.mono (by decide)
  refine FieldsOk.cons (agg := false) (ks := [.s]) (ks' := (kLine8 ++ ([] : List CK))) ?_ ?_ ?_ ?_ ?_
  · rfl
  · decide
  · decide
  · exact eqS.mono (by decide)
  refine FieldsOk.cons (agg := true) (ks := kLine8) (ks' := ([] : List CK)) ?_ ?_ ?_ ?_ ?_
  · rfl
  · decide
  · decide
  · exact eqALine.mono (by decide)
  exact FieldsOk.nil _
def kClaim : List CK := ([.s] ++ ([.i] ++ (kKey ++ ([.i] ++ ([.i] ++ ([] : List CK))))))
theorem eqClaim : EqT Try.prog 3 88 true kClaim := by
  refine struct_eq (h := 2) (ks := kClaim) Try.underlying88 (by kernel_rfl) (by kernel_rfl) ?_
  unfold kClaim
  refine FieldsOk.cons (agg := false) (ks := [.s]) (ks' := ([.i] ++ (kKey ++ ([.i] ++ ([.i] ++ ([] : List CK)))))) ?_ ?_ ?_ ?_ ?_
  · rfl
  · decide
  · decide
  · exact eqS.mono (by decide)
  refine FieldsOk.cons (agg := false) (ks := [.i]) (ks' := (kKey ++ ([.i] ++ ([.i] ++ ([] : List CK))))) ?_ ?_ ?_ ?_ ?_
  · rfl
  · decide
  · decide
  · exact eqI.mono (by decide)
  refine FieldsOk.cons (agg := true) (ks := kKey) (ks' := ([.i] ++ ([.i] ++ ([] : List CK)))) ?_ ?_ ?_ ?_ ?_
  · rfl
  · decide
  · decide
  · exact eqKey.mono (by decide)
  refine FieldsOk.cons (agg := false) (ks := [.i]) (ks' := ([.i] ++ ([] : List CK))) ?_ ?_ ?_ ?_ ?_
  · rfl
  · decide
  · decide
  · exact eqI.mono (by decide)
  refine FieldsOk.cons (agg := false) (ks := [.i]) (ks' := ([] : List CK)) ?_ ?_ ?_ ?_ ?_
  · rfl
  · decide
  · decide
  · exact eqI.mono (by decide)
  exact FieldsOk.nil _
def kTask : List CK := ([.i] ++ ([.i] ++ ([.s] ++ ([.i] ++ (kKey ++ ([.s] ++ ([.i] ++ ([.s] ++ ([] : List CK)))))))))
theorem eqTask : EqT Try.prog 3 91 true kTask := by
  refine struct_eq (h := 2) (ks := kTask) Try.underlying91 (by kernel_rfl) (by kernel_rfl) ?_
  unfold kTask
  refine FieldsOk.cons (agg := false) (ks := [.i]) (ks' := ([.i] ++ ([.s] ++ ([.i] ++ (kKey ++ ([.s] ++ ([.i] ++ ([.s] ++ ([] : List CK))))))))) ?_ ?_ ?_ ?_ ?_
  · rfl
  · decide
  · decide
  · exact eqI.mono (by decide)
  refine FieldsOk.cons (agg := false) (ks := [.i]) (ks' := ([.s] ++ ([.i] ++ (kKey ++ ([.s] ++ ([.i] ++ ([.s] ++ ([] : List CK)))))))) ?_ ?_ ?_ ?_ ?_
  · rfl
  · decide
  · decide
  · exact eqI.mono (by decide)
  refine FieldsOk.cons (agg := false) (ks := [.s]) (ks' := ([.i] ++ (kKey ++ ([.s] ++ ([.i] ++ ([.s] ++ ([] : List CK))))))) ?_ ?_ ?_ ?_ ?_
  · rfl
  · decide
  · decide
  · exact eqS.mono (by decide)
  refine FieldsOk.cons (agg := false) (ks := [.i]) (ks' := (kKey ++ ([.s] ++ ([.i] ++ ([.s] ++ ([] : List CK)))))) ?_ ?_ ?_ ?_ ?_
  · rfl
  · decide
  · decide
  · exact eqI.mono (by decide)
  refine FieldsOk.cons (agg := true) (ks := kKey) (ks' := ([.s] ++ ([.i] ++ ([.s] ++ ([] : List CK))))) ?_ ?_ ?_ ?_ ?_
  · rfl
  · decide
  · decide
  · exact eqKey.mono (by decide)
  refine FieldsOk.cons (agg := false) (ks := [.s]) (ks' := ([.i] ++ ([.s] ++ ([] : List CK)))) ?_ ?_ ?_ ?_ ?_
  · rfl
  · decide
  · decide
  · exact eqS.mono (by decide)
  refine FieldsOk.cons (agg := false) (ks := [.i]) (ks' := ([.s] ++ ([] : List CK))) ?_ ?_ ?_ ?_ ?_
  · rfl
  · decide
  · decide
  · exact eqI.mono (by decide)
  refine FieldsOk.cons (agg := false) (ks := [.s]) (ks' := ([] : List CK)) ?_ ?_ ?_ ?_ ?_
  · rfl
  · decide
  · decide
  · exact eqS.mono (by decide)
  exact FieldsOk.nil _
def kParcel : List CK := ([.s] ++ ([.s] ++ ([] : List CK)))
theorem eqParcel : EqT Try.prog 2 94 true kParcel := by
  refine struct_eq (h := 1) (ks := kParcel) Try.underlying94 (by kernel_rfl) (by kernel_rfl) ?_
  unfold kParcel
  refine FieldsOk.cons (agg := false) (ks := [.s]) (ks' := ([.s] ++ ([] : List CK))) ?_ ?_ ?_ ?_ ?_
  · rfl
  · decide
  · decide
  · exact eqS.mono (by decide)
  refine FieldsOk.cons (agg := false) (ks := [.s]) (ks' := ([] : List CK)) ?_ ?_ ?_ ?_ ?_
  · rfl
  · decide
  · decide
  · exact eqS.mono (by decide)
  exact FieldsOk.nil _
def kSent : List CK := ([.s] ++ ([.s] ++ ([.s] ++ ([.i] ++ ([.i] ++ ([] : List CK))))))
theorem eqSent : EqT Try.prog 2 97 true kSent := by
  refine struct_eq (h := 1) (ks := kSent) Try.underlying97 (by kernel_rfl) (by kernel_rfl) ?_
  unfold kSent
  refine FieldsOk.cons (agg := false) (ks := [.s]) (ks' := ([.s] ++ ([.s] ++ ([.i] ++ ([.i] ++ ([] : List CK)))))) ?_ ?_ ?_ ?_ ?_
  · rfl
  · decide
  · decide
  · exact eqS.mono (by decide)
  refine FieldsOk.cons (agg := false) (ks := [.s]) (ks' := ([.s] ++ ([.i] ++ ([.i] ++ ([] : List CK))))) ?_ ?_ ?_ ?_ ?_
  · rfl
  · decide
  · decide
  · exact eqS.mono (by decide)
  refine FieldsOk.cons (agg := false) (ks := [.s]) (ks' := ([.i] ++ ([.i] ++ ([] : List CK)))) ?_ ?_ ?_ ?_ ?_
  · rfl
  · decide
  · decide
  · exact eqS.mono (by decide)
  refine FieldsOk.cons (agg := false) (ks := [.i]) (ks' := ([.i] ++ ([] : List CK))) ?_ ?_ ?_ ?_ ?_
  · rfl
  · decide
  · decide
  · exact eqI.mono (by decide)
  refine FieldsOk.cons (agg := false) (ks := [.i]) (ks' := ([] : List CK)) ?_ ?_ ?_ ?_ ?_
  · rfl
  · decide
  · decide
  · exact eqI.mono (by decide)
  exact FieldsOk.nil _
def kCounted : List CK := (kKey ++ ([.i] ++ ([] : List CK)))
theorem eqCounted : EqT Try.prog 3 100 true kCounted := by
  refine struct_eq (h := 2) (ks := kCounted) Try.underlying100 (by kernel_rfl) (by kernel_rfl) ?_
  unfold kCounted
  refine FieldsOk.cons (agg := true) (ks := kKey) (ks' := ([.i] ++ ([] : List CK))) ?_ ?_ ?_ ?_ ?_
  · rfl
  · decide
  · decide
  · exact eqKey.mono (by decide)
  refine FieldsOk.cons (agg := false) (ks := [.i]) (ks' := ([] : List CK)) ?_ ?_ ?_ ?_ ?_
  · rfl
  · decide
  · decide
  · exact eqI.mono (by decide)
  exact FieldsOk.nil _
def kTotal : List CK := ([.s] ++ ([.s] ++ ([.i] ++ ([.i] ++ ([.i] ++ ([.i] ++ ([] : List CK)))))))
theorem eqTotal : EqT Try.prog 2 103 true kTotal := by
  refine struct_eq (h := 1) (ks := kTotal) Try.underlying103 (by kernel_rfl) (by kernel_rfl) ?_
  unfold kTotal
  refine FieldsOk.cons (agg := false) (ks := [.s]) (ks' := ([.s] ++ ([.i] ++ ([.i] ++ ([.i] ++ ([.i] ++ ([] : List CK))))))) ?_ ?_ ?_ ?_ ?_
  · rfl
  · decide
  · decide
  · exact eqS.mono (by decide)
  refine FieldsOk.cons (agg := false) (ks := [.s]) (ks' := ([.i] ++ ([.i] ++ ([.i] ++ ([.i] ++ ([] : List CK)))))) ?_ ?_ ?_ ?_ ?_
  · rfl
  · decide
  · decide
  · exact eqS.mono (by decide)
  refine FieldsOk.cons (agg := false) (ks := [.i]) (ks' := ([.i] ++ ([.i] ++ ([.i] ++ ([] : List CK))))) ?_ ?_ ?_ ?_ ?_
  · rfl
  · decide
  · decide
  · exact eqI.mono (by decide)
  refine FieldsOk.cons (agg := false) (ks := [.i]) (ks' := ([.i] ++ ([.i] ++ ([] : List CK)))) ?_ ?_ ?_ ?_ ?_
  · rfl
  · decide
  · decide
  · exact eqI.mono (by decide)
  refine FieldsOk.cons (agg := false) (ks := [.i]) (ks' := ([.i] ++ ([] : List CK))) ?_ ?_ ?_ ?_ ?_
  · rfl
  · decide
  · decide
  · exact eqI.mono (by decide)
  refine FieldsOk.cons (agg := false) (ks := [.i]) (ks' := ([] : List CK)) ?_ ?_ ?_ ?_ ?_
  · rfl
  · decide
  · decide
  · exact eqI.mono (by decide)
  exact FieldsOk.nil _
end Go.Proofs.Ytcihibmapbigdaa
