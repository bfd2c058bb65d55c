/-
  No cell of these rows narrows 'for every input' (looked for: loops, veiled, ifaces, maps, wideKeys, modest, calm, conditions, laid).
  DERIVED. THE GIVEN ROWS OF THIS SEAT. 8 by the template 'for every input the law returns true; each argument reads behind the call as it read before'; 0 by the template 'total and deterministic' (their statements: YthoblccmdadmmaaTotals.lean).
  GIVEN WITH THE SEED: the statements are not yours to turn. If you find one false, say at which input.
  Laid BY PROGRAM, IN A SANDBOX (cutbox-rows.mjs): the forced cells as the released guide's own fill.sh prints them over the translation e7d1f1c270619cd5… (all of the seat's roots in one cut). By AI agents, Wed Nov 11 2026. No macro, syntax, notation, axiom, sorry.
-/
import Derived.Test.YthoblccmdadmmaaChecked
import GoSem.Claim
import GoSem.ClaimJoined
import GoSem.ClaimMapViews
import Derived.JoinedTies
import Derived.KernelRfl
namespace Go.Proofs.Ythoblccmdadmmaa
/- THE CELL 'sum', in the pinned program and in every row, IS THE sha256 OF THE DUMP (.gsa) THAT YthoblccmdadmmaaProg.lean LOADS. Nothing in Lean hashes anything: it is a label: what it is worth is what the hold of that sum in a sandbox is worth. -/
noncomputable def Try.pinned : Pinned := { name := "ythoblccmdadmmaa", sum := "e7d1f1c270619cd58e7c42d4893ad2a06c135cd87b9a8fcaa83a0e9577c4629e", checked := Try.checked }
namespace Rows
def none {H : Type} : Left H := { results := [], args := [] }

/-- 'stevedorelaw11.RoomLoads': WHATEVER THE INPUT: true; the input reads as it did. -/
def roomLoadsSpec : ChangeSpec := { name := "roomLoads", fn := fun _ => fun
  | [d1, d2] => { results := [.lit (.bool true)], args := [d1, d2] }
  | _ => none }
def roomLoadsRow : OpenClaim := { program := "ythoblccmdadmmaa", sum := "e7d1f1c270619cd58e7c42d4893ad2a06c135cd87b9a8fcaa83a0e9577c4629e", func := "stevedore/stevedorelaw11.RoomLoads", spec := "roomLoads", inPlace := ["internal/bytealg.abigen_runtime_cmpstring"], unfollowed := true, recurses := true, apart := false }
def RoomLoadsSaid : Prop := roomLoadsRow.holds Try.pinned (OpenSpec.ofChange roomLoadsSpec)

/-- ITS FALSE NEIGHBOUR: 'it returns false'. Refute it at one input. -/
def roomLoadsWrong : ChangeSpec := { name := "roomLoads", fn := fun _ => fun
  | [d1, d2] => { results := [.lit (.bool false)], args := [d1, d2] }
  | _ => none }
def RoomLoadsWrongFalsely : Prop := roomLoadsRow.holds Try.pinned (OpenSpec.ofChange roomLoadsWrong)

/-- 'stevedorelaw11.RoomTurns': WHATEVER THE INPUT: true; the input reads as it did. -/
def roomTurnsSpec : ChangeSpec := { name := "roomTurns", fn := fun _ => fun
  | [d1, d2] => { results := [.lit (.bool true)], args := [d1, d2] }
  | _ => none }
def roomTurnsRow : OpenClaim := { program := "ythoblccmdadmmaa", sum := "e7d1f1c270619cd58e7c42d4893ad2a06c135cd87b9a8fcaa83a0e9577c4629e", func := "stevedore/stevedorelaw11.RoomTurns", spec := "roomTurns", inPlace := ["internal/bytealg.abigen_runtime_cmpstring"], unfollowed := true, recurses := true, apart := false }
def RoomTurnsSaid : Prop := roomTurnsRow.holds Try.pinned (OpenSpec.ofChange roomTurnsSpec)

/-- ITS FALSE NEIGHBOUR: 'it returns false'. Refute it at one input. -/
def roomTurnsWrong : ChangeSpec := { name := "roomTurns", fn := fun _ => fun
  | [d1, d2] => { results := [.lit (.bool false)], args := [d1, d2] }
  | _ => none }
def RoomTurnsWrongFalsely : Prop := roomTurnsRow.holds Try.pinned (OpenSpec.ofChange roomTurnsWrong)

/-- 'stevedorelaw11.RoomHolds': WHATEVER THE INPUT: true; the input reads as it did. -/
def roomHoldsSpec : ChangeSpec := { name := "roomHolds", fn := fun _ => fun
  | [d1, d2] => { results := [.lit (.bool true)], args := [d1, d2] }
  | _ => none }
def roomHoldsRow : OpenClaim := { program := "ythoblccmdadmmaa", sum := "e7d1f1c270619cd58e7c42d4893ad2a06c135cd87b9a8fcaa83a0e9577c4629e", func := "stevedore/stevedorelaw11.RoomHolds", spec := "roomHolds", inPlace := ["internal/bytealg.abigen_runtime_cmpstring"], unfollowed := true, recurses := true, apart := false }
def RoomHoldsSaid : Prop := roomHoldsRow.holds Try.pinned (OpenSpec.ofChange roomHoldsSpec)

/-- ITS FALSE NEIGHBOUR: 'it returns false'. Refute it at one input. -/
def roomHoldsWrong : ChangeSpec := { name := "roomHolds", fn := fun _ => fun
  | [d1, d2] => { results := [.lit (.bool false)], args := [d1, d2] }
  | _ => none }
def RoomHoldsWrongFalsely : Prop := roomHoldsRow.holds Try.pinned (OpenSpec.ofChange roomHoldsWrong)

/-- 'stevedorelaw11.RoomAdds': WHATEVER THE INPUT: true; the input reads as it did. -/
def roomAddsSpec : ChangeSpec := { name := "roomAdds", fn := fun _ => fun
  | [d1, d2] => { results := [.lit (.bool true)], args := [d1, d2] }
  | _ => none }
def roomAddsRow : OpenClaim := { program := "ythoblccmdadmmaa", sum := "e7d1f1c270619cd58e7c42d4893ad2a06c135cd87b9a8fcaa83a0e9577c4629e", func := "stevedore/stevedorelaw11.RoomAdds", spec := "roomAdds", inPlace := ["internal/bytealg.abigen_runtime_cmpstring"], unfollowed := true, recurses := true, apart := false }
def RoomAddsSaid : Prop := roomAddsRow.holds Try.pinned (OpenSpec.ofChange roomAddsSpec)

/-- ITS FALSE NEIGHBOUR: 'it returns false'. Refute it at one input. -/
def roomAddsWrong : ChangeSpec := { name := "roomAdds", fn := fun _ => fun
  | [d1, d2] => { results := [.lit (.bool false)], args := [d1, d2] }
  | _ => none }
def RoomAddsWrongFalsely : Prop := roomAddsRow.holds Try.pinned (OpenSpec.ofChange roomAddsWrong)

/-- 'stevedorelaw11.RoomResize': WHATEVER THE INPUT: true; the input reads as it did. -/
def roomResizeSpec : ChangeSpec := { name := "roomResize", fn := fun _ => fun
  | [d1, d2] => { results := [.lit (.bool true)], args := [d1, d2] }
  | _ => none }
def roomResizeRow : OpenClaim := { program := "ythoblccmdadmmaa", sum := "e7d1f1c270619cd58e7c42d4893ad2a06c135cd87b9a8fcaa83a0e9577c4629e", func := "stevedore/stevedorelaw11.RoomResize", spec := "roomResize", inPlace := ["internal/bytealg.abigen_runtime_cmpstring"], unfollowed := true, recurses := true, apart := false }
def RoomResizeSaid : Prop := roomResizeRow.holds Try.pinned (OpenSpec.ofChange roomResizeSpec)

/-- ITS FALSE NEIGHBOUR: 'it returns false'. Refute it at one input. -/
def roomResizeWrong : ChangeSpec := { name := "roomResize", fn := fun _ => fun
  | [d1, d2] => { results := [.lit (.bool false)], args := [d1, d2] }
  | _ => none }
def RoomResizeWrongFalsely : Prop := roomResizeRow.holds Try.pinned (OpenSpec.ofChange roomResizeWrong)

/-- 'stevedorelaw11.RoomLimit': WHATEVER THE INPUT: true; the input reads as it did. -/
def roomLimitSpec : ChangeSpec := { name := "roomLimit", fn := fun _ => fun
  | [d1, d2] => { results := [.lit (.bool true)], args := [d1, d2] }
  | _ => none }
def roomLimitRow : OpenClaim := { program := "ythoblccmdadmmaa", sum := "e7d1f1c270619cd58e7c42d4893ad2a06c135cd87b9a8fcaa83a0e9577c4629e", func := "stevedore/stevedorelaw11.RoomLimit", spec := "roomLimit", inPlace := ["internal/bytealg.abigen_runtime_cmpstring"], unfollowed := true, recurses := true, apart := false }
def RoomLimitSaid : Prop := roomLimitRow.holds Try.pinned (OpenSpec.ofChange roomLimitSpec)

/-- ITS FALSE NEIGHBOUR: 'it returns false'. Refute it at one input. -/
def roomLimitWrong : ChangeSpec := { name := "roomLimit", fn := fun _ => fun
  | [d1, d2] => { results := [.lit (.bool false)], args := [d1, d2] }
  | _ => none }
def RoomLimitWrongFalsely : Prop := roomLimitRow.holds Try.pinned (OpenSpec.ofChange roomLimitWrong)

/-- 'stevedorelaw11.RoomFits': WHATEVER THE INPUT: true; the input reads as it did. -/
def roomFitsSpec : ChangeSpec := { name := "roomFits", fn := fun _ => fun
  | [d1, d2] => { results := [.lit (.bool true)], args := [d1, d2] }
  | _ => none }
def roomFitsRow : OpenClaim := { program := "ythoblccmdadmmaa", sum := "e7d1f1c270619cd58e7c42d4893ad2a06c135cd87b9a8fcaa83a0e9577c4629e", func := "stevedore/stevedorelaw11.RoomFits", spec := "roomFits", inPlace := ["internal/bytealg.abigen_runtime_cmpstring"], unfollowed := true, recurses := true, apart := false }
def RoomFitsSaid : Prop := roomFitsRow.holds Try.pinned (OpenSpec.ofChange roomFitsSpec)

/-- ITS FALSE NEIGHBOUR: 'it returns false'. Refute it at one input. -/
def roomFitsWrong : ChangeSpec := { name := "roomFits", fn := fun _ => fun
  | [d1, d2] => { results := [.lit (.bool false)], args := [d1, d2] }
  | _ => none }
def RoomFitsWrongFalsely : Prop := roomFitsRow.holds Try.pinned (OpenSpec.ofChange roomFitsWrong)

/-- 'stevedorelaw11.RoomOver': WHATEVER THE INPUT: true; the input reads as it did. -/
def roomOverSpec : ChangeSpec := { name := "roomOver", fn := fun _ => fun
  | [d] => { results := [.lit (.bool true)], args := [d] }
  | _ => none }
def roomOverRow : OpenClaim := { program := "ythoblccmdadmmaa", sum := "e7d1f1c270619cd58e7c42d4893ad2a06c135cd87b9a8fcaa83a0e9577c4629e", func := "stevedore/stevedorelaw11.RoomOver", spec := "roomOver", inPlace := ["internal/bytealg.abigen_runtime_cmpstring"], unfollowed := true, recurses := true, apart := false }
def RoomOverSaid : Prop := roomOverRow.holds Try.pinned (OpenSpec.ofChange roomOverSpec)

/-- ITS FALSE NEIGHBOUR: 'it returns false'. Refute it at one input. -/
def roomOverWrong : ChangeSpec := { name := "roomOver", fn := fun _ => fun
  | [d] => { results := [.lit (.bool false)], args := [d] }
  | _ => none }
def RoomOverWrongFalsely : Prop := roomOverRow.holds Try.pinned (OpenSpec.ofChange roomOverWrong)

/- THE SECOND FORM. 'bulk': how many values and letters a reading holds, each counted each time it is reached (what is shared counts as often as it is met; a slice's spare places count too). A statement '..UptoSaid' is the law's where the arguments, and the package variables that the reading takes, are together of bulk at most 1048576: NARROWER than '..Said'. Prove '..Said' where nothing that the law and all that it calls make is longer than what came in: it says more and counts as full. Else prove '..UptoSaid'. A law counts once. -/
mutual
def uptoBulk {H : Type} : DataW H → Nat
  | .lit (.string bytes) => bytes.length + 1
  | .lit _ => 1
  | .nil => 1
  | .ptr d => uptoBulk d + 1
  | .slice elems spare => uptoBulkAll elems + uptoBulkAll spare + 1
  | .agg parts => uptoBulkAll parts + 1
  | .iface _ d => uptoBulk d + 1
  | .map entries => uptoBulkEntries entries + 1
  | .held _ => 1
def uptoBulkAll {H : Type} : List (DataW H) → Nat
  | [] => 0
  | d :: r => uptoBulk d + uptoBulkAll r
def uptoBulkEntries {H : Type} : List (Lit × DataW H) → Nat
  | [] => 0
  | x :: r => uptoBulkEntry x + uptoBulkEntries r
def uptoBulkEntry {H : Type} : Lit × DataW H → Nat
  | (.string bytes, d) => bytes.length + uptoBulk d + 1
  | (_, d) => uptoBulk d + 1
 end
def uptoSmall : (H : Type) → List (DataW H) → Bool := fun _ ds => decide (uptoBulkAll ds ≤ 1048576)
def OpenSpec.upto (s : _root_.Go.ChangeSpec) : _root_.Go.OpenSpec := { _root_.Go.OpenSpec.ofChange s with cond := some uptoSmall }

/-- 'stevedorelaw11.RoomLoads', WHERE WHAT IT READS IS OF BULK AT MOST 1048576: true; the input reads as it did. -/
def roomLoadsUptoRow : OpenClaim := { program := "ythoblccmdadmmaa", sum := "e7d1f1c270619cd58e7c42d4893ad2a06c135cd87b9a8fcaa83a0e9577c4629e", func := "stevedore/stevedorelaw11.RoomLoads", spec := "roomLoads", inPlace := ["internal/bytealg.abigen_runtime_cmpstring"], unfollowed := true, recurses := true, apart := false, narrowed := true }
def RoomLoadsUptoSaid : Prop := roomLoadsUptoRow.holds Try.pinned (OpenSpec.upto roomLoadsSpec)

/-- 'stevedorelaw11.RoomTurns', WHERE WHAT IT READS IS OF BULK AT MOST 1048576: true; the input reads as it did. -/
def roomTurnsUptoRow : OpenClaim := { program := "ythoblccmdadmmaa", sum := "e7d1f1c270619cd58e7c42d4893ad2a06c135cd87b9a8fcaa83a0e9577c4629e", func := "stevedore/stevedorelaw11.RoomTurns", spec := "roomTurns", inPlace := ["internal/bytealg.abigen_runtime_cmpstring"], unfollowed := true, recurses := true, apart := false, narrowed := true }
def RoomTurnsUptoSaid : Prop := roomTurnsUptoRow.holds Try.pinned (OpenSpec.upto roomTurnsSpec)

/-- 'stevedorelaw11.RoomHolds', WHERE WHAT IT READS IS OF BULK AT MOST 1048576: true; the input reads as it did. -/
def roomHoldsUptoRow : OpenClaim := { program := "ythoblccmdadmmaa", sum := "e7d1f1c270619cd58e7c42d4893ad2a06c135cd87b9a8fcaa83a0e9577c4629e", func := "stevedore/stevedorelaw11.RoomHolds", spec := "roomHolds", inPlace := ["internal/bytealg.abigen_runtime_cmpstring"], unfollowed := true, recurses := true, apart := false, narrowed := true }
def RoomHoldsUptoSaid : Prop := roomHoldsUptoRow.holds Try.pinned (OpenSpec.upto roomHoldsSpec)

/-- 'stevedorelaw11.RoomAdds', WHERE WHAT IT READS IS OF BULK AT MOST 1048576: true; the input reads as it did. -/
def roomAddsUptoRow : OpenClaim := { program := "ythoblccmdadmmaa", sum := "e7d1f1c270619cd58e7c42d4893ad2a06c135cd87b9a8fcaa83a0e9577c4629e", func := "stevedore/stevedorelaw11.RoomAdds", spec := "roomAdds", inPlace := ["internal/bytealg.abigen_runtime_cmpstring"], unfollowed := true, recurses := true, apart := false, narrowed := true }
def RoomAddsUptoSaid : Prop := roomAddsUptoRow.holds Try.pinned (OpenSpec.upto roomAddsSpec)

/-- 'stevedorelaw11.RoomResize', WHERE WHAT IT READS IS OF BULK AT MOST 1048576: true; the input reads as it did. -/
def roomResizeUptoRow : OpenClaim := { program := "ythoblccmdadmmaa", sum := "e7d1f1c270619cd58e7c42d4893ad2a06c135cd87b9a8fcaa83a0e9577c4629e", func := "stevedore/stevedorelaw11.RoomResize", spec := "roomResize", inPlace := ["internal/bytealg.abigen_runtime_cmpstring"], unfollowed := true, recurses := true, apart := false, narrowed := true }
def RoomResizeUptoSaid : Prop := roomResizeUptoRow.holds Try.pinned (OpenSpec.upto roomResizeSpec)

/-- 'stevedorelaw11.RoomLimit', WHERE WHAT IT READS IS OF BULK AT MOST 1048576: true; the input reads as it did. -/
def roomLimitUptoRow : OpenClaim := { program := "ythoblccmdadmmaa", sum := "e7d1f1c270619cd58e7c42d4893ad2a06c135cd87b9a8fcaa83a0e9577c4629e", func := "stevedore/stevedorelaw11.RoomLimit", spec := "roomLimit", inPlace := ["internal/bytealg.abigen_runtime_cmpstring"], unfollowed := true, recurses := true, apart := false, narrowed := true }
def RoomLimitUptoSaid : Prop := roomLimitUptoRow.holds Try.pinned (OpenSpec.upto roomLimitSpec)

/-- 'stevedorelaw11.RoomFits', WHERE WHAT IT READS IS OF BULK AT MOST 1048576: true; the input reads as it did. -/
def roomFitsUptoRow : OpenClaim := { program := "ythoblccmdadmmaa", sum := "e7d1f1c270619cd58e7c42d4893ad2a06c135cd87b9a8fcaa83a0e9577c4629e", func := "stevedore/stevedorelaw11.RoomFits", spec := "roomFits", inPlace := ["internal/bytealg.abigen_runtime_cmpstring"], unfollowed := true, recurses := true, apart := false, narrowed := true }
def RoomFitsUptoSaid : Prop := roomFitsUptoRow.holds Try.pinned (OpenSpec.upto roomFitsSpec)

/-- 'stevedorelaw11.RoomOver', WHERE WHAT IT READS IS OF BULK AT MOST 1048576: true; the input reads as it did. -/
def roomOverUptoRow : OpenClaim := { program := "ythoblccmdadmmaa", sum := "e7d1f1c270619cd58e7c42d4893ad2a06c135cd87b9a8fcaa83a0e9577c4629e", func := "stevedore/stevedorelaw11.RoomOver", spec := "roomOver", inPlace := ["internal/bytealg.abigen_runtime_cmpstring"], unfollowed := true, recurses := true, apart := false, narrowed := true }
def RoomOverUptoSaid : Prop := roomOverUptoRow.holds Try.pinned (OpenSpec.upto roomOverSpec)

end Rows
end Go.Proofs.Ythoblccmdadmmaa
