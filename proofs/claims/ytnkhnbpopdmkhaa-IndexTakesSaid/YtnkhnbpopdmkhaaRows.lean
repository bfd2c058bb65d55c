/-
  No cell of these rows narrows 'for every input' (looked for: loops, veiled, ifaces, maps, wideKeys, modest, calm, conditions, laid).
  DERIVED. THE GIVEN ROWS OF THIS SEAT. 3 by the template 'for every input the law returns true; each argument reads behind the call as it read before'; 0 by the template 'total and deterministic' (their statements: YtnkhnbpopdmkhaaTotals.lean).
  GIVEN WITH THE SEED: the statements are not yours to turn. If you find one false, say at which input.
  Laid BY PROGRAM, IN A SANDBOX (cutbox-rows.mjs): the forced cells as the released guide's own fill.sh prints them over the translation 697bc38dc7ab9ebe… (all of the seat's roots in one cut). By AI agents, Wed Nov 11 2026. No macro, syntax, notation, axiom, sorry.
-/
import Derived.Test.YtnkhnbpopdmkhaaChecked
import GoSem.Claim
import GoSem.ClaimJoined
import GoSem.ClaimMapViews
import Derived.JoinedTies
import Derived.KernelRfl
namespace Go.Proofs.Ytnkhnbpopdmkhaa
/- THE CELL 'sum', in the pinned program and in every row, IS THE sha256 OF THE DUMP (.gsa) THAT YtnkhnbpopdmkhaaProg.lean LOADS. Nothing in Lean hashes anything: it is a label: what it is worth is what the hold of that sum in a sandbox is worth. -/
noncomputable def Try.pinned : Pinned := { name := "ytnkhnbpopdmkhaa", sum := "697bc38dc7ab9ebe75aefab7f36a6559bd504688a5d1aba66fdb0180854ee4d4", checked := Try.checked }
namespace Rows
def none {H : Type} : Left H := { results := [], args := [] }

/-- 'stevedorelaw15.IndexTakes': WHATEVER THE INPUT: true; the input reads as it did. -/
def indexTakesSpec : ChangeSpec := { name := "indexTakes", fn := fun _ => fun
  | [d1, d2] => { results := [.lit (.bool true)], args := [d1, d2] }
  | _ => none }
def indexTakesRow : OpenClaim := { program := "ytnkhnbpopdmkhaa", sum := "697bc38dc7ab9ebe75aefab7f36a6559bd504688a5d1aba66fdb0180854ee4d4", func := "stevedore/stevedorelaw15.IndexTakes", spec := "indexTakes", inPlace := ["internal/bytealg.abigen_runtime_cmpstring", "slices.overlaps[stevedore/index.stand]"], unfollowed := true, recurses := true, plainKeys := false, apart := false }
def IndexTakesSaid : Prop := indexTakesRow.holds Try.pinned (OpenSpec.ofChange indexTakesSpec)

/-- ITS FALSE NEIGHBOUR: 'it returns false'. Refute it at one input. -/
def indexTakesWrong : ChangeSpec := { name := "indexTakes", fn := fun _ => fun
  | [d1, d2] => { results := [.lit (.bool false)], args := [d1, d2] }
  | _ => none }
def IndexTakesWrongFalsely : Prop := indexTakesRow.holds Try.pinned (OpenSpec.ofChange indexTakesWrong)

/-- 'stevedorelaw15.IndexNil': WHATEVER THE INPUT: true; the input reads as it did. -/
def indexNilSpec : ChangeSpec := { name := "indexNil", fn := fun _ => fun
  | [d1, d2] => { results := [.lit (.bool true)], args := [d1, d2] }
  | _ => none }
def indexNilRow : OpenClaim := { program := "ytnkhnbpopdmkhaa", sum := "697bc38dc7ab9ebe75aefab7f36a6559bd504688a5d1aba66fdb0180854ee4d4", func := "stevedore/stevedorelaw15.IndexNil", spec := "indexNil", inPlace := ["internal/bytealg.abigen_runtime_cmpstring", "slices.overlaps[stevedore/index.stand]"], unfollowed := true, recurses := true, plainKeys := false, apart := false }
def IndexNilSaid : Prop := indexNilRow.holds Try.pinned (OpenSpec.ofChange indexNilSpec)

/-- ITS FALSE NEIGHBOUR: 'it returns false'. Refute it at one input. -/
def indexNilWrong : ChangeSpec := { name := "indexNil", fn := fun _ => fun
  | [d1, d2] => { results := [.lit (.bool false)], args := [d1, d2] }
  | _ => none }
def IndexNilWrongFalsely : Prop := indexNilRow.holds Try.pinned (OpenSpec.ofChange indexNilWrong)

/-- 'stevedorelaw15.IndexOpens': WHATEVER THE INPUT: true; the input reads as it did. -/
def indexOpensSpec : ChangeSpec := { name := "indexOpens", fn := fun _ => fun
  | [d1, d2, d3] => { results := [.lit (.bool true)], args := [d1, d2, d3] }
  | _ => none }
def indexOpensRow : OpenClaim := { program := "ytnkhnbpopdmkhaa", sum := "697bc38dc7ab9ebe75aefab7f36a6559bd504688a5d1aba66fdb0180854ee4d4", func := "stevedore/stevedorelaw15.IndexOpens", spec := "indexOpens", inPlace := ["internal/bytealg.abigen_runtime_cmpstring", "slices.overlaps[stevedore/index.stand]"], unfollowed := true, recurses := true, plainKeys := false, apart := false }
def IndexOpensSaid : Prop := indexOpensRow.holds Try.pinned (OpenSpec.ofChange indexOpensSpec)

/-- ITS FALSE NEIGHBOUR: 'it returns false'. Refute it at one input. -/
def indexOpensWrong : ChangeSpec := { name := "indexOpens", fn := fun _ => fun
  | [d1, d2, d3] => { results := [.lit (.bool false)], args := [d1, d2, d3] }
  | _ => none }
def IndexOpensWrongFalsely : Prop := indexOpensRow.holds Try.pinned (OpenSpec.ofChange indexOpensWrong)

/- THE SECOND FORM. 'bulk': how many values and letters a reading holds, each counted each time it is reached (what is shared counts as often as it is met; a slice's spare places count too). A statement '..UptoSaid' is the law's where the arguments, and the package variables that the reading takes, are together of bulk at most 1048576: NARROWER than '..Said'. Prove '..Said' where nothing that the law and all that it calls make is longer than what came in: it says more and counts as full. Else prove '..UptoSaid'. A law counts once. -/
mutual
def uptoBulk {H : Type} : DataW H → Nat
  | .lit (.string bytes) => bytes.length + 1
  | .lit _ => 1
  | .nil => 1
  | .ptr d => uptoBulk d + 1
  | .slice elems spare => uptoBulkAll elems + uptoBulkAll spare + 1
  | .agg parts => uptoBulkAll parts + 1
  | .iface _ d => uptoBulk d + 1
  | .map entries => uptoBulkEntries entries + 1
  | .held _ => 1
def uptoBulkAll {H : Type} : List (DataW H) → Nat
  | [] => 0
  | d :: r => uptoBulk d + uptoBulkAll r
def uptoBulkEntries {H : Type} : List (Lit × DataW H) → Nat
  | [] => 0
  | x :: r => uptoBulkEntry x + uptoBulkEntries r
def uptoBulkEntry {H : Type} : Lit × DataW H → Nat
  | (.string bytes, d) => bytes.length + uptoBulk d + 1
  | (_, d) => uptoBulk d + 1
 end
def uptoSmall : (H : Type) → List (DataW H) → Bool := fun _ ds => decide (uptoBulkAll ds ≤ 1048576)
def OpenSpec.upto (s : _root_.Go.ChangeSpec) : _root_.Go.OpenSpec := { _root_.Go.OpenSpec.ofChange s with cond := some uptoSmall }

/-- 'stevedorelaw15.IndexTakes', WHERE WHAT IT READS IS OF BULK AT MOST 1048576: true; the input reads as it did. -/
def indexTakesUptoRow : OpenClaim := { program := "ytnkhnbpopdmkhaa", sum := "697bc38dc7ab9ebe75aefab7f36a6559bd504688a5d1aba66fdb0180854ee4d4", func := "stevedore/stevedorelaw15.IndexTakes", spec := "indexTakes", inPlace := ["internal/bytealg.abigen_runtime_cmpstring", "slices.overlaps[stevedore/index.stand]"], unfollowed := true, recurses := true, plainKeys := false, apart := false, narrowed := true }
def IndexTakesUptoSaid : Prop := indexTakesUptoRow.holds Try.pinned (OpenSpec.upto indexTakesSpec)

/-- 'stevedorelaw15.IndexNil', WHERE WHAT IT READS IS OF BULK AT MOST 1048576: true; the input reads as it did. -/
def indexNilUptoRow : OpenClaim := { program := "ytnkhnbpopdmkhaa", sum := "697bc38dc7ab9ebe75aefab7f36a6559bd504688a5d1aba66fdb0180854ee4d4", func := "stevedore/stevedorelaw15.IndexNil", spec := "indexNil", inPlace := ["internal/bytealg.abigen_runtime_cmpstring", "slices.overlaps[stevedore/index.stand]"], unfollowed := true, recurses := true, plainKeys := false, apart := false, narrowed := true }
def IndexNilUptoSaid : Prop := indexNilUptoRow.holds Try.pinned (OpenSpec.upto indexNilSpec)

/-- 'stevedorelaw15.IndexOpens', WHERE WHAT IT READS IS OF BULK AT MOST 1048576: true; the input reads as it did. -/
def indexOpensUptoRow : OpenClaim := { program := "ytnkhnbpopdmkhaa", sum := "697bc38dc7ab9ebe75aefab7f36a6559bd504688a5d1aba66fdb0180854ee4d4", func := "stevedore/stevedorelaw15.IndexOpens", spec := "indexOpens", inPlace := ["internal/bytealg.abigen_runtime_cmpstring", "slices.overlaps[stevedore/index.stand]"], unfollowed := true, recurses := true, plainKeys := false, apart := false, narrowed := true }
def IndexOpensUptoSaid : Prop := indexOpensUptoRow.holds Try.pinned (OpenSpec.upto indexOpensSpec)

end Rows
end Go.Proofs.Ytnkhnbpopdmkhaa
