/-
  No cell of these rows narrows 'for every input' (looked for: loops, veiled, ifaces, maps, wideKeys, modest, calm, conditions, laid).
  DERIVED. THE GIVEN ROWS OF THIS SEAT. 5 by the template 'for every input the law returns true; each argument reads behind the call as it read before'; 0 by the template 'total and deterministic' (their statements: YtcihibmapbigdaaTotals.lean).
  GIVEN WITH THE SEED: the statements are not yours to turn. If you find one false, say at which input.
  Laid BY PROGRAM, IN A SANDBOX (cutbox-rows.mjs): the forced cells as the released guide's own fill.sh prints them over the translation 7fd06718a575ac48… (all of the seat's roots in one cut). By AI agents, Wed Nov 11 2026. No macro, syntax, notation, axiom, sorry.
-/
import Derived.Test.YtcihibmapbigdaaChecked
import GoSem.Claim
import GoSem.ClaimJoined
import GoSem.ClaimMapViews
import Derived.JoinedTies
import Derived.KernelRfl
namespace Go.Proofs.Ytcihibmapbigdaa
/- THE CELL 'sum', in the pinned program and in every row, IS THE sha256 OF THE DUMP (.gsa) THAT YtcihibmapbigdaaProg.lean LOADS. Nothing in Lean hashes anything: it is a label: what it is worth is what the hold of that sum in a sandbox is worth. -/
noncomputable def Try.pinned : Pinned := { name := "ytcihibmapbigdaa", sum := "7fd06718a575ac484d237455e5ab93d44a120e43c28499ab8424c0d382bfd1fb", checked := Try.checked }
namespace Rows
def none {H : Type} : Left H := { results := [], args := [] }

/-- 'stevedorelaw07.ItemsAdds': WHATEVER THE INPUT: true; the input reads as it did. -/
def itemsAddsSpec : ChangeSpec := { name := "itemsAdds", fn := fun _ => fun
  | [d1, d2, d3] => { results := [.lit (.bool true)], args := [d1, d2, d3] }
  | _ => none }
def itemsAddsRow : OpenClaim := { program := "ytcihibmapbigdaa", sum := "7fd06718a575ac484d237455e5ab93d44a120e43c28499ab8424c0d382bfd1fb", func := "stevedore/stevedorelaw07.ItemsAdds", spec := "itemsAdds", inPlace := ["internal/bytealg.abigen_runtime_cmpstring"], unfollowed := true, recurses := true, apart := false }
def ItemsAddsSaid : Prop := itemsAddsRow.holds Try.pinned (OpenSpec.ofChange itemsAddsSpec)

/-- ITS FALSE NEIGHBOUR: 'it returns false'. Refute it at one input. -/
def itemsAddsWrong : ChangeSpec := { name := "itemsAdds", fn := fun _ => fun
  | [d1, d2, d3] => { results := [.lit (.bool false)], args := [d1, d2, d3] }
  | _ => none }
def ItemsAddsWrongFalsely : Prop := itemsAddsRow.holds Try.pinned (OpenSpec.ofChange itemsAddsWrong)

/-- 'stevedorelaw07.ItemsFinds': WHATEVER THE INPUT: true; the input reads as it did. -/
def itemsFindsSpec : ChangeSpec := { name := "itemsFinds", fn := fun _ => fun
  | [d] => { results := [.lit (.bool true)], args := [d] }
  | _ => none }
def itemsFindsRow : OpenClaim := { program := "ytcihibmapbigdaa", sum := "7fd06718a575ac484d237455e5ab93d44a120e43c28499ab8424c0d382bfd1fb", func := "stevedore/stevedorelaw07.ItemsFinds", spec := "itemsFinds", inPlace := ["internal/bytealg.abigen_runtime_cmpstring"], unfollowed := true, recurses := true, apart := false }
def ItemsFindsSaid : Prop := itemsFindsRow.holds Try.pinned (OpenSpec.ofChange itemsFindsSpec)

/-- ITS FALSE NEIGHBOUR: 'it returns false'. Refute it at one input. -/
def itemsFindsWrong : ChangeSpec := { name := "itemsFinds", fn := fun _ => fun
  | [d] => { results := [.lit (.bool false)], args := [d] }
  | _ => none }
def ItemsFindsWrongFalsely : Prop := itemsFindsRow.holds Try.pinned (OpenSpec.ofChange itemsFindsWrong)

/-- 'stevedorelaw07.ItemsChecks': WHATEVER THE INPUT: true; the input reads as it did. -/
def itemsChecksSpec : ChangeSpec := { name := "itemsChecks", fn := fun _ => fun
  | [d] => { results := [.lit (.bool true)], args := [d] }
  | _ => none }
def itemsChecksRow : OpenClaim := { program := "ytcihibmapbigdaa", sum := "7fd06718a575ac484d237455e5ab93d44a120e43c28499ab8424c0d382bfd1fb", func := "stevedore/stevedorelaw07.ItemsChecks", spec := "itemsChecks", inPlace := ["internal/bytealg.abigen_runtime_cmpstring"], unfollowed := true, recurses := true, apart := false }
def ItemsChecksSaid : Prop := itemsChecksRow.holds Try.pinned (OpenSpec.ofChange itemsChecksSpec)

/-- ITS FALSE NEIGHBOUR: 'it returns false'. Refute it at one input. -/
def itemsChecksWrong : ChangeSpec := { name := "itemsChecks", fn := fun _ => fun
  | [d] => { results := [.lit (.bool false)], args := [d] }
  | _ => none }
def ItemsChecksWrongFalsely : Prop := itemsChecksRow.holds Try.pinned (OpenSpec.ofChange itemsChecksWrong)

/-- 'stevedorelaw07.ItemsIs': WHATEVER THE INPUT: true; the input reads as it did. -/
def itemsIsSpec : ChangeSpec := { name := "itemsIs", fn := fun _ => fun
  | [d] => { results := [.lit (.bool true)], args := [d] }
  | _ => none }
def itemsIsRow : OpenClaim := { program := "ytcihibmapbigdaa", sum := "7fd06718a575ac484d237455e5ab93d44a120e43c28499ab8424c0d382bfd1fb", func := "stevedore/stevedorelaw07.ItemsIs", spec := "itemsIs", inPlace := ["internal/bytealg.abigen_runtime_cmpstring"], unfollowed := true, recurses := true, apart := false }
def ItemsIsSaid : Prop := itemsIsRow.holds Try.pinned (OpenSpec.ofChange itemsIsSpec)

/-- ITS FALSE NEIGHBOUR: 'it returns false'. Refute it at one input. -/
def itemsIsWrong : ChangeSpec := { name := "itemsIs", fn := fun _ => fun
  | [d] => { results := [.lit (.bool false)], args := [d] }
  | _ => none }
def ItemsIsWrongFalsely : Prop := itemsIsRow.holds Try.pinned (OpenSpec.ofChange itemsIsWrong)

/-- 'stevedorelaw07.ItemsLooks': WHATEVER THE INPUT: true; the input reads as it did. -/
def itemsLooksSpec : ChangeSpec := { name := "itemsLooks", fn := fun _ => fun
  | [d1, d2] => { results := [.lit (.bool true)], args := [d1, d2] }
  | _ => none }
def itemsLooksRow : OpenClaim := { program := "ytcihibmapbigdaa", sum := "7fd06718a575ac484d237455e5ab93d44a120e43c28499ab8424c0d382bfd1fb", func := "stevedore/stevedorelaw07.ItemsLooks", spec := "itemsLooks", inPlace := ["internal/bytealg.abigen_runtime_cmpstring"], unfollowed := true, recurses := true, apart := false }
def ItemsLooksSaid : Prop := itemsLooksRow.holds Try.pinned (OpenSpec.ofChange itemsLooksSpec)

/-- ITS FALSE NEIGHBOUR: 'it returns false'. Refute it at one input. -/
def itemsLooksWrong : ChangeSpec := { name := "itemsLooks", fn := fun _ => fun
  | [d1, d2] => { results := [.lit (.bool false)], args := [d1, d2] }
  | _ => none }
def ItemsLooksWrongFalsely : Prop := itemsLooksRow.holds Try.pinned (OpenSpec.ofChange itemsLooksWrong)

/- THE SECOND FORM. 'bulk': how many values and letters a reading holds, each counted each time it is reached (what is shared counts as often as it is met; a slice's spare places count too). A statement '..UptoSaid' is the law's where the arguments, and the package variables that the reading takes, are together of bulk at most 1048576: NARROWER than '..Said'. Prove '..Said' where nothing that the law and all that it calls make is longer than what came in: it says more and counts as full. Else prove '..UptoSaid'. A law counts once. -/
mutual
def uptoBulk {H : Type} : DataW H → Nat
  | .lit (.string bytes) => bytes.length + 1
  | .lit _ => 1
  | .nil => 1
  | .ptr d => uptoBulk d + 1
  | .slice elems spare => uptoBulkAll elems + uptoBulkAll spare + 1
  | .agg parts => uptoBulkAll parts + 1
  | .iface _ d => uptoBulk d + 1
  | .map entries => uptoBulkEntries entries + 1
  | .held _ => 1
def uptoBulkAll {H : Type} : List (DataW H) → Nat
  | [] => 0
  | d :: r => uptoBulk d + uptoBulkAll r
def uptoBulkEntries {H : Type} : List (Lit × DataW H) → Nat
  | [] => 0
  | x :: r => uptoBulkEntry x + uptoBulkEntries r
def uptoBulkEntry {H : Type} : Lit × DataW H → Nat
  | (.string bytes, d) => bytes.length + uptoBulk d + 1
  | (_, d) => uptoBulk d + 1
 end
def uptoSmall : (H : Type) → List (DataW H) → Bool := fun _ ds => decide (uptoBulkAll ds ≤ 1048576)
def OpenSpec.upto (s : _root_.Go.ChangeSpec) : _root_.Go.OpenSpec := { _root_.Go.OpenSpec.ofChange s with cond := some uptoSmall }

/-- 'stevedorelaw07.ItemsAdds', WHERE WHAT IT READS IS OF BULK AT MOST 1048576: true; the input reads as it did. -/
def itemsAddsUptoRow : OpenClaim := { program := "ytcihibmapbigdaa", sum := "7fd06718a575ac484d237455e5ab93d44a120e43c28499ab8424c0d382bfd1fb", func := "stevedore/stevedorelaw07.ItemsAdds", spec := "itemsAdds", inPlace := ["internal/bytealg.abigen_runtime_cmpstring"], unfollowed := true, recurses := true, apart := false, narrowed := true }
def ItemsAddsUptoSaid : Prop := itemsAddsUptoRow.holds Try.pinned (OpenSpec.upto itemsAddsSpec)

/-- 'stevedorelaw07.ItemsFinds', WHERE WHAT IT READS IS OF BULK AT MOST 1048576: true; the input reads as it did. -/
def itemsFindsUptoRow : OpenClaim := { program := "ytcihibmapbigdaa", sum := "7fd06718a575ac484d237455e5ab93d44a120e43c28499ab8424c0d382bfd1fb", func := "stevedore/stevedorelaw07.ItemsFinds", spec := "itemsFinds", inPlace := ["internal/bytealg.abigen_runtime_cmpstring"], unfollowed := true, recurses := true, apart := false, narrowed := true }
def ItemsFindsUptoSaid : Prop := itemsFindsUptoRow.holds Try.pinned (OpenSpec.upto itemsFindsSpec)

/-- 'stevedorelaw07.ItemsChecks', WHERE WHAT IT READS IS OF BULK AT MOST 1048576: true; the input reads as it did. -/
def itemsChecksUptoRow : OpenClaim := { program := "ytcihibmapbigdaa", sum := "7fd06718a575ac484d237455e5ab93d44a120e43c28499ab8424c0d382bfd1fb", func := "stevedore/stevedorelaw07.ItemsChecks", spec := "itemsChecks", inPlace := ["internal/bytealg.abigen_runtime_cmpstring"], unfollowed := true, recurses := true, apart := false, narrowed := true }
def ItemsChecksUptoSaid : Prop := itemsChecksUptoRow.holds Try.pinned (OpenSpec.upto itemsChecksSpec)

/-- 'stevedorelaw07.ItemsIs', WHERE WHAT IT READS IS OF BULK AT MOST 1048576: true; the input reads as it did. -/
def itemsIsUptoRow : OpenClaim := { program := "ytcihibmapbigdaa", sum := "7fd06718a575ac484d237455e5ab93d44a120e43c28499ab8424c0d382bfd1fb", func := "stevedore/stevedorelaw07.ItemsIs", spec := "itemsIs", inPlace := ["internal/bytealg.abigen_runtime_cmpstring"], unfollowed := true, recurses := true, apart := false, narrowed := true }
def ItemsIsUptoSaid : Prop := itemsIsUptoRow.holds Try.pinned (OpenSpec.upto itemsIsSpec)

/-- 'stevedorelaw07.ItemsLooks', WHERE WHAT IT READS IS OF BULK AT MOST 1048576: true; the input reads as it did. -/
def itemsLooksUptoRow : OpenClaim := { program := "ytcihibmapbigdaa", sum := "7fd06718a575ac484d237455e5ab93d44a120e43c28499ab8424c0d382bfd1fb", func := "stevedore/stevedorelaw07.ItemsLooks", spec := "itemsLooks", inPlace := ["internal/bytealg.abigen_runtime_cmpstring"], unfollowed := true, recurses := true, apart := false, narrowed := true }
def ItemsLooksUptoSaid : Prop := itemsLooksUptoRow.holds Try.pinned (OpenSpec.upto itemsLooksSpec)

end Rows
end Go.Proofs.Ytcihibmapbigdaa
