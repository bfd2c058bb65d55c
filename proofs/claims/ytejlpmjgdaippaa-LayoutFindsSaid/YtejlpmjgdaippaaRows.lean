/-
  No cell of these rows narrows 'for every input' (looked for: loops, veiled, ifaces, maps, wideKeys, modest, calm, conditions, laid).
  DERIVED. THE GIVEN ROWS OF THIS SEAT. 7 by the template 'for every input the law returns true; each argument reads behind the call as it read before'; 0 by the template 'total and deterministic' (their statements: YtejlpmjgdaippaaTotals.lean).
  GIVEN WITH THE SEED: the statements are not yours to turn. If you find one false, say at which input.
  Laid BY PROGRAM, IN A SANDBOX (cutbox-rows.mjs): the forced cells as the released guide's own fill.sh prints them over the translation 8f6a9b8c26ad6d38… (all of the seat's roots in one cut). By AI agents, Wed Nov 11 2026. No macro, syntax, notation, axiom, sorry.
-/
import Derived.Test.YtejlpmjgdaippaaChecked
import GoSem.Claim
import GoSem.ClaimJoined
import GoSem.ClaimMapViews
import Derived.JoinedTies
import Derived.KernelRfl
namespace Go.Proofs.Ytejlpmjgdaippaa
/- THE CELL 'sum', in the pinned program and in every row, IS THE sha256 OF THE DUMP (.gsa) THAT YtejlpmjgdaippaaProg.lean LOADS. Nothing in Lean hashes anything: it is a label: what it is worth is what the hold of that sum in a sandbox is worth. -/
noncomputable def Try.pinned : Pinned := { name := "ytejlpmjgdaippaa", sum := "8f6a9b8c26ad6d389a48bcdc643925b51ff7ac01517833a3e410400d66901de3", checked := Try.checked }
namespace Rows
def none {H : Type} : Left H := { results := [], args := [] }

/-- 'stevedorelaw10.LayoutAdds': WHATEVER THE INPUT: true; the input reads as it did. -/
def layoutAddsSpec : ChangeSpec := { name := "layoutAdds", fn := fun _ => fun
  | [d1, d2, d3] => { results := [.lit (.bool true)], args := [d1, d2, d3] }
  | _ => none }
def layoutAddsRow : OpenClaim := { program := "ytejlpmjgdaippaa", sum := "8f6a9b8c26ad6d389a48bcdc643925b51ff7ac01517833a3e410400d66901de3", func := "stevedore/stevedorelaw10.LayoutAdds", spec := "layoutAdds", inPlace := ["internal/bytealg.abigen_runtime_cmpstring"], unfollowed := true, recurses := true, apart := false }
def LayoutAddsSaid : Prop := layoutAddsRow.holds Try.pinned (OpenSpec.ofChange layoutAddsSpec)

/-- ITS FALSE NEIGHBOUR: 'it returns false'. Refute it at one input. -/
def layoutAddsWrong : ChangeSpec := { name := "layoutAdds", fn := fun _ => fun
  | [d1, d2, d3] => { results := [.lit (.bool false)], args := [d1, d2, d3] }
  | _ => none }
def LayoutAddsWrongFalsely : Prop := layoutAddsRow.holds Try.pinned (OpenSpec.ofChange layoutAddsWrong)

/-- 'stevedorelaw10.LayoutFinds': WHATEVER THE INPUT: true; the input reads as it did. -/
def layoutFindsSpec : ChangeSpec := { name := "layoutFinds", fn := fun _ => fun
  | [d1, d2, d3] => { results := [.lit (.bool true)], args := [d1, d2, d3] }
  | _ => none }
def layoutFindsRow : OpenClaim := { program := "ytejlpmjgdaippaa", sum := "8f6a9b8c26ad6d389a48bcdc643925b51ff7ac01517833a3e410400d66901de3", func := "stevedore/stevedorelaw10.LayoutFinds", spec := "layoutFinds", inPlace := ["internal/bytealg.abigen_runtime_cmpstring"], unfollowed := true, recurses := true, apart := false }
def LayoutFindsSaid : Prop := layoutFindsRow.holds Try.pinned (OpenSpec.ofChange layoutFindsSpec)

/-- ITS FALSE NEIGHBOUR: 'it returns false'. Refute it at one input. -/
def layoutFindsWrong : ChangeSpec := { name := "layoutFinds", fn := fun _ => fun
  | [d1, d2, d3] => { results := [.lit (.bool false)], args := [d1, d2, d3] }
  | _ => none }
def LayoutFindsWrongFalsely : Prop := layoutFindsRow.holds Try.pinned (OpenSpec.ofChange layoutFindsWrong)

/-- 'stevedorelaw10.LayoutStands': WHATEVER THE INPUT: true; the input reads as it did. -/
def layoutStandsSpec : ChangeSpec := { name := "layoutStands", fn := fun _ => fun
  | [d1, d2] => { results := [.lit (.bool true)], args := [d1, d2] }
  | _ => none }
def layoutStandsRow : OpenClaim := { program := "ytejlpmjgdaippaa", sum := "8f6a9b8c26ad6d389a48bcdc643925b51ff7ac01517833a3e410400d66901de3", func := "stevedore/stevedorelaw10.LayoutStands", spec := "layoutStands", inPlace := ["internal/bytealg.abigen_runtime_cmpstring"], unfollowed := true, recurses := true, apart := false }
def LayoutStandsSaid : Prop := layoutStandsRow.holds Try.pinned (OpenSpec.ofChange layoutStandsSpec)

/-- ITS FALSE NEIGHBOUR: 'it returns false'. Refute it at one input. -/
def layoutStandsWrong : ChangeSpec := { name := "layoutStands", fn := fun _ => fun
  | [d1, d2] => { results := [.lit (.bool false)], args := [d1, d2] }
  | _ => none }
def LayoutStandsWrongFalsely : Prop := layoutStandsRow.holds Try.pinned (OpenSpec.ofChange layoutStandsWrong)

/-- 'stevedorelaw10.LayoutBins': WHATEVER THE INPUT: true; the input reads as it did. -/
def layoutBinsSpec : ChangeSpec := { name := "layoutBins", fn := fun _ => fun
  | [d1, d2] => { results := [.lit (.bool true)], args := [d1, d2] }
  | _ => none }
def layoutBinsRow : OpenClaim := { program := "ytejlpmjgdaippaa", sum := "8f6a9b8c26ad6d389a48bcdc643925b51ff7ac01517833a3e410400d66901de3", func := "stevedore/stevedorelaw10.LayoutBins", spec := "layoutBins", inPlace := ["internal/bytealg.abigen_runtime_cmpstring"], unfollowed := true, recurses := true, apart := false }
def LayoutBinsSaid : Prop := layoutBinsRow.holds Try.pinned (OpenSpec.ofChange layoutBinsSpec)

/-- ITS FALSE NEIGHBOUR: 'it returns false'. Refute it at one input. -/
def layoutBinsWrong : ChangeSpec := { name := "layoutBins", fn := fun _ => fun
  | [d1, d2] => { results := [.lit (.bool false)], args := [d1, d2] }
  | _ => none }
def LayoutBinsWrongFalsely : Prop := layoutBinsRow.holds Try.pinned (OpenSpec.ofChange layoutBinsWrong)

/-- 'stevedorelaw10.LayoutZones': WHATEVER THE INPUT: true; the input reads as it did. -/
def layoutZonesSpec : ChangeSpec := { name := "layoutZones", fn := fun _ => fun
  | [d1, d2] => { results := [.lit (.bool true)], args := [d1, d2] }
  | _ => none }
def layoutZonesRow : OpenClaim := { program := "ytejlpmjgdaippaa", sum := "8f6a9b8c26ad6d389a48bcdc643925b51ff7ac01517833a3e410400d66901de3", func := "stevedore/stevedorelaw10.LayoutZones", spec := "layoutZones", inPlace := ["internal/bytealg.abigen_runtime_cmpstring"], unfollowed := true, recurses := true, apart := false }
def LayoutZonesSaid : Prop := layoutZonesRow.holds Try.pinned (OpenSpec.ofChange layoutZonesSpec)

/-- ITS FALSE NEIGHBOUR: 'it returns false'. Refute it at one input. -/
def layoutZonesWrong : ChangeSpec := { name := "layoutZones", fn := fun _ => fun
  | [d1, d2] => { results := [.lit (.bool false)], args := [d1, d2] }
  | _ => none }
def LayoutZonesWrongFalsely : Prop := layoutZonesRow.holds Try.pinned (OpenSpec.ofChange layoutZonesWrong)

/-- 'stevedorelaw10.LayoutFreeze': WHATEVER THE INPUT: true; the input reads as it did. -/
def layoutFreezeSpec : ChangeSpec := { name := "layoutFreeze", fn := fun _ => fun
  | [d1, d2, d3] => { results := [.lit (.bool true)], args := [d1, d2, d3] }
  | _ => none }
def layoutFreezeRow : OpenClaim := { program := "ytejlpmjgdaippaa", sum := "8f6a9b8c26ad6d389a48bcdc643925b51ff7ac01517833a3e410400d66901de3", func := "stevedore/stevedorelaw10.LayoutFreeze", spec := "layoutFreeze", inPlace := ["internal/bytealg.abigen_runtime_cmpstring"], unfollowed := true, recurses := true, apart := false }
def LayoutFreezeSaid : Prop := layoutFreezeRow.holds Try.pinned (OpenSpec.ofChange layoutFreezeSpec)

/-- ITS FALSE NEIGHBOUR: 'it returns false'. Refute it at one input. -/
def layoutFreezeWrong : ChangeSpec := { name := "layoutFreeze", fn := fun _ => fun
  | [d1, d2, d3] => { results := [.lit (.bool false)], args := [d1, d2, d3] }
  | _ => none }
def LayoutFreezeWrongFalsely : Prop := layoutFreezeRow.holds Try.pinned (OpenSpec.ofChange layoutFreezeWrong)

/-- 'stevedorelaw10.LayoutSites': WHATEVER THE INPUT: true; the input reads as it did. -/
def layoutSitesSpec : ChangeSpec := { name := "layoutSites", fn := fun _ => fun
  | [d1, d2] => { results := [.lit (.bool true)], args := [d1, d2] }
  | _ => none }
def layoutSitesRow : OpenClaim := { program := "ytejlpmjgdaippaa", sum := "8f6a9b8c26ad6d389a48bcdc643925b51ff7ac01517833a3e410400d66901de3", func := "stevedore/stevedorelaw10.LayoutSites", spec := "layoutSites", inPlace := ["internal/bytealg.abigen_runtime_cmpstring"], unfollowed := true, recurses := true, apart := false }
def LayoutSitesSaid : Prop := layoutSitesRow.holds Try.pinned (OpenSpec.ofChange layoutSitesSpec)

/-- ITS FALSE NEIGHBOUR: 'it returns false'. Refute it at one input. -/
def layoutSitesWrong : ChangeSpec := { name := "layoutSites", fn := fun _ => fun
  | [d1, d2] => { results := [.lit (.bool false)], args := [d1, d2] }
  | _ => none }
def LayoutSitesWrongFalsely : Prop := layoutSitesRow.holds Try.pinned (OpenSpec.ofChange layoutSitesWrong)

/- THE SECOND FORM. 'bulk': how many values and letters a reading holds, each counted each time it is reached (what is shared counts as often as it is met; a slice's spare places count too). A statement '..UptoSaid' is the law's where the arguments, and the package variables that the reading takes, are together of bulk at most 1048576: NARROWER than '..Said'. Prove '..Said' where nothing that the law and all that it calls make is longer than what came in: it says more and counts as full. Else prove '..UptoSaid'. A law counts once. -/
mutual
def uptoBulk {H : Type} : DataW H → Nat
  | .lit (.string bytes) => bytes.length + 1
  | .lit _ => 1
  | .nil => 1
  | .ptr d => uptoBulk d + 1
  | .slice elems spare => uptoBulkAll elems + uptoBulkAll spare + 1
  | .agg parts => uptoBulkAll parts + 1
  | .iface _ d => uptoBulk d + 1
  | .map entries => uptoBulkEntries entries + 1
  | .held _ => 1
def uptoBulkAll {H : Type} : List (DataW H) → Nat
  | [] => 0
  | d :: r => uptoBulk d + uptoBulkAll r
def uptoBulkEntries {H : Type} : List (Lit × DataW H) → Nat
  | [] => 0
  | x :: r => uptoBulkEntry x + uptoBulkEntries r
def uptoBulkEntry {H : Type} : Lit × DataW H → Nat
  | (.string bytes, d) => bytes.length + uptoBulk d + 1
  | (_, d) => uptoBulk d + 1
 end
def uptoSmall : (H : Type) → List (DataW H) → Bool := fun _ ds => decide (uptoBulkAll ds ≤ 1048576)
def OpenSpec.upto (s : _root_.Go.ChangeSpec) : _root_.Go.OpenSpec := { _root_.Go.OpenSpec.ofChange s with cond := some uptoSmall }

/-- 'stevedorelaw10.LayoutAdds', WHERE WHAT IT READS IS OF BULK AT MOST 1048576: true; the input reads as it did. -/
def layoutAddsUptoRow : OpenClaim := { program := "ytejlpmjgdaippaa", sum := "8f6a9b8c26ad6d389a48bcdc643925b51ff7ac01517833a3e410400d66901de3", func := "stevedore/stevedorelaw10.LayoutAdds", spec := "layoutAdds", inPlace := ["internal/bytealg.abigen_runtime_cmpstring"], unfollowed := true, recurses := true, apart := false, narrowed := true }
def LayoutAddsUptoSaid : Prop := layoutAddsUptoRow.holds Try.pinned (OpenSpec.upto layoutAddsSpec)

/-- 'stevedorelaw10.LayoutFinds', WHERE WHAT IT READS IS OF BULK AT MOST 1048576: true; the input reads as it did. -/
def layoutFindsUptoRow : OpenClaim := { program := "ytejlpmjgdaippaa", sum := "8f6a9b8c26ad6d389a48bcdc643925b51ff7ac01517833a3e410400d66901de3", func := "stevedore/stevedorelaw10.LayoutFinds", spec := "layoutFinds", inPlace := ["internal/bytealg.abigen_runtime_cmpstring"], unfollowed := true, recurses := true, apart := false, narrowed := true }
def LayoutFindsUptoSaid : Prop := layoutFindsUptoRow.holds Try.pinned (OpenSpec.upto layoutFindsSpec)

/-- 'stevedorelaw10.LayoutStands', WHERE WHAT IT READS IS OF BULK AT MOST 1048576: true; the input reads as it did. -/
def layoutStandsUptoRow : OpenClaim := { program := "ytejlpmjgdaippaa", sum := "8f6a9b8c26ad6d389a48bcdc643925b51ff7ac01517833a3e410400d66901de3", func := "stevedore/stevedorelaw10.LayoutStands", spec := "layoutStands", inPlace := ["internal/bytealg.abigen_runtime_cmpstring"], unfollowed := true, recurses := true, apart := false, narrowed := true }
def LayoutStandsUptoSaid : Prop := layoutStandsUptoRow.holds Try.pinned (OpenSpec.upto layoutStandsSpec)

/-- 'stevedorelaw10.LayoutBins', WHERE WHAT IT READS IS OF BULK AT MOST 1048576: true; the input reads as it did. -/
def layoutBinsUptoRow : OpenClaim := { program := "ytejlpmjgdaippaa", sum := "8f6a9b8c26ad6d389a48bcdc643925b51ff7ac01517833a3e410400d66901de3", func := "stevedore/stevedorelaw10.LayoutBins", spec := "layoutBins", inPlace := ["internal/bytealg.abigen_runtime_cmpstring"], unfollowed := true, recurses := true, apart := false, narrowed := true }
def LayoutBinsUptoSaid : Prop := layoutBinsUptoRow.holds Try.pinned (OpenSpec.upto layoutBinsSpec)

/-- 'stevedorelaw10.LayoutZones', WHERE WHAT IT READS IS OF BULK AT MOST 1048576: true; the input reads as it did. -/
def layoutZonesUptoRow : OpenClaim := { program := "ytejlpmjgdaippaa", sum := "8f6a9b8c26ad6d389a48bcdc643925b51ff7ac01517833a3e410400d66901de3", func := "stevedore/stevedorelaw10.LayoutZones", spec := "layoutZones", inPlace := ["internal/bytealg.abigen_runtime_cmpstring"], unfollowed := true, recurses := true, apart := false, narrowed := true }
def LayoutZonesUptoSaid : Prop := layoutZonesUptoRow.holds Try.pinned (OpenSpec.upto layoutZonesSpec)

/-- 'stevedorelaw10.LayoutFreeze', WHERE WHAT IT READS IS OF BULK AT MOST 1048576: true; the input reads as it did. -/
def layoutFreezeUptoRow : OpenClaim := { program := "ytejlpmjgdaippaa", sum := "8f6a9b8c26ad6d389a48bcdc643925b51ff7ac01517833a3e410400d66901de3", func := "stevedore/stevedorelaw10.LayoutFreeze", spec := "layoutFreeze", inPlace := ["internal/bytealg.abigen_runtime_cmpstring"], unfollowed := true, recurses := true, apart := false, narrowed := true }
def LayoutFreezeUptoSaid : Prop := layoutFreezeUptoRow.holds Try.pinned (OpenSpec.upto layoutFreezeSpec)

/-- 'stevedorelaw10.LayoutSites', WHERE WHAT IT READS IS OF BULK AT MOST 1048576: true; the input reads as it did. -/
def layoutSitesUptoRow : OpenClaim := { program := "ytejlpmjgdaippaa", sum := "8f6a9b8c26ad6d389a48bcdc643925b51ff7ac01517833a3e410400d66901de3", func := "stevedore/stevedorelaw10.LayoutSites", spec := "layoutSites", inPlace := ["internal/bytealg.abigen_runtime_cmpstring"], unfollowed := true, recurses := true, apart := false, narrowed := true }
def LayoutSitesUptoSaid : Prop := layoutSitesUptoRow.holds Try.pinned (OpenSpec.upto layoutSitesSpec)

end Rows
end Go.Proofs.Ytejlpmjgdaippaa
