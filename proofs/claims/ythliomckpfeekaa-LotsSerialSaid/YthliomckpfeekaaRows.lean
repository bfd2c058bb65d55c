/-
  No cell of these rows narrows 'for every input' (looked for: loops, veiled, ifaces, maps, wideKeys, modest, calm, conditions, laid).
  DERIVED. THE GIVEN ROWS OF THIS SEAT. 5 by the template 'for every input the law returns true; each argument reads behind the call as it read before'; 0 by the template 'total and deterministic' (their statements: YthliomckpfeekaaTotals.lean).
  GIVEN WITH THE SEED: the statements are not yours to turn. If you find one false, say at which input.
  Laid BY PROGRAM, IN A SANDBOX (cutbox-rows.mjs): the forced cells as the released guide's own fill.sh prints them over the translation 29e4a24abdef49e5… (all of the seat's roots in one cut). By AI agents, Wed Nov 11 2026. No macro, syntax, notation, axiom, sorry.
-/
import Derived.Test.YthliomckpfeekaaChecked
import GoSem.Claim
import GoSem.ClaimJoined
import GoSem.ClaimMapViews
import Derived.JoinedTies
import Derived.KernelRfl
namespace Go.Proofs.Ythliomckpfeekaa
/- THE CELL 'sum', in the pinned program and in every row, IS THE sha256 OF THE DUMP (.gsa) THAT YthliomckpfeekaaProg.lean LOADS. Nothing in Lean hashes anything: it is a label: what it is worth is what the hold of that sum in a sandbox is worth. -/
noncomputable def Try.pinned : Pinned := { name := "ythliomckpfeekaa", sum := "29e4a24abdef49e57fdbb669755e3dc71c4358db7b6f985590076a5db3e8b9d0", checked := Try.checked }
namespace Rows
def none {H : Type} : Left H := { results := [], args := [] }

/-- 'stevedorelaw09.LotsAdds': WHATEVER THE INPUT: true; the input reads as it did. -/
def lotsAddsSpec : ChangeSpec := { name := "lotsAdds", fn := fun _ => fun
  | [d1, d2, d3] => { results := [.lit (.bool true)], args := [d1, d2, d3] }
  | _ => none }
def lotsAddsRow : OpenClaim := { program := "ythliomckpfeekaa", sum := "29e4a24abdef49e57fdbb669755e3dc71c4358db7b6f985590076a5db3e8b9d0", func := "stevedore/stevedorelaw09.LotsAdds", spec := "lotsAdds", inPlace := ["internal/bytealg.abigen_runtime_cmpstring"], unfollowed := true, recurses := true, apart := false }
def LotsAddsSaid : Prop := lotsAddsRow.holds Try.pinned (OpenSpec.ofChange lotsAddsSpec)

/-- ITS FALSE NEIGHBOUR: 'it returns false'. Refute it at one input. -/
def lotsAddsWrong : ChangeSpec := { name := "lotsAdds", fn := fun _ => fun
  | [d1, d2, d3] => { results := [.lit (.bool false)], args := [d1, d2, d3] }
  | _ => none }
def LotsAddsWrongFalsely : Prop := lotsAddsRow.holds Try.pinned (OpenSpec.ofChange lotsAddsWrong)

/-- 'stevedorelaw09.LotsFits': WHATEVER THE INPUT: true; the input reads as it did. -/
def lotsFitsSpec : ChangeSpec := { name := "lotsFits", fn := fun _ => fun
  | [d1, d2] => { results := [.lit (.bool true)], args := [d1, d2] }
  | _ => none }
def lotsFitsRow : OpenClaim := { program := "ythliomckpfeekaa", sum := "29e4a24abdef49e57fdbb669755e3dc71c4358db7b6f985590076a5db3e8b9d0", func := "stevedore/stevedorelaw09.LotsFits", spec := "lotsFits", inPlace := ["internal/bytealg.abigen_runtime_cmpstring"], unfollowed := true, recurses := true, apart := false }
def LotsFitsSaid : Prop := lotsFitsRow.holds Try.pinned (OpenSpec.ofChange lotsFitsSpec)

/-- ITS FALSE NEIGHBOUR: 'it returns false'. Refute it at one input. -/
def lotsFitsWrong : ChangeSpec := { name := "lotsFits", fn := fun _ => fun
  | [d1, d2] => { results := [.lit (.bool false)], args := [d1, d2] }
  | _ => none }
def LotsFitsWrongFalsely : Prop := lotsFitsRow.holds Try.pinned (OpenSpec.ofChange lotsFitsWrong)

/-- 'stevedorelaw09.LotsSerial': WHATEVER THE INPUT: true; the input reads as it did. -/
def lotsSerialSpec : ChangeSpec := { name := "lotsSerial", fn := fun _ => fun
  | [d1, d2, d3] => { results := [.lit (.bool true)], args := [d1, d2, d3] }
  | _ => none }
def lotsSerialRow : OpenClaim := { program := "ythliomckpfeekaa", sum := "29e4a24abdef49e57fdbb669755e3dc71c4358db7b6f985590076a5db3e8b9d0", func := "stevedore/stevedorelaw09.LotsSerial", spec := "lotsSerial", inPlace := ["internal/bytealg.abigen_runtime_cmpstring"], unfollowed := true, recurses := true, apart := false }
def LotsSerialSaid : Prop := lotsSerialRow.holds Try.pinned (OpenSpec.ofChange lotsSerialSpec)

/-- ITS FALSE NEIGHBOUR: 'it returns false'. Refute it at one input. -/
def lotsSerialWrong : ChangeSpec := { name := "lotsSerial", fn := fun _ => fun
  | [d1, d2, d3] => { results := [.lit (.bool false)], args := [d1, d2, d3] }
  | _ => none }
def LotsSerialWrongFalsely : Prop := lotsSerialRow.holds Try.pinned (OpenSpec.ofChange lotsSerialWrong)

/-- 'stevedorelaw09.LotsDays': WHATEVER THE INPUT: true; the input reads as it did. -/
def lotsDaysSpec : ChangeSpec := { name := "lotsDays", fn := fun _ => fun
  | [d1, d2, d3] => { results := [.lit (.bool true)], args := [d1, d2, d3] }
  | _ => none }
def lotsDaysRow : OpenClaim := { program := "ythliomckpfeekaa", sum := "29e4a24abdef49e57fdbb669755e3dc71c4358db7b6f985590076a5db3e8b9d0", func := "stevedore/stevedorelaw09.LotsDays", spec := "lotsDays", inPlace := ["internal/bytealg.abigen_runtime_cmpstring"], unfollowed := true, recurses := true, apart := false }
def LotsDaysSaid : Prop := lotsDaysRow.holds Try.pinned (OpenSpec.ofChange lotsDaysSpec)

/-- ITS FALSE NEIGHBOUR: 'it returns false'. Refute it at one input. -/
def lotsDaysWrong : ChangeSpec := { name := "lotsDays", fn := fun _ => fun
  | [d1, d2, d3] => { results := [.lit (.bool false)], args := [d1, d2, d3] }
  | _ => none }
def LotsDaysWrongFalsely : Prop := lotsDaysRow.holds Try.pinned (OpenSpec.ofChange lotsDaysWrong)

/-- 'stevedorelaw09.LotsMay': WHATEVER THE INPUT: true; the input reads as it did. -/
def lotsMaySpec : ChangeSpec := { name := "lotsMay", fn := fun _ => fun
  | [d1, d2, d3] => { results := [.lit (.bool true)], args := [d1, d2, d3] }
  | _ => none }
def lotsMayRow : OpenClaim := { program := "ythliomckpfeekaa", sum := "29e4a24abdef49e57fdbb669755e3dc71c4358db7b6f985590076a5db3e8b9d0", func := "stevedore/stevedorelaw09.LotsMay", spec := "lotsMay", inPlace := ["internal/bytealg.abigen_runtime_cmpstring"], unfollowed := true, recurses := true, apart := false }
def LotsMaySaid : Prop := lotsMayRow.holds Try.pinned (OpenSpec.ofChange lotsMaySpec)

/-- ITS FALSE NEIGHBOUR: 'it returns false'. Refute it at one input. -/
def lotsMayWrong : ChangeSpec := { name := "lotsMay", fn := fun _ => fun
  | [d1, d2, d3] => { results := [.lit (.bool false)], args := [d1, d2, d3] }
  | _ => none }
def LotsMayWrongFalsely : Prop := lotsMayRow.holds Try.pinned (OpenSpec.ofChange lotsMayWrong)

/- THE SECOND FORM. 'bulk': how many values and letters a reading holds, each counted each time it is reached (what is shared counts as often as it is met; a slice's spare places count too). A statement '..UptoSaid' is the law's where the arguments, and the package variables that the reading takes, are together of bulk at most 1048576: NARROWER than '..Said'. Prove '..Said' where nothing that the law and all that it calls make is longer than what came in: it says more and counts as full. Else prove '..UptoSaid'. A law counts once. -/
mutual
def uptoBulk {H : Type} : DataW H → Nat
  | .lit (.string bytes) => bytes.length + 1
  | .lit _ => 1
  | .nil => 1
  | .ptr d => uptoBulk d + 1
  | .slice elems spare => uptoBulkAll elems + uptoBulkAll spare + 1
  | .agg parts => uptoBulkAll parts + 1
  | .iface _ d => uptoBulk d + 1
  | .map entries => uptoBulkEntries entries + 1
  | .held _ => 1
def uptoBulkAll {H : Type} : List (DataW H) → Nat
  | [] => 0
  | d :: r => uptoBulk d + uptoBulkAll r
def uptoBulkEntries {H : Type} : List (Lit × DataW H) → Nat
  | [] => 0
  | x :: r => uptoBulkEntry x + uptoBulkEntries r
def uptoBulkEntry {H : Type} : Lit × DataW H → Nat
  | (.string bytes, d) => bytes.length + uptoBulk d + 1
  | (_, d) => uptoBulk d + 1
 end
def uptoSmall : (H : Type) → List (DataW H) → Bool := fun _ ds => decide (uptoBulkAll ds ≤ 1048576)
def OpenSpec.upto (s : _root_.Go.ChangeSpec) : _root_.Go.OpenSpec := { _root_.Go.OpenSpec.ofChange s with cond := some uptoSmall }

/-- 'stevedorelaw09.LotsAdds', WHERE WHAT IT READS IS OF BULK AT MOST 1048576: true; the input reads as it did. -/
def lotsAddsUptoRow : OpenClaim := { program := "ythliomckpfeekaa", sum := "29e4a24abdef49e57fdbb669755e3dc71c4358db7b6f985590076a5db3e8b9d0", func := "stevedore/stevedorelaw09.LotsAdds", spec := "lotsAdds", inPlace := ["internal/bytealg.abigen_runtime_cmpstring"], unfollowed := true, recurses := true, apart := false, narrowed := true }
def LotsAddsUptoSaid : Prop := lotsAddsUptoRow.holds Try.pinned (OpenSpec.upto lotsAddsSpec)

/-- 'stevedorelaw09.LotsFits', WHERE WHAT IT READS IS OF BULK AT MOST 1048576: true; the input reads as it did. -/
def lotsFitsUptoRow : OpenClaim := { program := "ythliomckpfeekaa", sum := "29e4a24abdef49e57fdbb669755e3dc71c4358db7b6f985590076a5db3e8b9d0", func := "stevedore/stevedorelaw09.LotsFits", spec := "lotsFits", inPlace := ["internal/bytealg.abigen_runtime_cmpstring"], unfollowed := true, recurses := true, apart := false, narrowed := true }
def LotsFitsUptoSaid : Prop := lotsFitsUptoRow.holds Try.pinned (OpenSpec.upto lotsFitsSpec)

/-- 'stevedorelaw09.LotsSerial', WHERE WHAT IT READS IS OF BULK AT MOST 1048576: true; the input reads as it did. -/
def lotsSerialUptoRow : OpenClaim := { program := "ythliomckpfeekaa", sum := "29e4a24abdef49e57fdbb669755e3dc71c4358db7b6f985590076a5db3e8b9d0", func := "stevedore/stevedorelaw09.LotsSerial", spec := "lotsSerial", inPlace := ["internal/bytealg.abigen_runtime_cmpstring"], unfollowed := true, recurses := true, apart := false, narrowed := true }
def LotsSerialUptoSaid : Prop := lotsSerialUptoRow.holds Try.pinned (OpenSpec.upto lotsSerialSpec)

/-- 'stevedorelaw09.LotsDays', WHERE WHAT IT READS IS OF BULK AT MOST 1048576: true; the input reads as it did. -/
def lotsDaysUptoRow : OpenClaim := { program := "ythliomckpfeekaa", sum := "29e4a24abdef49e57fdbb669755e3dc71c4358db7b6f985590076a5db3e8b9d0", func := "stevedore/stevedorelaw09.LotsDays", spec := "lotsDays", inPlace := ["internal/bytealg.abigen_runtime_cmpstring"], unfollowed := true, recurses := true, apart := false, narrowed := true }
def LotsDaysUptoSaid : Prop := lotsDaysUptoRow.holds Try.pinned (OpenSpec.upto lotsDaysSpec)

/-- 'stevedorelaw09.LotsMay', WHERE WHAT IT READS IS OF BULK AT MOST 1048576: true; the input reads as it did. -/
def lotsMayUptoRow : OpenClaim := { program := "ythliomckpfeekaa", sum := "29e4a24abdef49e57fdbb669755e3dc71c4358db7b6f985590076a5db3e8b9d0", func := "stevedore/stevedorelaw09.LotsMay", spec := "lotsMay", inPlace := ["internal/bytealg.abigen_runtime_cmpstring"], unfollowed := true, recurses := true, apart := false, narrowed := true }
def LotsMayUptoSaid : Prop := lotsMayUptoRow.holds Try.pinned (OpenSpec.upto lotsMaySpec)

end Rows
end Go.Proofs.Ythliomckpfeekaa
