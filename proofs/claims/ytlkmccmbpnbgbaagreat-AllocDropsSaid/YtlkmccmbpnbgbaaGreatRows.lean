/-
  No cell of these rows narrows 'for every input' (looked for: loops, veiled, ifaces, maps, wideKeys, modest, calm, conditions, laid).
  DERIVED. THE GIVEN ROWS OF THIS SEAT. 5 by the template 'for every input the law returns true; each argument reads behind the call as it read before'; 0 by the template 'total and deterministic' (their statements: YtlkmccmbpnbgbaaGreatTotals.lean).
  GIVEN WITH THE SEED: the statements are not yours to turn. If you find one false, say at which input.
  Laid BY PROGRAM, IN A SANDBOX (cutbox-rows.mjs): the forced cells as the released guide's own fill.sh prints them over the translation acf671ced3628c71… (all of the seat's roots in one cut). By AI agents, Wed Nov 11 2026. No macro, syntax, notation, axiom, sorry.
-/
import Derived.Test.YtlkmccmbpnbgbaaGreatChecked
import GoSem.Claim
import GoSem.ClaimJoined
import GoSem.ClaimMapViews
import Derived.JoinedTies
import Derived.KernelRfl
namespace Go.Proofs.YtlkmccmbpnbgbaaGreat
/- THE CELL 'sum', in the pinned program and in every row, IS THE sha256 OF THE DUMP (.gsa) THAT YtlkmccmbpnbgbaaGreatProg.lean LOADS. Nothing in Lean hashes anything: it is a label: what it is worth is what the hold of that sum in a sandbox is worth. -/
noncomputable def Tryz.pinned : Pinned := { name := "ytlkmccmbpnbgbaagreat", sum := "acf671ced3628c71bc67d3a920b494756761f4a01f511c50c10646de352e63e2", checked := Tryz.checked }
namespace Rows
def none {H : Type} : Left H := { results := [], args := [] }

/-- 'stevedorelaw16.AllocOrders': WHATEVER THE INPUT: true; the input reads as it did. -/
def allocOrdersSpec : ChangeSpec := { name := "allocOrders", fn := fun _ => fun
  | [d1, d2, d3] => { results := [.lit (.bool true)], args := [d1, d2, d3] }
  | _ => none }
def allocOrdersRow : OpenClaim := { program := "ytlkmccmbpnbgbaagreat", sum := "acf671ced3628c71bc67d3a920b494756761f4a01f511c50c10646de352e63e2", func := "stevedore/stevedorelaw16.AllocOrders", spec := "allocOrders", inPlace := ["internal/bytealg.abigen_runtime_cmpstring"], unfollowed := true, recurses := true, apart := false }
def AllocOrdersSaid : Prop := allocOrdersRow.holds Tryz.pinned (OpenSpec.ofChange allocOrdersSpec)

/-- ITS FALSE NEIGHBOUR: 'it returns false'. Refute it at one input. -/
def allocOrdersWrong : ChangeSpec := { name := "allocOrders", fn := fun _ => fun
  | [d1, d2, d3] => { results := [.lit (.bool false)], args := [d1, d2, d3] }
  | _ => none }
def AllocOrdersWrongFalsely : Prop := allocOrdersRow.holds Tryz.pinned (OpenSpec.ofChange allocOrdersWrong)

/-- 'stevedorelaw16.AllocHolds': WHATEVER THE INPUT: true; the input reads as it did. -/
def allocHoldsSpec : ChangeSpec := { name := "allocHolds", fn := fun _ => fun
  | [d1, d2] => { results := [.lit (.bool true)], args := [d1, d2] }
  | _ => none }
def allocHoldsRow : OpenClaim := { program := "ytlkmccmbpnbgbaagreat", sum := "acf671ced3628c71bc67d3a920b494756761f4a01f511c50c10646de352e63e2", func := "stevedore/stevedorelaw16.AllocHolds", spec := "allocHolds", inPlace := ["internal/bytealg.abigen_runtime_cmpstring"], unfollowed := true, recurses := true, apart := false }
def AllocHoldsSaid : Prop := allocHoldsRow.holds Tryz.pinned (OpenSpec.ofChange allocHoldsSpec)

/-- ITS FALSE NEIGHBOUR: 'it returns false'. Refute it at one input. -/
def allocHoldsWrong : ChangeSpec := { name := "allocHolds", fn := fun _ => fun
  | [d1, d2] => { results := [.lit (.bool false)], args := [d1, d2] }
  | _ => none }
def AllocHoldsWrongFalsely : Prop := allocHoldsRow.holds Tryz.pinned (OpenSpec.ofChange allocHoldsWrong)

/-- 'stevedorelaw16.AllocDrops': WHATEVER THE INPUT: true; the input reads as it did. -/
def allocDropsSpec : ChangeSpec := { name := "allocDrops", fn := fun _ => fun
  | [d1, d2] => { results := [.lit (.bool true)], args := [d1, d2] }
  | _ => none }
def allocDropsRow : OpenClaim := { program := "ytlkmccmbpnbgbaagreat", sum := "acf671ced3628c71bc67d3a920b494756761f4a01f511c50c10646de352e63e2", func := "stevedore/stevedorelaw16.AllocDrops", spec := "allocDrops", inPlace := ["internal/bytealg.abigen_runtime_cmpstring"], unfollowed := true, recurses := true, apart := false }
def AllocDropsSaid : Prop := allocDropsRow.holds Tryz.pinned (OpenSpec.ofChange allocDropsSpec)

/-- ITS FALSE NEIGHBOUR: 'it returns false'. Refute it at one input. -/
def allocDropsWrong : ChangeSpec := { name := "allocDrops", fn := fun _ => fun
  | [d1, d2] => { results := [.lit (.bool false)], args := [d1, d2] }
  | _ => none }
def AllocDropsWrongFalsely : Prop := allocDropsRow.holds Tryz.pinned (OpenSpec.ofChange allocDropsWrong)

/-- 'stevedorelaw16.AllocClaims': WHATEVER THE INPUT: true; the input reads as it did. -/
def allocClaimsSpec : ChangeSpec := { name := "allocClaims", fn := fun _ => fun
  | [d1, d2] => { results := [.lit (.bool true)], args := [d1, d2] }
  | _ => none }
def allocClaimsRow : OpenClaim := { program := "ytlkmccmbpnbgbaagreat", sum := "acf671ced3628c71bc67d3a920b494756761f4a01f511c50c10646de352e63e2", func := "stevedore/stevedorelaw16.AllocClaims", spec := "allocClaims", inPlace := ["internal/bytealg.abigen_runtime_cmpstring"], unfollowed := true, recurses := true, apart := false }
def AllocClaimsSaid : Prop := allocClaimsRow.holds Tryz.pinned (OpenSpec.ofChange allocClaimsSpec)

/-- ITS FALSE NEIGHBOUR: 'it returns false'. Refute it at one input. -/
def allocClaimsWrong : ChangeSpec := { name := "allocClaims", fn := fun _ => fun
  | [d1, d2] => { results := [.lit (.bool false)], args := [d1, d2] }
  | _ => none }
def AllocClaimsWrongFalsely : Prop := allocClaimsRow.holds Tryz.pinned (OpenSpec.ofChange allocClaimsWrong)

/-- 'stevedorelaw16.AllocOff': WHATEVER THE INPUT: true; the input reads as it did. -/
def allocOffSpec : ChangeSpec := { name := "allocOff", fn := fun _ => fun
  | [d1, d2] => { results := [.lit (.bool true)], args := [d1, d2] }
  | _ => none }
def allocOffRow : OpenClaim := { program := "ytlkmccmbpnbgbaagreat", sum := "acf671ced3628c71bc67d3a920b494756761f4a01f511c50c10646de352e63e2", func := "stevedore/stevedorelaw16.AllocOff", spec := "allocOff", inPlace := ["internal/bytealg.abigen_runtime_cmpstring"], unfollowed := true, recurses := true, apart := false }
def AllocOffSaid : Prop := allocOffRow.holds Tryz.pinned (OpenSpec.ofChange allocOffSpec)

/-- ITS FALSE NEIGHBOUR: 'it returns false'. Refute it at one input. -/
def allocOffWrong : ChangeSpec := { name := "allocOff", fn := fun _ => fun
  | [d1, d2] => { results := [.lit (.bool false)], args := [d1, d2] }
  | _ => none }
def AllocOffWrongFalsely : Prop := allocOffRow.holds Tryz.pinned (OpenSpec.ofChange allocOffWrong)

/- THE SECOND FORM. 'bulk': how many values and letters a reading holds, each counted each time it is reached (what is shared counts as often as it is met; a slice's spare places count too). A statement '..UptoSaid' is the law's where the arguments, and the package variables that the reading takes, are together of bulk at most 1048576: NARROWER than '..Said'. Prove '..Said' where nothing that the law and all that it calls make is longer than what came in: it says more and counts as full. Else prove '..UptoSaid'. A law counts once. -/
mutual
def uptoBulk {H : Type} : DataW H → Nat
  | .lit (.string bytes) => bytes.length + 1
  | .lit _ => 1
  | .nil => 1
  | .ptr d => uptoBulk d + 1
  | .slice elems spare => uptoBulkAll elems + uptoBulkAll spare + 1
  | .agg parts => uptoBulkAll parts + 1
  | .iface _ d => uptoBulk d + 1
  | .map entries => uptoBulkEntries entries + 1
  | .held _ => 1
def uptoBulkAll {H : Type} : List (DataW H) → Nat
  | [] => 0
  | d :: r => uptoBulk d + uptoBulkAll r
def uptoBulkEntries {H : Type} : List (Lit × DataW H) → Nat
  | [] => 0
  | x :: r => uptoBulkEntry x + uptoBulkEntries r
def uptoBulkEntry {H : Type} : Lit × DataW H → Nat
  | (.string bytes, d) => bytes.length + uptoBulk d + 1
  | (_, d) => uptoBulk d + 1
 end
def uptoSmall : (H : Type) → List (DataW H) → Bool := fun _ ds => decide (uptoBulkAll ds ≤ 1048576)
def OpenSpec.upto (s : _root_.Go.ChangeSpec) : _root_.Go.OpenSpec := { _root_.Go.OpenSpec.ofChange s with cond := some uptoSmall }

/-- 'stevedorelaw16.AllocOrders', WHERE WHAT IT READS IS OF BULK AT MOST 1048576: true; the input reads as it did. -/
def allocOrdersUptoRow : OpenClaim := { program := "ytlkmccmbpnbgbaagreat", sum := "acf671ced3628c71bc67d3a920b494756761f4a01f511c50c10646de352e63e2", func := "stevedore/stevedorelaw16.AllocOrders", spec := "allocOrders", inPlace := ["internal/bytealg.abigen_runtime_cmpstring"], unfollowed := true, recurses := true, apart := false, narrowed := true }
def AllocOrdersUptoSaid : Prop := allocOrdersUptoRow.holds Tryz.pinned (OpenSpec.upto allocOrdersSpec)

/-- 'stevedorelaw16.AllocHolds', WHERE WHAT IT READS IS OF BULK AT MOST 1048576: true; the input reads as it did. -/
def allocHoldsUptoRow : OpenClaim := { program := "ytlkmccmbpnbgbaagreat", sum := "acf671ced3628c71bc67d3a920b494756761f4a01f511c50c10646de352e63e2", func := "stevedore/stevedorelaw16.AllocHolds", spec := "allocHolds", inPlace := ["internal/bytealg.abigen_runtime_cmpstring"], unfollowed := true, recurses := true, apart := false, narrowed := true }
def AllocHoldsUptoSaid : Prop := allocHoldsUptoRow.holds Tryz.pinned (OpenSpec.upto allocHoldsSpec)

/-- 'stevedorelaw16.AllocDrops', WHERE WHAT IT READS IS OF BULK AT MOST 1048576: true; the input reads as it did. -/
def allocDropsUptoRow : OpenClaim := { program := "ytlkmccmbpnbgbaagreat", sum := "acf671ced3628c71bc67d3a920b494756761f4a01f511c50c10646de352e63e2", func := "stevedore/stevedorelaw16.AllocDrops", spec := "allocDrops", inPlace := ["internal/bytealg.abigen_runtime_cmpstring"], unfollowed := true, recurses := true, apart := false, narrowed := true }
def AllocDropsUptoSaid : Prop := allocDropsUptoRow.holds Tryz.pinned (OpenSpec.upto allocDropsSpec)

/-- 'stevedorelaw16.AllocClaims', WHERE WHAT IT READS IS OF BULK AT MOST 1048576: true; the input reads as it did. -/
def allocClaimsUptoRow : OpenClaim := { program := "ytlkmccmbpnbgbaagreat", sum := "acf671ced3628c71bc67d3a920b494756761f4a01f511c50c10646de352e63e2", func := "stevedore/stevedorelaw16.AllocClaims", spec := "allocClaims", inPlace := ["internal/bytealg.abigen_runtime_cmpstring"], unfollowed := true, recurses := true, apart := false, narrowed := true }
def AllocClaimsUptoSaid : Prop := allocClaimsUptoRow.holds Tryz.pinned (OpenSpec.upto allocClaimsSpec)

/-- 'stevedorelaw16.AllocOff', WHERE WHAT IT READS IS OF BULK AT MOST 1048576: true; the input reads as it did. -/
def allocOffUptoRow : OpenClaim := { program := "ytlkmccmbpnbgbaagreat", sum := "acf671ced3628c71bc67d3a920b494756761f4a01f511c50c10646de352e63e2", func := "stevedore/stevedorelaw16.AllocOff", spec := "allocOff", inPlace := ["internal/bytealg.abigen_runtime_cmpstring"], unfollowed := true, recurses := true, apart := false, narrowed := true }
def AllocOffUptoSaid : Prop := allocOffUptoRow.holds Tryz.pinned (OpenSpec.upto allocOffSpec)

end Rows
end Go.Proofs.YtlkmccmbpnbgbaaGreat
