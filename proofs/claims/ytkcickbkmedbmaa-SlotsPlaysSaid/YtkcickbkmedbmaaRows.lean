/-
  No cell of these rows narrows 'for every input' (looked for: loops, veiled, ifaces, maps, wideKeys, modest, calm, conditions, laid).
  DERIVED. THE GIVEN ROWS OF THIS SEAT. 4 by the template 'for every input the law returns true; each argument reads behind the call as it read before'; 0 by the template 'total and deterministic' (their statements: YtkcickbkmedbmaaTotals.lean).
  GIVEN WITH THE SEED: the statements are not yours to turn. If you find one false, say at which input.
  Laid BY PROGRAM, IN A SANDBOX (cutbox-rows.mjs): the forced cells as the released guide's own fill.sh prints them over the translation 31f0666659ed5015… (all of the seat's roots in one cut). By AI agents, Wed Nov 11 2026. No macro, syntax, notation, axiom, sorry.
-/
import Derived.Test.YtkcickbkmedbmaaChecked
import GoSem.Claim
import GoSem.ClaimJoined
import GoSem.ClaimMapViews
import Derived.JoinedTies
import Derived.KernelRfl
namespace Go.Proofs.Ytkcickbkmedbmaa
/- THE CELL 'sum', in the pinned program and in every row, IS THE sha256 OF THE DUMP (.gsa) THAT YtkcickbkmedbmaaProg.lean LOADS. Nothing in Lean hashes anything: it is a label: what it is worth is what the hold of that sum in a sandbox is worth. -/
noncomputable def Try.pinned : Pinned := { name := "ytkcickbkmedbmaa", sum := "31f0666659ed5015c5c06378e3e61fbbfe776a29e97c68a66cef98cc0b8286b1", checked := Try.checked }
namespace Rows
def none {H : Type} : Left H := { results := [], args := [] }

/-- 'stevedorelaw06.SlotsPlays': WHATEVER THE INPUT: true; the input reads as it did. -/
def slotsPlaysSpec : ChangeSpec := { name := "slotsPlays", fn := fun _ => fun
  | [d] => { results := [.lit (.bool true)], args := [d] }
  | _ => none }
def slotsPlaysRow : OpenClaim := { program := "ytkcickbkmedbmaa", sum := "31f0666659ed5015c5c06378e3e61fbbfe776a29e97c68a66cef98cc0b8286b1", func := "stevedore/stevedorelaw06.SlotsPlays", spec := "slotsPlays", apart := false }
def SlotsPlaysSaid : Prop := slotsPlaysRow.holds Try.pinned (OpenSpec.ofChange slotsPlaysSpec)

/-- ITS FALSE NEIGHBOUR: 'it returns false'. Refute it at one input. -/
def slotsPlaysWrong : ChangeSpec := { name := "slotsPlays", fn := fun _ => fun
  | [d] => { results := [.lit (.bool false)], args := [d] }
  | _ => none }
def SlotsPlaysWrongFalsely : Prop := slotsPlaysRow.holds Try.pinned (OpenSpec.ofChange slotsPlaysWrong)

/-- 'stevedorelaw06.SlotsLasts': WHATEVER THE INPUT: true; the input reads as it did. -/
def slotsLastsSpec : ChangeSpec := { name := "slotsLasts", fn := fun _ => fun
  | [d1, d2] => { results := [.lit (.bool true)], args := [d1, d2] }
  | _ => none }
def slotsLastsRow : OpenClaim := { program := "ytkcickbkmedbmaa", sum := "31f0666659ed5015c5c06378e3e61fbbfe776a29e97c68a66cef98cc0b8286b1", func := "stevedore/stevedorelaw06.SlotsLasts", spec := "slotsLasts", apart := false }
def SlotsLastsSaid : Prop := slotsLastsRow.holds Try.pinned (OpenSpec.ofChange slotsLastsSpec)

/-- ITS FALSE NEIGHBOUR: 'it returns false'. Refute it at one input. -/
def slotsLastsWrong : ChangeSpec := { name := "slotsLasts", fn := fun _ => fun
  | [d1, d2] => { results := [.lit (.bool false)], args := [d1, d2] }
  | _ => none }
def SlotsLastsWrongFalsely : Prop := slotsLastsRow.holds Try.pinned (OpenSpec.ofChange slotsLastsWrong)

/-- 'stevedorelaw06.SlotsNil': WHATEVER THE INPUT: true; the input reads as it did. -/
def slotsNilSpec : ChangeSpec := { name := "slotsNil", fn := fun _ => fun
  | [d1, d2] => { results := [.lit (.bool true)], args := [d1, d2] }
  | _ => none }
def slotsNilRow : OpenClaim := { program := "ytkcickbkmedbmaa", sum := "31f0666659ed5015c5c06378e3e61fbbfe776a29e97c68a66cef98cc0b8286b1", func := "stevedore/stevedorelaw06.SlotsNil", spec := "slotsNil", apart := false }
def SlotsNilSaid : Prop := slotsNilRow.holds Try.pinned (OpenSpec.ofChange slotsNilSpec)

/-- ITS FALSE NEIGHBOUR: 'it returns false'. Refute it at one input. -/
def slotsNilWrong : ChangeSpec := { name := "slotsNil", fn := fun _ => fun
  | [d1, d2] => { results := [.lit (.bool false)], args := [d1, d2] }
  | _ => none }
def SlotsNilWrongFalsely : Prop := slotsNilRow.holds Try.pinned (OpenSpec.ofChange slotsNilWrong)

/-- 'stevedorelaw06.SlotsSpare': WHATEVER THE INPUT: true; the input reads as it did. -/
def slotsSpareSpec : ChangeSpec := { name := "slotsSpare", fn := fun _ => fun
  | [d] => { results := [.lit (.bool true)], args := [d] }
  | _ => none }
def slotsSpareRow : OpenClaim := { program := "ytkcickbkmedbmaa", sum := "31f0666659ed5015c5c06378e3e61fbbfe776a29e97c68a66cef98cc0b8286b1", func := "stevedore/stevedorelaw06.SlotsSpare", spec := "slotsSpare", apart := false }
def SlotsSpareSaid : Prop := slotsSpareRow.holds Try.pinned (OpenSpec.ofChange slotsSpareSpec)

/-- ITS FALSE NEIGHBOUR: 'it returns false'. Refute it at one input. -/
def slotsSpareWrong : ChangeSpec := { name := "slotsSpare", fn := fun _ => fun
  | [d] => { results := [.lit (.bool false)], args := [d] }
  | _ => none }
def SlotsSpareWrongFalsely : Prop := slotsSpareRow.holds Try.pinned (OpenSpec.ofChange slotsSpareWrong)

/- THE SECOND FORM. 'bulk': how many values and letters a reading holds, each counted each time it is reached (what is shared counts as often as it is met; a slice's spare places count too). A statement '..UptoSaid' is the law's where the arguments, and the package variables that the reading takes, are together of bulk at most 1048576: NARROWER than '..Said'. Prove '..Said' where nothing that the law and all that it calls make is longer than what came in: it says more and counts as full. Else prove '..UptoSaid'. A law counts once. -/
mutual
def uptoBulk {H : Type} : DataW H → Nat
  | .lit (.string bytes) => bytes.length + 1
  | .lit _ => 1
  | .nil => 1
  | .ptr d => uptoBulk d + 1
  | .slice elems spare => uptoBulkAll elems + uptoBulkAll spare + 1
  | .agg parts => uptoBulkAll parts + 1
  | .iface _ d => uptoBulk d + 1
  | .map entries => uptoBulkEntries entries + 1
  | .held _ => 1
def uptoBulkAll {H : Type} : List (DataW H) → Nat
  | [] => 0
  | d :: r => uptoBulk d + uptoBulkAll r
def uptoBulkEntries {H : Type} : List (Lit × DataW H) → Nat
  | [] => 0
  | x :: r => uptoBulkEntry x + uptoBulkEntries r
def uptoBulkEntry {H : Type} : Lit × DataW H → Nat
  | (.string bytes, d) => bytes.length + uptoBulk d + 1
  | (_, d) => uptoBulk d + 1
 end
def uptoSmall : (H : Type) → List (DataW H) → Bool := fun _ ds => decide (uptoBulkAll ds ≤ 1048576)
def OpenSpec.upto (s : _root_.Go.ChangeSpec) : _root_.Go.OpenSpec := { _root_.Go.OpenSpec.ofChange s with cond := some uptoSmall }

/-- 'stevedorelaw06.SlotsPlays', WHERE WHAT IT READS IS OF BULK AT MOST 1048576: true; the input reads as it did. -/
def slotsPlaysUptoRow : OpenClaim := { program := "ytkcickbkmedbmaa", sum := "31f0666659ed5015c5c06378e3e61fbbfe776a29e97c68a66cef98cc0b8286b1", func := "stevedore/stevedorelaw06.SlotsPlays", spec := "slotsPlays", apart := false, narrowed := true }
def SlotsPlaysUptoSaid : Prop := slotsPlaysUptoRow.holds Try.pinned (OpenSpec.upto slotsPlaysSpec)

/-- 'stevedorelaw06.SlotsLasts', WHERE WHAT IT READS IS OF BULK AT MOST 1048576: true; the input reads as it did. -/
def slotsLastsUptoRow : OpenClaim := { program := "ytkcickbkmedbmaa", sum := "31f0666659ed5015c5c06378e3e61fbbfe776a29e97c68a66cef98cc0b8286b1", func := "stevedore/stevedorelaw06.SlotsLasts", spec := "slotsLasts", apart := false, narrowed := true }
def SlotsLastsUptoSaid : Prop := slotsLastsUptoRow.holds Try.pinned (OpenSpec.upto slotsLastsSpec)

/-- 'stevedorelaw06.SlotsNil', WHERE WHAT IT READS IS OF BULK AT MOST 1048576: true; the input reads as it did. -/
def slotsNilUptoRow : OpenClaim := { program := "ytkcickbkmedbmaa", sum := "31f0666659ed5015c5c06378e3e61fbbfe776a29e97c68a66cef98cc0b8286b1", func := "stevedore/stevedorelaw06.SlotsNil", spec := "slotsNil", apart := false, narrowed := true }
def SlotsNilUptoSaid : Prop := slotsNilUptoRow.holds Try.pinned (OpenSpec.upto slotsNilSpec)

/-- 'stevedorelaw06.SlotsSpare', WHERE WHAT IT READS IS OF BULK AT MOST 1048576: true; the input reads as it did. -/
def slotsSpareUptoRow : OpenClaim := { program := "ytkcickbkmedbmaa", sum := "31f0666659ed5015c5c06378e3e61fbbfe776a29e97c68a66cef98cc0b8286b1", func := "stevedore/stevedorelaw06.SlotsSpare", spec := "slotsSpare", apart := false, narrowed := true }
def SlotsSpareUptoSaid : Prop := slotsSpareUptoRow.holds Try.pinned (OpenSpec.upto slotsSpareSpec)

end Rows
end Go.Proofs.Ytkcickbkmedbmaa
