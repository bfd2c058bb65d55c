/-
  No cell of these rows narrows 'for every input' (looked for: loops, veiled, ifaces, maps, wideKeys, modest, calm, conditions, laid).
  DERIVED. THE GIVEN ROWS OF THIS SEAT. 6 by the template 'for every input the law returns true; each argument reads behind the call as it read before'; 0 by the template 'total and deterministic' (their statements: YtgbilfkjfeheaaaGreatTotals.lean).
  GIVEN WITH THE SEED: the statements are not yours to turn. If you find one false, say at which input.
  Laid BY PROGRAM, IN A SANDBOX (cutbox-rows.mjs): the forced cells as the released guide's own fill.sh prints them over the translation 401b14d7622ef444… (all of the seat's roots in one cut). By AI agents, Wed Nov 11 2026. No macro, syntax, notation, axiom, sorry.
-/
import Derived.Test.YtgbilfkjfeheaaaGreatChecked
import GoSem.Claim
import GoSem.ClaimJoined
import GoSem.ClaimMapViews
import Derived.JoinedTies
import Derived.KernelRfl
namespace Go.Proofs.YtgbilfkjfeheaaaGreat
/- THE CELL 'sum', in the pinned program and in every row, IS THE sha256 OF THE DUMP (.gsa) THAT YtgbilfkjfeheaaaGreatProg.lean LOADS. Nothing in Lean hashes anything: it is a label: what it is worth is what the hold of that sum in a sandbox is worth. -/
noncomputable def Tryz.pinned : Pinned := { name := "ytgbilfkjfeheaaagreat", sum := "401b14d7622ef444bffa46639dff32a6e5a522373315d6dc9086adbbe0a3e41c", checked := Tryz.checked }
namespace Rows
def none {H : Type} : Left H := { results := [], args := [] }

/-- 'stevedorelaw14.InboundAnnounces': WHATEVER THE INPUT: true; the input reads as it did. -/
def inboundAnnouncesSpec : ChangeSpec := { name := "inboundAnnounces", fn := fun _ => fun
  | [d1, d2, d3] => { results := [.lit (.bool true)], args := [d1, d2, d3] }
  | _ => none }
def inboundAnnouncesRow : OpenClaim := { program := "ytgbilfkjfeheaaagreat", sum := "401b14d7622ef444bffa46639dff32a6e5a522373315d6dc9086adbbe0a3e41c", func := "stevedore/stevedorelaw14.InboundAnnounces", spec := "inboundAnnounces", inPlace := ["internal/bytealg.abigen_runtime_cmpstring"], unfollowed := true, recurses := true, apart := false }
def InboundAnnouncesSaid : Prop := inboundAnnouncesRow.holds Tryz.pinned (OpenSpec.ofChange inboundAnnouncesSpec)

/-- ITS FALSE NEIGHBOUR: 'it returns false'. Refute it at one input. -/
def inboundAnnouncesWrong : ChangeSpec := { name := "inboundAnnounces", fn := fun _ => fun
  | [d1, d2, d3] => { results := [.lit (.bool false)], args := [d1, d2, d3] }
  | _ => none }
def InboundAnnouncesWrongFalsely : Prop := inboundAnnouncesRow.holds Tryz.pinned (OpenSpec.ofChange inboundAnnouncesWrong)

/-- 'stevedorelaw14.InboundReceives': WHATEVER THE INPUT: true; the input reads as it did. -/
def inboundReceivesSpec : ChangeSpec := { name := "inboundReceives", fn := fun _ => fun
  | [d1, d2] => { results := [.lit (.bool true)], args := [d1, d2] }
  | _ => none }
def inboundReceivesRow : OpenClaim := { program := "ytgbilfkjfeheaaagreat", sum := "401b14d7622ef444bffa46639dff32a6e5a522373315d6dc9086adbbe0a3e41c", func := "stevedore/stevedorelaw14.InboundReceives", spec := "inboundReceives", inPlace := ["internal/bytealg.abigen_runtime_cmpstring"], unfollowed := true, recurses := true, apart := false }
def InboundReceivesSaid : Prop := inboundReceivesRow.holds Tryz.pinned (OpenSpec.ofChange inboundReceivesSpec)

/-- ITS FALSE NEIGHBOUR: 'it returns false'. Refute it at one input. -/
def inboundReceivesWrong : ChangeSpec := { name := "inboundReceives", fn := fun _ => fun
  | [d1, d2] => { results := [.lit (.bool false)], args := [d1, d2] }
  | _ => none }
def InboundReceivesWrongFalsely : Prop := inboundReceivesRow.holds Tryz.pinned (OpenSpec.ofChange inboundReceivesWrong)

/-- 'stevedorelaw14.InboundStows': WHATEVER THE INPUT: true; the input reads as it did. -/
def inboundStowsSpec : ChangeSpec := { name := "inboundStows", fn := fun _ => fun
  | [d1, d2, d3] => { results := [.lit (.bool true)], args := [d1, d2, d3] }
  | _ => none }
def inboundStowsRow : OpenClaim := { program := "ytgbilfkjfeheaaagreat", sum := "401b14d7622ef444bffa46639dff32a6e5a522373315d6dc9086adbbe0a3e41c", func := "stevedore/stevedorelaw14.InboundStows", spec := "inboundStows", inPlace := ["internal/bytealg.abigen_runtime_cmpstring"], unfollowed := true, recurses := true, apart := false }
def InboundStowsSaid : Prop := inboundStowsRow.holds Tryz.pinned (OpenSpec.ofChange inboundStowsSpec)

/-- ITS FALSE NEIGHBOUR: 'it returns false'. Refute it at one input. -/
def inboundStowsWrong : ChangeSpec := { name := "inboundStows", fn := fun _ => fun
  | [d1, d2, d3] => { results := [.lit (.bool false)], args := [d1, d2, d3] }
  | _ => none }
def InboundStowsWrongFalsely : Prop := inboundStowsRow.holds Tryz.pinned (OpenSpec.ofChange inboundStowsWrong)

/-- 'stevedorelaw14.InboundComes': WHATEVER THE INPUT: true; the input reads as it did. -/
def inboundComesSpec : ChangeSpec := { name := "inboundComes", fn := fun _ => fun
  | [d1, d2] => { results := [.lit (.bool true)], args := [d1, d2] }
  | _ => none }
def inboundComesRow : OpenClaim := { program := "ytgbilfkjfeheaaagreat", sum := "401b14d7622ef444bffa46639dff32a6e5a522373315d6dc9086adbbe0a3e41c", func := "stevedore/stevedorelaw14.InboundComes", spec := "inboundComes", inPlace := ["internal/bytealg.abigen_runtime_cmpstring"], unfollowed := true, recurses := true, apart := false }
def InboundComesSaid : Prop := inboundComesRow.holds Tryz.pinned (OpenSpec.ofChange inboundComesSpec)

/-- ITS FALSE NEIGHBOUR: 'it returns false'. Refute it at one input. -/
def inboundComesWrong : ChangeSpec := { name := "inboundComes", fn := fun _ => fun
  | [d1, d2] => { results := [.lit (.bool false)], args := [d1, d2] }
  | _ => none }
def InboundComesWrongFalsely : Prop := inboundComesRow.holds Tryz.pinned (OpenSpec.ofChange inboundComesWrong)

/-- 'stevedorelaw14.InboundShuts': WHATEVER THE INPUT: true; the input reads as it did. -/
def inboundShutsSpec : ChangeSpec := { name := "inboundShuts", fn := fun _ => fun
  | [d1, d2] => { results := [.lit (.bool true)], args := [d1, d2] }
  | _ => none }
def inboundShutsRow : OpenClaim := { program := "ytgbilfkjfeheaaagreat", sum := "401b14d7622ef444bffa46639dff32a6e5a522373315d6dc9086adbbe0a3e41c", func := "stevedore/stevedorelaw14.InboundShuts", spec := "inboundShuts", inPlace := ["internal/bytealg.abigen_runtime_cmpstring"], unfollowed := true, recurses := true, apart := false }
def InboundShutsSaid : Prop := inboundShutsRow.holds Tryz.pinned (OpenSpec.ofChange inboundShutsSpec)

/-- ITS FALSE NEIGHBOUR: 'it returns false'. Refute it at one input. -/
def inboundShutsWrong : ChangeSpec := { name := "inboundShuts", fn := fun _ => fun
  | [d1, d2] => { results := [.lit (.bool false)], args := [d1, d2] }
  | _ => none }
def InboundShutsWrongFalsely : Prop := inboundShutsRow.holds Tryz.pinned (OpenSpec.ofChange inboundShutsWrong)

/-- 'stevedorelaw14.InboundTakes': WHATEVER THE INPUT: true; the input reads as it did. -/
def inboundTakesSpec : ChangeSpec := { name := "inboundTakes", fn := fun _ => fun
  | [d1, d2] => { results := [.lit (.bool true)], args := [d1, d2] }
  | _ => none }
def inboundTakesRow : OpenClaim := { program := "ytgbilfkjfeheaaagreat", sum := "401b14d7622ef444bffa46639dff32a6e5a522373315d6dc9086adbbe0a3e41c", func := "stevedore/stevedorelaw14.InboundTakes", spec := "inboundTakes", inPlace := ["internal/bytealg.abigen_runtime_cmpstring"], unfollowed := true, recurses := true, apart := false }
def InboundTakesSaid : Prop := inboundTakesRow.holds Tryz.pinned (OpenSpec.ofChange inboundTakesSpec)

/-- ITS FALSE NEIGHBOUR: 'it returns false'. Refute it at one input. -/
def inboundTakesWrong : ChangeSpec := { name := "inboundTakes", fn := fun _ => fun
  | [d1, d2] => { results := [.lit (.bool false)], args := [d1, d2] }
  | _ => none }
def InboundTakesWrongFalsely : Prop := inboundTakesRow.holds Tryz.pinned (OpenSpec.ofChange inboundTakesWrong)

/- THE SECOND FORM. 'bulk': how many values and letters a reading holds, each counted each time it is reached (what is shared counts as often as it is met; a slice's spare places count too). A statement '..UptoSaid' is the law's where the arguments, and the package variables that the reading takes, are together of bulk at most 1048576: NARROWER than '..Said'. Prove '..Said' where nothing that the law and all that it calls make is longer than what came in: it says more and counts as full. Else prove '..UptoSaid'. A law counts once. -/
mutual
def uptoBulk {H : Type} : DataW H → Nat
  | .lit (.string bytes) => bytes.length + 1
  | .lit _ => 1
  | .nil => 1
  | .ptr d => uptoBulk d + 1
  | .slice elems spare => uptoBulkAll elems + uptoBulkAll spare + 1
  | .agg parts => uptoBulkAll parts + 1
  | .iface _ d => uptoBulk d + 1
  | .map entries => uptoBulkEntries entries + 1
  | .held _ => 1
def uptoBulkAll {H : Type} : List (DataW H) → Nat
  | [] => 0
  | d :: r => uptoBulk d + uptoBulkAll r
def uptoBulkEntries {H : Type} : List (Lit × DataW H) → Nat
  | [] => 0
  | x :: r => uptoBulkEntry x + uptoBulkEntries r
def uptoBulkEntry {H : Type} : Lit × DataW H → Nat
  | (.string bytes, d) => bytes.length + uptoBulk d + 1
  | (_, d) => uptoBulk d + 1
 end
def uptoSmall : (H : Type) → List (DataW H) → Bool := fun _ ds => decide (uptoBulkAll ds ≤ 1048576)
def OpenSpec.upto (s : _root_.Go.ChangeSpec) : _root_.Go.OpenSpec := { _root_.Go.OpenSpec.ofChange s with cond := some uptoSmall }

/-- 'stevedorelaw14.InboundAnnounces', WHERE WHAT IT READS IS OF BULK AT MOST 1048576: true; the input reads as it did. -/
def inboundAnnouncesUptoRow : OpenClaim := { program := "ytgbilfkjfeheaaagreat", sum := "401b14d7622ef444bffa46639dff32a6e5a522373315d6dc9086adbbe0a3e41c", func := "stevedore/stevedorelaw14.InboundAnnounces", spec := "inboundAnnounces", inPlace := ["internal/bytealg.abigen_runtime_cmpstring"], unfollowed := true, recurses := true, apart := false, narrowed := true }
def InboundAnnouncesUptoSaid : Prop := inboundAnnouncesUptoRow.holds Tryz.pinned (OpenSpec.upto inboundAnnouncesSpec)

/-- 'stevedorelaw14.InboundReceives', WHERE WHAT IT READS IS OF BULK AT MOST 1048576: true; the input reads as it did. -/
def inboundReceivesUptoRow : OpenClaim := { program := "ytgbilfkjfeheaaagreat", sum := "401b14d7622ef444bffa46639dff32a6e5a522373315d6dc9086adbbe0a3e41c", func := "stevedore/stevedorelaw14.InboundReceives", spec := "inboundReceives", inPlace := ["internal/bytealg.abigen_runtime_cmpstring"], unfollowed := true, recurses := true, apart := false, narrowed := true }
def InboundReceivesUptoSaid : Prop := inboundReceivesUptoRow.holds Tryz.pinned (OpenSpec.upto inboundReceivesSpec)

/-- 'stevedorelaw14.InboundStows', WHERE WHAT IT READS IS OF BULK AT MOST 1048576: true; the input reads as it did. -/
def inboundStowsUptoRow : OpenClaim := { program := "ytgbilfkjfeheaaagreat", sum := "401b14d7622ef444bffa46639dff32a6e5a522373315d6dc9086adbbe0a3e41c", func := "stevedore/stevedorelaw14.InboundStows", spec := "inboundStows", inPlace := ["internal/bytealg.abigen_runtime_cmpstring"], unfollowed := true, recurses := true, apart := false, narrowed := true }
def InboundStowsUptoSaid : Prop := inboundStowsUptoRow.holds Tryz.pinned (OpenSpec.upto inboundStowsSpec)

/-- 'stevedorelaw14.InboundComes', WHERE WHAT IT READS IS OF BULK AT MOST 1048576: true; the input reads as it did. -/
def inboundComesUptoRow : OpenClaim := { program := "ytgbilfkjfeheaaagreat", sum := "401b14d7622ef444bffa46639dff32a6e5a522373315d6dc9086adbbe0a3e41c", func := "stevedore/stevedorelaw14.InboundComes", spec := "inboundComes", inPlace := ["internal/bytealg.abigen_runtime_cmpstring"], unfollowed := true, recurses := true, apart := false, narrowed := true }
def InboundComesUptoSaid : Prop := inboundComesUptoRow.holds Tryz.pinned (OpenSpec.upto inboundComesSpec)

/-- 'stevedorelaw14.InboundShuts', WHERE WHAT IT READS IS OF BULK AT MOST 1048576: true; the input reads as it did. -/
def inboundShutsUptoRow : OpenClaim := { program := "ytgbilfkjfeheaaagreat", sum := "401b14d7622ef444bffa46639dff32a6e5a522373315d6dc9086adbbe0a3e41c", func := "stevedore/stevedorelaw14.InboundShuts", spec := "inboundShuts", inPlace := ["internal/bytealg.abigen_runtime_cmpstring"], unfollowed := true, recurses := true, apart := false, narrowed := true }
def InboundShutsUptoSaid : Prop := inboundShutsUptoRow.holds Tryz.pinned (OpenSpec.upto inboundShutsSpec)

/-- 'stevedorelaw14.InboundTakes', WHERE WHAT IT READS IS OF BULK AT MOST 1048576: true; the input reads as it did. -/
def inboundTakesUptoRow : OpenClaim := { program := "ytgbilfkjfeheaaagreat", sum := "401b14d7622ef444bffa46639dff32a6e5a522373315d6dc9086adbbe0a3e41c", func := "stevedore/stevedorelaw14.InboundTakes", spec := "inboundTakes", inPlace := ["internal/bytealg.abigen_runtime_cmpstring"], unfollowed := true, recurses := true, apart := false, narrowed := true }
def InboundTakesUptoSaid : Prop := inboundTakesUptoRow.holds Tryz.pinned (OpenSpec.upto inboundTakesSpec)

end Rows
end Go.Proofs.YtgbilfkjfeheaaaGreat
