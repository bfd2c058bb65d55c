/-
  No cell of these rows narrows 'for every input' (looked for: loops, veiled, ifaces, maps, wideKeys, modest, calm, conditions, laid).
  DERIVED. THE GIVEN ROWS OF THIS SEAT. 2 by the template 'for every input the law returns true; each argument reads behind the call as it read before'; 0 by the template 'total and deterministic' (their statements: YtjphjblcahadkaaGreatTotals.lean).
  GIVEN WITH THE SEED: the statements are not yours to turn. If you find one false, say at which input.
  Laid BY PROGRAM, IN A SANDBOX (cutbox-rows.mjs): the forced cells as the released guide's own fill.sh prints them over the translation 72795f3c4e46f6f8… (all of the seat's roots in one cut). By AI agents, Wed Nov 11 2026. No macro, syntax, notation, axiom, sorry.
-/
import Derived.Test.YtjphjblcahadkaaGreatChecked
import GoSem.Claim
import GoSem.ClaimJoined
import GoSem.ClaimMapViews
import Derived.JoinedTies
import Derived.KernelRfl
namespace Go.Proofs.YtjphjblcahadkaaGreat
/- THE CELL 'sum', in the pinned program and in every row, IS THE sha256 OF THE DUMP (.gsa) THAT YtjphjblcahadkaaGreatProg.lean LOADS. Nothing in Lean hashes anything: it is a label: what it is worth is what the hold of that sum in a sandbox is worth. -/
noncomputable def Tryz.pinned : Pinned := { name := "ytjphjblcahadkaagreat", sum := "72795f3c4e46f6f8e4c7018ef9ded5214f58c1f13cc2631273939edaf0b3642e", checked := Tryz.checked }
namespace Rows
def none {H : Type} : Left H := { results := [], args := [] }

/-- 'stevedorelaw13.RulesSuggest': WHATEVER THE INPUT: true; the input reads as it did. -/
def rulesSuggestSpec : ChangeSpec := { name := "rulesSuggest", fn := fun _ => fun
  | [d1, d2, d3] => { results := [.lit (.bool true)], args := [d1, d2, d3] }
  | _ => none }
def rulesSuggestRow : OpenClaim := { program := "ytjphjblcahadkaagreat", sum := "72795f3c4e46f6f8e4c7018ef9ded5214f58c1f13cc2631273939edaf0b3642e", func := "stevedore/stevedorelaw13.RulesSuggest", spec := "rulesSuggest", inPlace := ["internal/bytealg.abigen_runtime_cmpstring"], unfollowed := true, recurses := true, apart := false }
def RulesSuggestSaid : Prop := rulesSuggestRow.holds Tryz.pinned (OpenSpec.ofChange rulesSuggestSpec)

/-- ITS FALSE NEIGHBOUR: 'it returns false'. Refute it at one input. -/
def rulesSuggestWrong : ChangeSpec := { name := "rulesSuggest", fn := fun _ => fun
  | [d1, d2, d3] => { results := [.lit (.bool false)], args := [d1, d2, d3] }
  | _ => none }
def RulesSuggestWrongFalsely : Prop := rulesSuggestRow.holds Tryz.pinned (OpenSpec.ofChange rulesSuggestWrong)

/-- 'stevedorelaw13.RulesAdds': WHATEVER THE INPUT: true; the input reads as it did. -/
def rulesAddsSpec : ChangeSpec := { name := "rulesAdds", fn := fun _ => fun
  | [d1, d2] => { results := [.lit (.bool true)], args := [d1, d2] }
  | _ => none }
def rulesAddsRow : OpenClaim := { program := "ytjphjblcahadkaagreat", sum := "72795f3c4e46f6f8e4c7018ef9ded5214f58c1f13cc2631273939edaf0b3642e", func := "stevedore/stevedorelaw13.RulesAdds", spec := "rulesAdds", inPlace := ["internal/bytealg.abigen_runtime_cmpstring"], unfollowed := true, recurses := true, apart := false }
def RulesAddsSaid : Prop := rulesAddsRow.holds Tryz.pinned (OpenSpec.ofChange rulesAddsSpec)

/-- ITS FALSE NEIGHBOUR: 'it returns false'. Refute it at one input. -/
def rulesAddsWrong : ChangeSpec := { name := "rulesAdds", fn := fun _ => fun
  | [d1, d2] => { results := [.lit (.bool false)], args := [d1, d2] }
  | _ => none }
def RulesAddsWrongFalsely : Prop := rulesAddsRow.holds Tryz.pinned (OpenSpec.ofChange rulesAddsWrong)

/- THE SECOND FORM. 'bulk': how many values and letters a reading holds, each counted each time it is reached (what is shared counts as often as it is met; a slice's spare places count too). A statement '..UptoSaid' is the law's where the arguments, and the package variables that the reading takes, are together of bulk at most 1048576: NARROWER than '..Said'. Prove '..Said' where nothing that the law and all that it calls make is longer than what came in: it says more and counts as full. Else prove '..UptoSaid'. A law counts once. -/
mutual
def uptoBulk {H : Type} : DataW H → Nat
  | .lit (.string bytes) => bytes.length + 1
  | .lit _ => 1
  | .nil => 1
  | .ptr d => uptoBulk d + 1
  | .slice elems spare => uptoBulkAll elems + uptoBulkAll spare + 1
  | .agg parts => uptoBulkAll parts + 1
  | .iface _ d => uptoBulk d + 1
  | .map entries => uptoBulkEntries entries + 1
  | .held _ => 1
def uptoBulkAll {H : Type} : List (DataW H) → Nat
  | [] => 0
  | d :: r => uptoBulk d + uptoBulkAll r
def uptoBulkEntries {H : Type} : List (Lit × DataW H) → Nat
  | [] => 0
  | x :: r => uptoBulkEntry x + uptoBulkEntries r
def uptoBulkEntry {H : Type} : Lit × DataW H → Nat
  | (.string bytes, d) => bytes.length + uptoBulk d + 1
  | (_, d) => uptoBulk d + 1
 end
def uptoSmall : (H : Type) → List (DataW H) → Bool := fun _ ds => decide (uptoBulkAll ds ≤ 1048576)
def OpenSpec.upto (s : _root_.Go.ChangeSpec) : _root_.Go.OpenSpec := { _root_.Go.OpenSpec.ofChange s with cond := some uptoSmall }

/-- 'stevedorelaw13.RulesSuggest', WHERE WHAT IT READS IS OF BULK AT MOST 1048576: true; the input reads as it did. -/
def rulesSuggestUptoRow : OpenClaim := { program := "ytjphjblcahadkaagreat", sum := "72795f3c4e46f6f8e4c7018ef9ded5214f58c1f13cc2631273939edaf0b3642e", func := "stevedore/stevedorelaw13.RulesSuggest", spec := "rulesSuggest", inPlace := ["internal/bytealg.abigen_runtime_cmpstring"], unfollowed := true, recurses := true, apart := false, narrowed := true }
def RulesSuggestUptoSaid : Prop := rulesSuggestUptoRow.holds Tryz.pinned (OpenSpec.upto rulesSuggestSpec)

/-- 'stevedorelaw13.RulesAdds', WHERE WHAT IT READS IS OF BULK AT MOST 1048576: true; the input reads as it did. -/
def rulesAddsUptoRow : OpenClaim := { program := "ytjphjblcahadkaagreat", sum := "72795f3c4e46f6f8e4c7018ef9ded5214f58c1f13cc2631273939edaf0b3642e", func := "stevedore/stevedorelaw13.RulesAdds", spec := "rulesAdds", inPlace := ["internal/bytealg.abigen_runtime_cmpstring"], unfollowed := true, recurses := true, apart := false, narrowed := true }
def RulesAddsUptoSaid : Prop := rulesAddsUptoRow.holds Tryz.pinned (OpenSpec.upto rulesAddsSpec)

end Rows
end Go.Proofs.YtjphjblcahadkaaGreat
