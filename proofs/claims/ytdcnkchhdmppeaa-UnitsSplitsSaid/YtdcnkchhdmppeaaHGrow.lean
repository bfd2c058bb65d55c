/-
  A DRAWN REGION WHOSE OPERATIONS READ, AND WHOSE CALLEES MAKE MEMORY OF THEIR OWN BUT ANSWER THE SAME IN EVERY WORLD BEHIND: walked once, in the order of the text.
-/
import Derived.Test.YtdcnkchhdmppeaaHRow
import Derived.BigQuiet
namespace Go.Proofs.Ytdcnkchhdmppeaa
set_option linter.unusedVariables false
open Go.RowKit

/-- A world behind W0. -/
structure BW (W0 : World) where
  W : World
  h : Below W0.heap.size W0 W
instance bwNonempty (W0 : World) : Nonempty (BW W0) := ⟨⟨W0, Below.refl _ _⟩⟩
theorem wp_grow {P : Program} {ops : Array Oper} {id : Nat} {Q : Exit → Act → World → Prop} {a : Act} {w : World} (W0 : World) (hm : P.follows .mixedOrders = true) (hB : Region.lexB .any ops = true) (hw : Below W0.heap.size W0 w)
    (h : wpQuiet P ops (fun w' => ∃ X : BW W0, w' = X.W) (fun a' => ∀ X : BW W0, Q .normal a' X.W) ops.toList a) : (Code.region id ops true).wp P Q a w :=
  wp_region_quiet (C := fun w' => ∃ X : BW W0, w' = X.W) hm hB ⟨⟨w.drew, hw.drew⟩, rfl⟩ (by
    have e : (fun a' => ∀ w', (∃ X : BW W0, w' = X.W) → Q .normal a' w') = (fun a' => ∀ X : BW W0, Q .normal a' X.W) := by
      funext a'
      exact propext ⟨fun h X => h _ ⟨X, rfl⟩, fun h w' ⟨X, hX⟩ => by rw [hX]; exact h X⟩
    rw [e]; exact h)
/-- A call that answers v in every world behind W0. -/
theorem grow_call {P : Program} {W0 : World} {f : FuncId} {args : Array Value} {v : Value} (X : BW W0) (h : Calls P f args X.W fun e w' => e = .returned v ∧ Below X.W.heap.size X.W w') : Calls P f args X.W fun e w' => e = .returned v ∧ ∃ Y : BW W0, w' = Y.W :=
  h.mono fun e w' ⟨h1, h2⟩ => ⟨h1, ⟨w', X.h.trans (h2.mono X.h.size)⟩, rfl⟩
/-- The load of a whole struct. -/
theorem quiet_load_mid {P : Program} {C : World → Prop} {o : Oper} {a : Act} {K : Act → Prop} (ty : TypeId) (x : Operand) (ho : o.op = .load ty x) (b off : Nat) (hx : a.eval x = .pointer (some ⟨b, off, none⟩)) (cs : List Value) (d : TypeDesc)
    (hS : ∀ w, C w → w.rangeAt b off cs) (hu : P.underlying ty = some d) (hd : d.isRow = true) (hi : (P.info? ty).map (·.size) = some cs.length) (hk : K (a.put o.dst (.agg cs.toArray))) : o.quiet P a C K :=
  ⟨.agg cs.toArray, fun w hw => by
    unfold Oper.quietAt execOp
    simp only [ho, hx, Instr.loadAt, Instr.sureAddr, Sem.run_bind, Sem.run_pure, Result.andThen_ok, run_loadVar_mid w b off ty cs d (hS w hw) hu hd hi]
    exact ⟨rfl, rfl⟩, hk⟩
end Go.Proofs.Ytdcnkchhdmppeaa
