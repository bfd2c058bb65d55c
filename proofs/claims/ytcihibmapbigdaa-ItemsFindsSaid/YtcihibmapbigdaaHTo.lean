/-
  A PIECE OF CODE that comes to one end up to a block's number and a value.
-/
import Derived.Test.YtcihibmapbigdaaRows
import Derived.WalkKit
import Derived.OrdersHeld
import Derived.Deep.RegionHeld
import Derived.Deep.RegionHeld3
namespace Go.Proofs.Ytcihibmapbigdaa
set_option linter.unusedVariables false
theorem region_to1 {P : Program} {c : Code} {Q : Exit → Act → World → Prop} {a : Act} {w : World} {F : Nat → Act} (R : Nat → World → Prop) (h : c.wp P (fun e a' w' => e = .normal ∧ ∃ g, a' = F g ∧ R g w') a w) (hq : ∀ g w', R g w' → Q .normal (F g) w') : c.wp P Q a w :=
  Code.wp_mono (fun e a' w' => (by rintro ⟨rfl, g, rfl, hr⟩; exact hq g w' hr)) h
theorem region_to2 {P : Program} {c : Code} {Q : Exit → Act → World → Prop} {a : Act} {w : World} {α : Type} {F : Nat → α → Act} (R : Nat → α → World → Prop) (h : c.wp P (fun e a' w' => e = .normal ∧ ∃ g x, a' = F g x ∧ R g x w') a w) (hq : ∀ g x w', R g x w' → Q .normal (F g x) w') : c.wp P Q a w :=
  Code.wp_mono (fun e a' w' => (by rintro ⟨rfl, g, x, rfl, hr⟩; exact hq g x w' hr)) h
end Go.Proofs.Ytcihibmapbigdaa
