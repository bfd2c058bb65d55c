/-
  The walks of SlotsLasts and SlotsNil at the contracts.
-/
import Derived.Test.YtkcickbkmedbmaaSlotsLastsWalk
import Derived.Test.YtkcickbkmedbmaaSlotsNilWalk
import Derived.Test.YtkcickbkmedbmaaSAll
namespace Go.Proofs.Ytkcickbkmedbmaa
open Go.RowKit

theorem awake_any (w : World) : Calls Try.prog 25 #[] w fun e w' => e = .returned (.bool true) ∧ Below w.heap.size w w' := awake_of cons w
theorem slotsLasts.walk (A : Option Addr) (n c : Nat) (zs : List Int) (A2 : Option Addr) (n2 c2 : Nat) (cuts : List Int) (w : World) (hn : n = zs.length) (hu : n * 8 ≤ 140737488351232) (hr : Rd w w.heap.size A (zs.map (Value.int .i64))) (hn2 : n2 = cuts.length) (hu2 : n2 * 8 ≤ 140737488351232) (hr2 : Rd w w.heap.size A2 (cuts.map (Value.int .i64))) :
    Calls Try.prog 4 #[.slice A n c, .slice A2 n2 c2] w fun e w' => e = .returned (.bool true) ∧ Below w.heap.size w w' :=
  slotsLasts.walk_of cons awake_any A n c zs A2 n2 c2 cuts w hn (by omega) hr hn2 (by omega) hr2
theorem slotsNil.walk (z : Int) (d : ByteArray) (w : World) (hz : Wf z) (hd : d.size ≤ 140737488351232) : Calls Try.prog 5 #[.int .i64 z, .string d] w fun e w' => e = .returned (.bool true) ∧ Below w.heap.size w w' :=
  slotsNil.walk_of cons awake_any z d w hz (by omega)
end Go.Proofs.Ytkcickbkmedbmaa
