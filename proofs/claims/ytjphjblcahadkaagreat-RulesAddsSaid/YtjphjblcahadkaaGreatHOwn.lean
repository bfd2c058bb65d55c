/-
  WORDS of a house's block, of rows beside it.
-/
import Derived.Test.YtjphjblcahadkaaGreatGT
import Derived.Test.YtjphjblcahadkaaGreatHHouse
namespace Go.Proofs.YtjphjblcahadkaaGreat
set_option linter.unusedVariables false
open Go.RowKit

theorem Hs.val_cells (h : Hs) : h.val = .agg h.cells := rfl
theorem setRow_below {B : Nat} {w w' : World} {g : Nat} (hb : Below B w w') (hg : B ≤ g) (cs : Array Value) : Below B w (w'.setRow g cs) :=
  ⟨hb.os, hb.tape, hb.output, by simpa using hb.size, fun k hk => (setRow_other _ _ k _ (by omega)).trans (hb.block k hk)⟩

theorem own_far {w : World} {B B' size n : Nat} {e : TypeId} {v : Value} {xs : List Value} {p : Addr} {u : Value} (h : w.ownsRow B e size v n xs) (hp : p.block < B) (hB : B' ≤ B) : (w.setCell p u).ownsRow B' e size v n xs := by
  refine ⟨h.1, h.2.imp id fun ⟨g, cap, cur, hv, hb, hh, hr⟩ => ⟨g, cap, cur, hv, by omega, (Below.heap_setCell _ _ _ _ (by omega)).trans hh, hr⟩⟩
theorem own_rowed {w : World} {B B' size n g : Nat} {e : TypeId} {v : Value} {xs : List Value} {cs : Array Value} (h : w.ownsRow B e size v n xs) (hp : g < B) (hB : B' ≤ B) : (w.setRow g cs).ownsRow B' e size v n xs := by
  refine ⟨h.1, h.2.imp id fun ⟨g', cap, cur, hv, hb, hh, hr⟩ => ⟨g', cap, cur, hv, by omega, (setRow_other _ _ _ _ (by omega)).trans hh, hr⟩⟩

end Go.Proofs.YtjphjblcahadkaaGreat
