/-
 WHAT Naive hands back. (By wip/tools/port16.py.)
-/
import Derived.Test.YtlkmccmbpnbgbaaGreatWFacts
import Derived.Test.YtlkmccmbpnbgbaaGreatGT
import Derived.Test.YtlkmccmbpnbgbaaGreatHKept
import Derived.BigQuiet
import Derived.Deep.CutRange
import Derived.Deep.RegionHeld3
namespace Go.Proofs.YtlkmccmbpnbgbaaGreat
set_option linter.unusedVariables false
open Go.RowKit
open Pl (firstG firstG_none firstG_some findG overG putG dropG It)

/-- The call hands back a list of takes. -/
def TakesP (l : List (List Value)) (w : World) (e : Ending) (w' : World) : Prop :=
 Below w.heap.size w w' ∧ ∃ A c, e = .returned (.slice A l.length c) ∧ Rd w' w'.heap.size A l.flatten
theorem things_pick (L : Nat → List (List Value)) (s i : ByteArray) (n : Int) : Things kTake (pickL L s i n) := fun e he => by
 obtain ⟨p, _, rfl⟩ := List.mem_map.1 he
 exact takeQ_fits _ p
theorem Pl.ordN_len {less : Nat → Nat → Bool} {m : Nat} : ∀ (f : Nat) (P : Nat → Bool), (Pl.ordN less m f P).length ≤ f
 | 0, _ => Nat.le_refl 0
 | f + 1, P => by
  unfold Pl.ordN
  split
  · exact Nat.zero_le _
  · exact Nat.succ_le_succ (Pl.ordN_len f _)
theorem pick_len (L : Nat → List (List Value)) (s i : ByteArray) (n : Int) : (pickL L s i n).length ≤ (L 4).length := by
 unfold pickL pickI
 rw [List.length_map]
 exact Nat.le_trans (Pl.cutN_len _ _) (Pl.ordN_len _ _)
end Go.Proofs.YtlkmccmbpnbgbaaGreat
