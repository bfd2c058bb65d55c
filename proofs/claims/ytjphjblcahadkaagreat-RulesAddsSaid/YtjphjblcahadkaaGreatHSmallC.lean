/-
  stevedorekeep's Small: the first list that is too long.
-/
import Derived.Test.YtjphjblcahadkaaGreatHHouse
namespace Go.Proofs.YtjphjblcahadkaaGreat
open Go.RowKit

set_option maxRecDepth 100000 in
set_option maxHeartbeats 3200000 in
theorem small_at11 (h : Hs) (w : World) (h0 : decide ((h.n 0 : Int) ≤ 80) = true) (h1 : decide ((h.n 1 : Int) ≤ 160) = true) (h2 : decide ((h.n 2 : Int) ≤ 40) = true) (h3 : decide ((h.n 3 : Int) ≤ 80) = true) (h4 : decide ((h.n 4 : Int) ≤ 300) = true) (h5 : decide ((h.n 5 : Int) ≤ 60) = true) (h6 : decide ((h.n 6 : Int) ≤ 60) = true) (h7 : decide ((h.n 7 : Int) ≤ 60) = true) (h8 : decide ((h.n 8 : Int) ≤ 160) = true) (h9 : decide ((h.n 9 : Int) ≤ 160) = true) (h10 : decide ((h.n 10 : Int) ≤ 80) = true) (h11 : decide ((h.n 11 : Int) ≤ 160) = false) : Calls Tryz.prog 5 #[h.val] w fun e w' => e = .returned (.bool false) ∧ Below w.heap.size w w' := by
  unfold Hs.val
  go_enter Tryz.func5, Tryz.ntmps5
  go_wp2_with fail
  go_ret
  exact ⟨rfl, (Below.refl _ _).alloc (Nat.le_refl _) _⟩
set_option maxRecDepth 100000 in
set_option maxHeartbeats 3200000 in
theorem small_at12 (h : Hs) (w : World) (h0 : decide ((h.n 0 : Int) ≤ 80) = true) (h1 : decide ((h.n 1 : Int) ≤ 160) = true) (h2 : decide ((h.n 2 : Int) ≤ 40) = true) (h3 : decide ((h.n 3 : Int) ≤ 80) = true) (h4 : decide ((h.n 4 : Int) ≤ 300) = true) (h5 : decide ((h.n 5 : Int) ≤ 60) = true) (h6 : decide ((h.n 6 : Int) ≤ 60) = true) (h7 : decide ((h.n 7 : Int) ≤ 60) = true) (h8 : decide ((h.n 8 : Int) ≤ 160) = true) (h9 : decide ((h.n 9 : Int) ≤ 160) = true) (h10 : decide ((h.n 10 : Int) ≤ 80) = true) (h11 : decide ((h.n 11 : Int) ≤ 160) = true) (h12 : decide ((h.n 12 : Int) ≤ 120) = false) : Calls Tryz.prog 5 #[h.val] w fun e w' => e = .returned (.bool false) ∧ Below w.heap.size w w' := by
  unfold Hs.val
  go_enter Tryz.func5, Tryz.ntmps5
  go_wp2_with fail
  go_ret
  exact ⟨rfl, (Below.refl _ _).alloc (Nat.le_refl _) _⟩
set_option maxRecDepth 100000 in
set_option maxHeartbeats 3200000 in
theorem small_at13 (h : Hs) (w : World) (h0 : decide ((h.n 0 : Int) ≤ 80) = true) (h1 : decide ((h.n 1 : Int) ≤ 160) = true) (h2 : decide ((h.n 2 : Int) ≤ 40) = true) (h3 : decide ((h.n 3 : Int) ≤ 80) = true) (h4 : decide ((h.n 4 : Int) ≤ 300) = true) (h5 : decide ((h.n 5 : Int) ≤ 60) = true) (h6 : decide ((h.n 6 : Int) ≤ 60) = true) (h7 : decide ((h.n 7 : Int) ≤ 60) = true) (h8 : decide ((h.n 8 : Int) ≤ 160) = true) (h9 : decide ((h.n 9 : Int) ≤ 160) = true) (h10 : decide ((h.n 10 : Int) ≤ 80) = true) (h11 : decide ((h.n 11 : Int) ≤ 160) = true) (h12 : decide ((h.n 12 : Int) ≤ 120) = true) (h13 : decide ((h.n 13 : Int) ≤ 300) = false) : Calls Tryz.prog 5 #[h.val] w fun e w' => e = .returned (.bool false) ∧ Below w.heap.size w w' := by
  unfold Hs.val
  go_enter Tryz.func5, Tryz.ntmps5
  go_wp2_with fail
  go_ret
  exact ⟨rfl, (Below.refl _ _).alloc (Nat.le_refl _) _⟩
set_option maxRecDepth 100000 in
set_option maxHeartbeats 3200000 in
theorem small_at14 (h : Hs) (w : World) (h0 : decide ((h.n 0 : Int) ≤ 80) = true) (h1 : decide ((h.n 1 : Int) ≤ 160) = true) (h2 : decide ((h.n 2 : Int) ≤ 40) = true) (h3 : decide ((h.n 3 : Int) ≤ 80) = true) (h4 : decide ((h.n 4 : Int) ≤ 300) = true) (h5 : decide ((h.n 5 : Int) ≤ 60) = true) (h6 : decide ((h.n 6 : Int) ≤ 60) = true) (h7 : decide ((h.n 7 : Int) ≤ 60) = true) (h8 : decide ((h.n 8 : Int) ≤ 160) = true) (h9 : decide ((h.n 9 : Int) ≤ 160) = true) (h10 : decide ((h.n 10 : Int) ≤ 80) = true) (h11 : decide ((h.n 11 : Int) ≤ 160) = true) (h12 : decide ((h.n 12 : Int) ≤ 120) = true) (h13 : decide ((h.n 13 : Int) ≤ 300) = true) : Calls Tryz.prog 5 #[h.val] w fun e w' => e = .returned (.bool true) ∧ Below w.heap.size w w' := by
  unfold Hs.val
  go_enter Tryz.func5, Tryz.ntmps5
  go_wp2_with fail
  go_ret
  exact ⟨rfl, (Below.refl _ _).alloc (Nat.le_refl _) _⟩
end Go.Proofs.YtjphjblcahadkaaGreat
