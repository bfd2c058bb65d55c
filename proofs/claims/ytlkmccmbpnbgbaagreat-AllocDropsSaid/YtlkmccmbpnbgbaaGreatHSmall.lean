/-
 stevedorekeep's Small: the first list that is too long.
 stevedorekeep's Small: the first list that is too long.
 stevedorekeep's Small: the first list that is too long.
 THE CONTRACT of stevedorekeep's Small.
-/
import Derived.Test.YtlkmccmbpnbgbaaGreatHHouse
namespace Go.Proofs.YtlkmccmbpnbgbaaGreat
open Go.RowKit

set_option maxRecDepth 100000 in
set_option maxHeartbeats 3200000 in
theorem small_at0 (h : Hs) (w : World) (h0 : decide ((h.n 0 : Int) ≤ 80) = false) : Calls Tryz.prog 8 #[h.val] w fun e w' => e = .returned (.bool false) ∧ Below w.heap.size w w' := by
 unfold Hs.val
 go_enter Tryz.func8, Tryz.ntmps8
 go_wp2_with fail
 go_ret
 exact ⟨rfl, (Below.refl _ _).alloc (Nat.le_refl _) _⟩
set_option maxRecDepth 100000 in
set_option maxHeartbeats 3200000 in
theorem small_at1 (h : Hs) (w : World) (h0 : decide ((h.n 0 : Int) ≤ 80) = true) (h1 : decide ((h.n 1 : Int) ≤ 160) = false) : Calls Tryz.prog 8 #[h.val] w fun e w' => e = .returned (.bool false) ∧ Below w.heap.size w w' := by
 unfold Hs.val
 go_enter Tryz.func8, Tryz.ntmps8
 go_wp2_with fail
 go_ret
 exact ⟨rfl, (Below.refl _ _).alloc (Nat.le_refl _) _⟩
set_option maxRecDepth 100000 in
set_option maxHeartbeats 3200000 in
theorem small_at2 (h : Hs) (w : World) (h0 : decide ((h.n 0 : Int) ≤ 80) = true) (h1 : decide ((h.n 1 : Int) ≤ 160) = true) (h2 : decide ((h.n 2 : Int) ≤ 40) = false) : Calls Tryz.prog 8 #[h.val] w fun e w' => e = .returned (.bool false) ∧ Below w.heap.size w w' := by
 unfold Hs.val
 go_enter Tryz.func8, Tryz.ntmps8
 go_wp2_with fail
 go_ret
 exact ⟨rfl, (Below.refl _ _).alloc (Nat.le_refl _) _⟩
set_option maxRecDepth 100000 in
set_option maxHeartbeats 3200000 in
theorem small_at3 (h : Hs) (w : World) (h0 : decide ((h.n 0 : Int) ≤ 80) = true) (h1 : decide ((h.n 1 : Int) ≤ 160) = true) (h2 : decide ((h.n 2 : Int) ≤ 40) = true) (h3 : decide ((h.n 3 : Int) ≤ 80) = false) : Calls Tryz.prog 8 #[h.val] w fun e w' => e = .returned (.bool false) ∧ Below w.heap.size w w' := by
 unfold Hs.val
 go_enter Tryz.func8, Tryz.ntmps8
 go_wp2_with fail
 go_ret
 exact ⟨rfl, (Below.refl _ _).alloc (Nat.le_refl _) _⟩
set_option maxRecDepth 100000 in
set_option maxHeartbeats 3200000 in
theorem small_at4 (h : Hs) (w : World) (h0 : decide ((h.n 0 : Int) ≤ 80) = true) (h1 : decide ((h.n 1 : Int) ≤ 160) = true) (h2 : decide ((h.n 2 : Int) ≤ 40) = true) (h3 : decide ((h.n 3 : Int) ≤ 80) = true) (h4 : decide ((h.n 4 : Int) ≤ 300) = false) : Calls Tryz.prog 8 #[h.val] w fun e w' => e = .returned (.bool false) ∧ Below w.heap.size w w' := by
 unfold Hs.val
 go_enter Tryz.func8, Tryz.ntmps8
 go_wp2_with fail
 go_ret
 exact ⟨rfl, (Below.refl _ _).alloc (Nat.le_refl _) _⟩
set_option maxRecDepth 100000 in
set_option maxHeartbeats 3200000 in
theorem small_at5 (h : Hs) (w : World) (h0 : decide ((h.n 0 : Int) ≤ 80) = true) (h1 : decide ((h.n 1 : Int) ≤ 160) = true) (h2 : decide ((h.n 2 : Int) ≤ 40) = true) (h3 : decide ((h.n 3 : Int) ≤ 80) = true) (h4 : decide ((h.n 4 : Int) ≤ 300) = true) (h5 : decide ((h.n 5 : Int) ≤ 60) = false) : Calls Tryz.prog 8 #[h.val] w fun e w' => e = .returned (.bool false) ∧ Below w.heap.size w w' := by
 unfold Hs.val
 go_enter Tryz.func8, Tryz.ntmps8
 go_wp2_with fail
 go_ret
 exact ⟨rfl, (Below.refl _ _).alloc (Nat.le_refl _) _⟩
end Go.Proofs.YtlkmccmbpnbgbaaGreat

namespace Go.Proofs.YtlkmccmbpnbgbaaGreat
open Go.RowKit

set_option maxRecDepth 100000 in
set_option maxHeartbeats 3200000 in
theorem small_at6 (h : Hs) (w : World) (h0 : decide ((h.n 0 : Int) ≤ 80) = true) (h1 : decide ((h.n 1 : Int) ≤ 160) = true) (h2 : decide ((h.n 2 : Int) ≤ 40) = true) (h3 : decide ((h.n 3 : Int) ≤ 80) = true) (h4 : decide ((h.n 4 : Int) ≤ 300) = true) (h5 : decide ((h.n 5 : Int) ≤ 60) = true) (h6 : decide ((h.n 6 : Int) ≤ 60) = false) : Calls Tryz.prog 8 #[h.val] w fun e w' => e = .returned (.bool false) ∧ Below w.heap.size w w' := by
 unfold Hs.val
 go_enter Tryz.func8, Tryz.ntmps8
 go_wp2_with fail
 go_ret
 exact ⟨rfl, (Below.refl _ _).alloc (Nat.le_refl _) _⟩
set_option maxRecDepth 100000 in
set_option maxHeartbeats 3200000 in
theorem small_at7 (h : Hs) (w : World) (h0 : decide ((h.n 0 : Int) ≤ 80) = true) (h1 : decide ((h.n 1 : Int) ≤ 160) = true) (h2 : decide ((h.n 2 : Int) ≤ 40) = true) (h3 : decide ((h.n 3 : Int) ≤ 80) = true) (h4 : decide ((h.n 4 : Int) ≤ 300) = true) (h5 : decide ((h.n 5 : Int) ≤ 60) = true) (h6 : decide ((h.n 6 : Int) ≤ 60) = true) (h7 : decide ((h.n 7 : Int) ≤ 60) = false) : Calls Tryz.prog 8 #[h.val] w fun e w' => e = .returned (.bool false) ∧ Below w.heap.size w w' := by
 unfold Hs.val
 go_enter Tryz.func8, Tryz.ntmps8
 go_wp2_with fail
 go_ret
 exact ⟨rfl, (Below.refl _ _).alloc (Nat.le_refl _) _⟩
set_option maxRecDepth 100000 in
set_option maxHeartbeats 3200000 in
theorem small_at8 (h : Hs) (w : World) (h0 : decide ((h.n 0 : Int) ≤ 80) = true) (h1 : decide ((h.n 1 : Int) ≤ 160) = true) (h2 : decide ((h.n 2 : Int) ≤ 40) = true) (h3 : decide ((h.n 3 : Int) ≤ 80) = true) (h4 : decide ((h.n 4 : Int) ≤ 300) = true) (h5 : decide ((h.n 5 : Int) ≤ 60) = true) (h6 : decide ((h.n 6 : Int) ≤ 60) = true) (h7 : decide ((h.n 7 : Int) ≤ 60) = true) (h8 : decide ((h.n 8 : Int) ≤ 160) = false) : Calls Tryz.prog 8 #[h.val] w fun e w' => e = .returned (.bool false) ∧ Below w.heap.size w w' := by
 unfold Hs.val
 go_enter Tryz.func8, Tryz.ntmps8
 go_wp2_with fail
 go_ret
 exact ⟨rfl, (Below.refl _ _).alloc (Nat.le_refl _) _⟩
set_option maxRecDepth 100000 in
set_option maxHeartbeats 3200000 in
theorem small_at9 (h : Hs) (w : World) (h0 : decide ((h.n 0 : Int) ≤ 80) = true) (h1 : decide ((h.n 1 : Int) ≤ 160) = true) (h2 : decide ((h.n 2 : Int) ≤ 40) = true) (h3 : decide ((h.n 3 : Int) ≤ 80) = true) (h4 : decide ((h.n 4 : Int) ≤ 300) = true) (h5 : decide ((h.n 5 : Int) ≤ 60) = true) (h6 : decide ((h.n 6 : Int) ≤ 60) = true) (h7 : decide ((h.n 7 : Int) ≤ 60) = true) (h8 : decide ((h.n 8 : Int) ≤ 160) = true) (h9 : decide ((h.n 9 : Int) ≤ 160) = false) : Calls Tryz.prog 8 #[h.val] w fun e w' => e = .returned (.bool false) ∧ Below w.heap.size w w' := by
 unfold Hs.val
 go_enter Tryz.func8, Tryz.ntmps8
 go_wp2_with fail
 go_ret
 exact ⟨rfl, (Below.refl _ _).alloc (Nat.le_refl _) _⟩
set_option maxRecDepth 100000 in
set_option maxHeartbeats 3200000 in
theorem small_at10 (h : Hs) (w : World) (h0 : decide ((h.n 0 : Int) ≤ 80) = true) (h1 : decide ((h.n 1 : Int) ≤ 160) = true) (h2 : decide ((h.n 2 : Int) ≤ 40) = true) (h3 : decide ((h.n 3 : Int) ≤ 80) = true) (h4 : decide ((h.n 4 : Int) ≤ 300) = true) (h5 : decide ((h.n 5 : Int) ≤ 60) = true) (h6 : decide ((h.n 6 : Int) ≤ 60) = true) (h7 : decide ((h.n 7 : Int) ≤ 60) = true) (h8 : decide ((h.n 8 : Int) ≤ 160) = true) (h9 : decide ((h.n 9 : Int) ≤ 160) = true) (h10 : decide ((h.n 10 : Int) ≤ 80) = false) : Calls Tryz.prog 8 #[h.val] w fun e w' => e = .returned (.bool false) ∧ Below w.heap.size w w' := by
 unfold Hs.val
 go_enter Tryz.func8, Tryz.ntmps8
 go_wp2_with fail
 go_ret
 exact ⟨rfl, (Below.refl _ _).alloc (Nat.le_refl _) _⟩
end Go.Proofs.YtlkmccmbpnbgbaaGreat

namespace Go.Proofs.YtlkmccmbpnbgbaaGreat
open Go.RowKit

set_option maxRecDepth 100000 in
set_option maxHeartbeats 3200000 in
theorem small_at11 (h : Hs) (w : World) (h0 : decide ((h.n 0 : Int) ≤ 80) = true) (h1 : decide ((h.n 1 : Int) ≤ 160) = true) (h2 : decide ((h.n 2 : Int) ≤ 40) = true) (h3 : decide ((h.n 3 : Int) ≤ 80) = true) (h4 : decide ((h.n 4 : Int) ≤ 300) = true) (h5 : decide ((h.n 5 : Int) ≤ 60) = true) (h6 : decide ((h.n 6 : Int) ≤ 60) = true) (h7 : decide ((h.n 7 : Int) ≤ 60) = true) (h8 : decide ((h.n 8 : Int) ≤ 160) = true) (h9 : decide ((h.n 9 : Int) ≤ 160) = true) (h10 : decide ((h.n 10 : Int) ≤ 80) = true) (h11 : decide ((h.n 11 : Int) ≤ 160) = false) : Calls Tryz.prog 8 #[h.val] w fun e w' => e = .returned (.bool false) ∧ Below w.heap.size w w' := by
 unfold Hs.val
 go_enter Tryz.func8, Tryz.ntmps8
 go_wp2_with fail
 go_ret
 exact ⟨rfl, (Below.refl _ _).alloc (Nat.le_refl _) _⟩
set_option maxRecDepth 100000 in
set_option maxHeartbeats 3200000 in
theorem small_at12 (h : Hs) (w : World) (h0 : decide ((h.n 0 : Int) ≤ 80) = true) (h1 : decide ((h.n 1 : Int) ≤ 160) = true) (h2 : decide ((h.n 2 : Int) ≤ 40) = true) (h3 : decide ((h.n 3 : Int) ≤ 80) = true) (h4 : decide ((h.n 4 : Int) ≤ 300) = true) (h5 : decide ((h.n 5 : Int) ≤ 60) = true) (h6 : decide ((h.n 6 : Int) ≤ 60) = true) (h7 : decide ((h.n 7 : Int) ≤ 60) = true) (h8 : decide ((h.n 8 : Int) ≤ 160) = true) (h9 : decide ((h.n 9 : Int) ≤ 160) = true) (h10 : decide ((h.n 10 : Int) ≤ 80) = true) (h11 : decide ((h.n 11 : Int) ≤ 160) = true) (h12 : decide ((h.n 12 : Int) ≤ 120) = false) : Calls Tryz.prog 8 #[h.val] w fun e w' => e = .returned (.bool false) ∧ Below w.heap.size w w' := by
 unfold Hs.val
 go_enter Tryz.func8, Tryz.ntmps8
 go_wp2_with fail
 go_ret
 exact ⟨rfl, (Below.refl _ _).alloc (Nat.le_refl _) _⟩
set_option maxRecDepth 100000 in
set_option maxHeartbeats 3200000 in
theorem small_at13 (h : Hs) (w : World) (h0 : decide ((h.n 0 : Int) ≤ 80) = true) (h1 : decide ((h.n 1 : Int) ≤ 160) = true) (h2 : decide ((h.n 2 : Int) ≤ 40) = true) (h3 : decide ((h.n 3 : Int) ≤ 80) = true) (h4 : decide ((h.n 4 : Int) ≤ 300) = true) (h5 : decide ((h.n 5 : Int) ≤ 60) = true) (h6 : decide ((h.n 6 : Int) ≤ 60) = true) (h7 : decide ((h.n 7 : Int) ≤ 60) = true) (h8 : decide ((h.n 8 : Int) ≤ 160) = true) (h9 : decide ((h.n 9 : Int) ≤ 160) = true) (h10 : decide ((h.n 10 : Int) ≤ 80) = true) (h11 : decide ((h.n 11 : Int) ≤ 160) = true) (h12 : decide ((h.n 12 : Int) ≤ 120) = true) (h13 : decide ((h.n 13 : Int) ≤ 300) = false) : Calls Tryz.prog 8 #[h.val] w fun e w' => e = .returned (.bool false) ∧ Below w.heap.size w w' := by
 unfold Hs.val
 go_enter Tryz.func8, Tryz.ntmps8
 go_wp2_with fail
 go_ret
 exact ⟨rfl, (Below.refl _ _).alloc (Nat.le_refl _) _⟩
set_option maxRecDepth 100000 in
set_option maxHeartbeats 3200000 in
theorem small_at14 (h : Hs) (w : World) (h0 : decide ((h.n 0 : Int) ≤ 80) = true) (h1 : decide ((h.n 1 : Int) ≤ 160) = true) (h2 : decide ((h.n 2 : Int) ≤ 40) = true) (h3 : decide ((h.n 3 : Int) ≤ 80) = true) (h4 : decide ((h.n 4 : Int) ≤ 300) = true) (h5 : decide ((h.n 5 : Int) ≤ 60) = true) (h6 : decide ((h.n 6 : Int) ≤ 60) = true) (h7 : decide ((h.n 7 : Int) ≤ 60) = true) (h8 : decide ((h.n 8 : Int) ≤ 160) = true) (h9 : decide ((h.n 9 : Int) ≤ 160) = true) (h10 : decide ((h.n 10 : Int) ≤ 80) = true) (h11 : decide ((h.n 11 : Int) ≤ 160) = true) (h12 : decide ((h.n 12 : Int) ≤ 120) = true) (h13 : decide ((h.n 13 : Int) ≤ 300) = true) : Calls Tryz.prog 8 #[h.val] w fun e w' => e = .returned (.bool true) ∧ Below w.heap.size w w' := by
 unfold Hs.val
 go_enter Tryz.func8, Tryz.ntmps8
 go_wp2_with fail
 go_ret
 exact ⟨rfl, (Below.refl _ _).alloc (Nat.le_refl _) _⟩
end Go.Proofs.YtlkmccmbpnbgbaaGreat

namespace Go.Proofs.YtlkmccmbpnbgbaaGreat
open Go.RowKit

theorem small_not (h : Hs) (i : Nat) (hi : i < 14) (hc : ¬ h.n i ≤ capOf i) : (false = true ↔ h.small) := ⟨fun e => (by cases e), fun hs => absurd (hs i hi) hc⟩
theorem small_calls (h : Hs) (w : World) : Calls Tryz.prog 8 #[h.val] w fun e w' => (∃ b : Bool, e = .returned (.bool b) ∧ (b = true ↔ h.small)) ∧ Below w.heap.size w w' := by
 by_cases h0 : h.n 0 ≤ 80
 case neg => exact (small_at0 h w (by simp; omega)).mono fun e w' he => ⟨⟨false, he.1, small_not h 0 (by decide) h0⟩, he.2⟩
 by_cases h1 : h.n 1 ≤ 160
 case neg => exact (small_at1 h w (by simpa using (by omega : (h.n 0 : Int) ≤ 80)) (by simp; omega)).mono fun e w' he => ⟨⟨false, he.1, small_not h 1 (by decide) h1⟩, he.2⟩
 by_cases h2 : h.n 2 ≤ 40
 case neg => exact (small_at2 h w (by simpa using (by omega : (h.n 0 : Int) ≤ 80)) (by simpa using (by omega : (h.n 1 : Int) ≤ 160)) (by simp; omega)).mono fun e w' he => ⟨⟨false, he.1, small_not h 2 (by decide) h2⟩, he.2⟩
 by_cases h3 : h.n 3 ≤ 80
 case neg => exact (small_at3 h w (by simpa using (by omega : (h.n 0 : Int) ≤ 80)) (by simpa using (by omega : (h.n 1 : Int) ≤ 160)) (by simpa using (by omega : (h.n 2 : Int) ≤ 40)) (by simp; omega)).mono fun e w' he => ⟨⟨false, he.1, small_not h 3 (by decide) h3⟩, he.2⟩
 by_cases h4 : h.n 4 ≤ 300
 case neg => exact (small_at4 h w (by simpa using (by omega : (h.n 0 : Int) ≤ 80)) (by simpa using (by omega : (h.n 1 : Int) ≤ 160)) (by simpa using (by omega : (h.n 2 : Int) ≤ 40)) (by simpa using (by omega : (h.n 3 : Int) ≤ 80)) (by simp; omega)).mono fun e w' he => ⟨⟨false, he.1, small_not h 4 (by decide) h4⟩, he.2⟩
 by_cases h5 : h.n 5 ≤ 60
 case neg => exact (small_at5 h w (by simpa using (by omega : (h.n 0 : Int) ≤ 80)) (by simpa using (by omega : (h.n 1 : Int) ≤ 160)) (by simpa using (by omega : (h.n 2 : Int) ≤ 40)) (by simpa using (by omega : (h.n 3 : Int) ≤ 80)) (by simpa using (by omega : (h.n 4 : Int) ≤ 300)) (by simp; omega)).mono fun e w' he => ⟨⟨false, he.1, small_not h 5 (by decide) h5⟩, he.2⟩
 by_cases h6 : h.n 6 ≤ 60
 case neg => exact (small_at6 h w (by simpa using (by omega : (h.n 0 : Int) ≤ 80)) (by simpa using (by omega : (h.n 1 : Int) ≤ 160)) (by simpa using (by omega : (h.n 2 : Int) ≤ 40)) (by simpa using (by omega : (h.n 3 : Int) ≤ 80)) (by simpa using (by omega : (h.n 4 : Int) ≤ 300)) (by simpa using (by omega : (h.n 5 : Int) ≤ 60)) (by simp; omega)).mono fun e w' he => ⟨⟨false, he.1, small_not h 6 (by decide) h6⟩, he.2⟩
 by_cases h7 : h.n 7 ≤ 60
 case neg => exact (small_at7 h w (by simpa using (by omega : (h.n 0 : Int) ≤ 80)) (by simpa using (by omega : (h.n 1 : Int) ≤ 160)) (by simpa using (by omega : (h.n 2 : Int) ≤ 40)) (by simpa using (by omega : (h.n 3 : Int) ≤ 80)) (by simpa using (by omega : (h.n 4 : Int) ≤ 300)) (by simpa using (by omega : (h.n 5 : Int) ≤ 60)) (by simpa using (by omega : (h.n 6 : Int) ≤ 60)) (by simp; omega)).mono fun e w' he => ⟨⟨false, he.1, small_not h 7 (by decide) h7⟩, he.2⟩
 by_cases h8 : h.n 8 ≤ 160
 case neg => exact (small_at8 h w (by simpa using (by omega : (h.n 0 : Int) ≤ 80)) (by simpa using (by omega : (h.n 1 : Int) ≤ 160)) (by simpa using (by omega : (h.n 2 : Int) ≤ 40)) (by simpa using (by omega : (h.n 3 : Int) ≤ 80)) (by simpa using (by omega : (h.n 4 : Int) ≤ 300)) (by simpa using (by omega : (h.n 5 : Int) ≤ 60)) (by simpa using (by omega : (h.n 6 : Int) ≤ 60)) (by simpa using (by omega : (h.n 7 : Int) ≤ 60)) (by simp; omega)).mono fun e w' he => ⟨⟨false, he.1, small_not h 8 (by decide) h8⟩, he.2⟩
 by_cases h9 : h.n 9 ≤ 160
 case neg => exact (small_at9 h w (by simpa using (by omega : (h.n 0 : Int) ≤ 80)) (by simpa using (by omega : (h.n 1 : Int) ≤ 160)) (by simpa using (by omega : (h.n 2 : Int) ≤ 40)) (by simpa using (by omega : (h.n 3 : Int) ≤ 80)) (by simpa using (by omega : (h.n 4 : Int) ≤ 300)) (by simpa using (by omega : (h.n 5 : Int) ≤ 60)) (by simpa using (by omega : (h.n 6 : Int) ≤ 60)) (by simpa using (by omega : (h.n 7 : Int) ≤ 60)) (by simpa using (by omega : (h.n 8 : Int) ≤ 160)) (by simp; omega)).mono fun e w' he => ⟨⟨false, he.1, small_not h 9 (by decide) h9⟩, he.2⟩
 by_cases h10 : h.n 10 ≤ 80
 case neg => exact (small_at10 h w (by simpa using (by omega : (h.n 0 : Int) ≤ 80)) (by simpa using (by omega : (h.n 1 : Int) ≤ 160)) (by simpa using (by omega : (h.n 2 : Int) ≤ 40)) (by simpa using (by omega : (h.n 3 : Int) ≤ 80)) (by simpa using (by omega : (h.n 4 : Int) ≤ 300)) (by simpa using (by omega : (h.n 5 : Int) ≤ 60)) (by simpa using (by omega : (h.n 6 : Int) ≤ 60)) (by simpa using (by omega : (h.n 7 : Int) ≤ 60)) (by simpa using (by omega : (h.n 8 : Int) ≤ 160)) (by simpa using (by omega : (h.n 9 : Int) ≤ 160)) (by simp; omega)).mono fun e w' he => ⟨⟨false, he.1, small_not h 10 (by decide) h10⟩, he.2⟩
 by_cases h11 : h.n 11 ≤ 160
 case neg => exact (small_at11 h w (by simpa using (by omega : (h.n 0 : Int) ≤ 80)) (by simpa using (by omega : (h.n 1 : Int) ≤ 160)) (by simpa using (by omega : (h.n 2 : Int) ≤ 40)) (by simpa using (by omega : (h.n 3 : Int) ≤ 80)) (by simpa using (by omega : (h.n 4 : Int) ≤ 300)) (by simpa using (by omega : (h.n 5 : Int) ≤ 60)) (by simpa using (by omega : (h.n 6 : Int) ≤ 60)) (by simpa using (by omega : (h.n 7 : Int) ≤ 60)) (by simpa using (by omega : (h.n 8 : Int) ≤ 160)) (by simpa using (by omega : (h.n 9 : Int) ≤ 160)) (by simpa using (by omega : (h.n 10 : Int) ≤ 80)) (by simp; omega)).mono fun e w' he => ⟨⟨false, he.1, small_not h 11 (by decide) h11⟩, he.2⟩
 by_cases h12 : h.n 12 ≤ 120
 case neg => exact (small_at12 h w (by simpa using (by omega : (h.n 0 : Int) ≤ 80)) (by simpa using (by omega : (h.n 1 : Int) ≤ 160)) (by simpa using (by omega : (h.n 2 : Int) ≤ 40)) (by simpa using (by omega : (h.n 3 : Int) ≤ 80)) (by simpa using (by omega : (h.n 4 : Int) ≤ 300)) (by simpa using (by omega : (h.n 5 : Int) ≤ 60)) (by simpa using (by omega : (h.n 6 : Int) ≤ 60)) (by simpa using (by omega : (h.n 7 : Int) ≤ 60)) (by simpa using (by omega : (h.n 8 : Int) ≤ 160)) (by simpa using (by omega : (h.n 9 : Int) ≤ 160)) (by simpa using (by omega : (h.n 10 : Int) ≤ 80)) (by simpa using (by omega : (h.n 11 : Int) ≤ 160)) (by simp; omega)).mono fun e w' he => ⟨⟨false, he.1, small_not h 12 (by decide) h12⟩, he.2⟩
 by_cases h13 : h.n 13 ≤ 300
 case neg => exact (small_at13 h w (by simpa using (by omega : (h.n 0 : Int) ≤ 80)) (by simpa using (by omega : (h.n 1 : Int) ≤ 160)) (by simpa using (by omega : (h.n 2 : Int) ≤ 40)) (by simpa using (by omega : (h.n 3 : Int) ≤ 80)) (by simpa using (by omega : (h.n 4 : Int) ≤ 300)) (by simpa using (by omega : (h.n 5 : Int) ≤ 60)) (by simpa using (by omega : (h.n 6 : Int) ≤ 60)) (by simpa using (by omega : (h.n 7 : Int) ≤ 60)) (by simpa using (by omega : (h.n 8 : Int) ≤ 160)) (by simpa using (by omega : (h.n 9 : Int) ≤ 160)) (by simpa using (by omega : (h.n 10 : Int) ≤ 80)) (by simpa using (by omega : (h.n 11 : Int) ≤ 160)) (by simpa using (by omega : (h.n 12 : Int) ≤ 120)) (by simp; omega)).mono fun e w' he => ⟨⟨false, he.1, small_not h 13 (by decide) h13⟩, he.2⟩
 have hs : h.small := fun i hi => by
  match i, hi with
  | 0, _ => exact h0
  | 1, _ => exact h1
  | 2, _ => exact h2
  | 3, _ => exact h3
  | 4, _ => exact h4
  | 5, _ => exact h5
  | 6, _ => exact h6
  | 7, _ => exact h7
  | 8, _ => exact h8
  | 9, _ => exact h9
  | 10, _ => exact h10
  | 11, _ => exact h11
  | 12, _ => exact h12
  | 13, _ => exact h13
  | i + 14, hi => omega
 exact (small_at14 h w (by simpa using (by omega : (h.n 0 : Int) ≤ 80)) (by simpa using (by omega : (h.n 1 : Int) ≤ 160)) (by simpa using (by omega : (h.n 2 : Int) ≤ 40)) (by simpa using (by omega : (h.n 3 : Int) ≤ 80)) (by simpa using (by omega : (h.n 4 : Int) ≤ 300)) (by simpa using (by omega : (h.n 5 : Int) ≤ 60)) (by simpa using (by omega : (h.n 6 : Int) ≤ 60)) (by simpa using (by omega : (h.n 7 : Int) ≤ 60)) (by simpa using (by omega : (h.n 8 : Int) ≤ 160)) (by simpa using (by omega : (h.n 9 : Int) ≤ 160)) (by simpa using (by omega : (h.n 10 : Int) ≤ 80)) (by simpa using (by omega : (h.n 11 : Int) ≤ 160)) (by simpa using (by omega : (h.n 12 : Int) ≤ 120)) (by simpa using (by omega : (h.n 13 : Int) ≤ 300))).mono fun e w' he => ⟨⟨true, he.1, fun _ => hs, fun _ => rfl⟩, he.2⟩
end Go.Proofs.YtlkmccmbpnbgbaaGreat
