/-
 THE CONTRACT of stevedorekeep's Kept.
 A HOUSE as it came in, and lent; what both Adds leave.
-/
import Derived.Test.YtlkmccmbpnbgbaaGreatHLent
import Derived.Test.YtlkmccmbpnbgbaaGreatHA
import Derived.Test.YtlkmccmbpnbgbaaGreatGT
import Derived.Test.YtlkmccmbpnbgbaaGreatOPl
namespace Go.Proofs.YtlkmccmbpnbgbaaGreat
set_option linter.unusedVariables false
open Go.RowKit

theorem range_row0 {w : World} {b : Nat} {cs : Array Value} {t : TypeId} (h : w.heap[b]? = some (.cells cs t (0, 0))) : w.rangeAt b 0 cs.toList := fun i v hv => by rw [cell_of_block h, Nat.zero_add]; simpa using hv
set_option maxRecDepth 100000 in
set_option maxHeartbeats 6400000 in
theorem kept_calls (g n c : Nat → Nat) (z : Int) (h : Hs) (w : World) (hn : ∀ i, i < 14 → h.n i = n i) (hc : ∀ i, i < 14 → n i + 1 ≤ c i) (hn6 : ∀ i, i < 14 → n i ≤ 1000)
 (hb : ∀ i, i < 14 → w.cell? ⟨g i, n i * (kOf i).length + pOf i, none⟩ = some (vOf i))
 (hsame : ∀ W, Below w.heap.size w W → Calls Tryz.prog 15 #[.agg (Hs.mk (fun i => some ⟨g i, 0, none⟩) n c z).cells, .agg h.cells] W fun e w' => e = .returned (.bool true) ∧ Below W.heap.size W w') :
 Calls Tryz.prog 18 #[.agg (Hs.mk (fun i => some ⟨g i, 0, none⟩) n c z).cells, .agg h.cells] w fun e w' => e = .returned (.bool true) ∧ Below w.heap.size w w' := by
 obtain ⟨W0, hW0⟩ : ∃ W0, W0 = (w.alloc (.cells (Hs.mk (fun i => some ⟨g i, 0, none⟩) n c z).cells 37)).alloc (.cells h.cells 37) := ⟨_, rfl⟩
 have HB0 : Hid (Below w.heap.size w W0) := Lib.hid (by rw [hW0]; exact ((Below.refl _ _).alloc (Nat.le_refl _) _).alloc (by simp) _)
 have HA0 : Hid (W0.heap[w.heap.size]? = some (.cells (Hs.mk (fun i => some ⟨g i, 0, none⟩) n c z).cells 37 (0, 0))) := Lib.hid (by rw [hW0]; exact (Below.heap_alloc _ _ _ (by simp)).trans (heap_alloc_new _ _))
 have HH0 : Hid (W0.heap[w.heap.size + 1]? = some (.cells h.cells 37 (0, 0))) := Lib.hid (by
  rw [hW0]
  have := heap_alloc_new (w.alloc (.cells (Hs.mk (fun i => some ⟨g i, 0, none⟩) n c z).cells 37)) (.cells h.cells 37)
  simpa using this)
 have HA1 : Hid (∀ X : BW W0, X.W.heap[w.heap.size]? = some (.cells (Hs.mk (fun i => some ⟨g i, 0, none⟩) n c z).cells 37 (0, 0))) := Lib.hid (fun X => (X.h.block _ (lt_of_block HA0.out)).trans HA0.out)
 have HH1 : Hid (∀ X : BW W0, X.W.heap[w.heap.size + 1]? = some (.cells h.cells 37 (0, 0))) := Lib.hid (fun X => (X.h.block _ (lt_of_block HH0.out)).trans HH0.out)
 have HSM : Hid (∀ X : BW W0, Calls Tryz.prog 15 #[.agg (Hs.mk (fun i => some ⟨g i, 0, none⟩) n c z).cells, .agg h.cells] X.W fun e w' => e = .returned (.bool true) ∧ Below X.W.heap.size X.W w') := Lib.hid (fun X => hsame X.W (HB0.out.trans (X.h.mono HB0.out.size)))
 have x0 : ∀ X : BW W0, X.W.cell? ⟨w.heap.size, 0, none⟩ = some (.slice (some ⟨g 0, 0, none⟩) (n 0) (c 0)) := fun X => (cell_of_block (HA1.out X)).trans rfl
 have y0 : ∀ X : BW W0, X.W.cell? ⟨w.heap.size + 1, 0, none⟩ = some (.slice (h.A 0) (n 0) (h.c 0)) := fun X => (cell_of_block (HH1.out X)).trans (by rw [← hn 0 (by decide)]; rfl)
 have b0 : ∀ X : BW W0, X.W.cell? ⟨g 0, n 0 * 14, none⟩ = some (.string ⟨#[98, 101, 104, 105, 110, 100]⟩) := fun X => by
  have := hb 0 (by decide)
  exact (X.h.cell (p := ⟨g 0, n 0 * 14, none⟩) (Nat.lt_of_lt_of_le (World.block_lt_of_cell? w _ this) HB0.out.size)).trans ((HB0.out.cell (p := ⟨g 0, n 0 * 14, none⟩) (World.block_lt_of_cell? w _ this)).trans this)
 have n0 : (n 0 : Int) + 1 ≤ (c 0 : Int) := by have := hc 0 (by decide); omega
 have m0 : (n 0 : Int) ≤ 1000 := by have := hn6 0 (by decide); omega
 have x1 : ∀ X : BW W0, X.W.cell? ⟨w.heap.size, 1, none⟩ = some (.slice (some ⟨g 1, 0, none⟩) (n 1) (c 1)) := fun X => (cell_of_block (HA1.out X)).trans rfl
 have y1 : ∀ X : BW W0, X.W.cell? ⟨w.heap.size + 1, 1, none⟩ = some (.slice (h.A 1) (n 1) (h.c 1)) := fun X => (cell_of_block (HH1.out X)).trans (by rw [← hn 1 (by decide)]; rfl)
 have b1 : ∀ X : BW W0, X.W.cell? ⟨g 1, n 1 * 3 + 1, none⟩ = some (.string ⟨#[98, 101, 104, 105, 110, 100]⟩) := fun X => by
  have := hb 1 (by decide)
  exact (X.h.cell (p := ⟨g 1, n 1 * 3 + 1, none⟩) (Nat.lt_of_lt_of_le (World.block_lt_of_cell? w _ this) HB0.out.size)).trans ((HB0.out.cell (p := ⟨g 1, n 1 * 3 + 1, none⟩) (World.block_lt_of_cell? w _ this)).trans this)
 have n1 : (n 1 : Int) + 1 ≤ (c 1 : Int) := by have := hc 1 (by decide); omega
 have m1 : (n 1 : Int) ≤ 1000 := by have := hn6 1 (by decide); omega
 have x2 : ∀ X : BW W0, X.W.cell? ⟨w.heap.size, 2, none⟩ = some (.slice (some ⟨g 2, 0, none⟩) (n 2) (c 2)) := fun X => (cell_of_block (HA1.out X)).trans rfl
 have y2 : ∀ X : BW W0, X.W.cell? ⟨w.heap.size + 1, 2, none⟩ = some (.slice (h.A 2) (n 2) (h.c 2)) := fun X => (cell_of_block (HH1.out X)).trans (by rw [← hn 2 (by decide)]; rfl)
 have b2 : ∀ X : BW W0, X.W.cell? ⟨g 2, n 2 * 2, none⟩ = some (.string ⟨#[98, 101, 104, 105, 110, 100]⟩) := fun X => by
  have := hb 2 (by decide)
  exact (X.h.cell (p := ⟨g 2, n 2 * 2, none⟩) (Nat.lt_of_lt_of_le (World.block_lt_of_cell? w _ this) HB0.out.size)).trans ((HB0.out.cell (p := ⟨g 2, n 2 * 2, none⟩) (World.block_lt_of_cell? w _ this)).trans this)
 have n2 : (n 2 : Int) + 1 ≤ (c 2 : Int) := by have := hc 2 (by decide); omega
 have m2 : (n 2 : Int) ≤ 1000 := by have := hn6 2 (by decide); omega
 have x3 : ∀ X : BW W0, X.W.cell? ⟨w.heap.size, 3, none⟩ = some (.slice (some ⟨g 3, 0, none⟩) (n 3) (c 3)) := fun X => (cell_of_block (HA1.out X)).trans rfl
 have y3 : ∀ X : BW W0, X.W.cell? ⟨w.heap.size + 1, 3, none⟩ = some (.slice (h.A 3) (n 3) (h.c 3)) := fun X => (cell_of_block (HH1.out X)).trans (by rw [← hn 3 (by decide)]; rfl)
 have b3 : ∀ X : BW W0, X.W.cell? ⟨g 3, n 3 * 8, none⟩ = some (.string ⟨#[98, 101, 104, 105, 110, 100]⟩) := fun X => by
  have := hb 3 (by decide)
  exact (X.h.cell (p := ⟨g 3, n 3 * 8, none⟩) (Nat.lt_of_lt_of_le (World.block_lt_of_cell? w _ this) HB0.out.size)).trans ((HB0.out.cell (p := ⟨g 3, n 3 * 8, none⟩) (World.block_lt_of_cell? w _ this)).trans this)
 have n3 : (n 3 : Int) + 1 ≤ (c 3 : Int) := by have := hc 3 (by decide); omega
 have m3 : (n 3 : Int) ≤ 1000 := by have := hn6 3 (by decide); omega
 have x4 : ∀ X : BW W0, X.W.cell? ⟨w.heap.size, 4, none⟩ = some (.slice (some ⟨g 4, 0, none⟩) (n 4) (c 4)) := fun X => (cell_of_block (HA1.out X)).trans rfl
 have y4 : ∀ X : BW W0, X.W.cell? ⟨w.heap.size + 1, 4, none⟩ = some (.slice (h.A 4) (n 4) (h.c 4)) := fun X => (cell_of_block (HH1.out X)).trans (by rw [← hn 4 (by decide)]; rfl)
 have b4 : ∀ X : BW W0, X.W.cell? ⟨g 4, n 4 * 6 + 4, none⟩ = some (.int .i64 (-77)) := fun X => by
  have := hb 4 (by decide)
  exact (X.h.cell (p := ⟨g 4, n 4 * 6 + 4, none⟩) (Nat.lt_of_lt_of_le (World.block_lt_of_cell? w _ this) HB0.out.size)).trans ((HB0.out.cell (p := ⟨g 4, n 4 * 6 + 4, none⟩) (World.block_lt_of_cell? w _ this)).trans this)
 have n4 : (n 4 : Int) + 1 ≤ (c 4 : Int) := by have := hc 4 (by decide); omega
 have m4 : (n 4 : Int) ≤ 1000 := by have := hn6 4 (by decide); omega
 have x5 : ∀ X : BW W0, X.W.cell? ⟨w.heap.size, 5, none⟩ = some (.slice (some ⟨g 5, 0, none⟩) (n 5) (c 5)) := fun X => (cell_of_block (HA1.out X)).trans rfl
 have y5 : ∀ X : BW W0, X.W.cell? ⟨w.heap.size + 1, 5, none⟩ = some (.slice (h.A 5) (n 5) (h.c 5)) := fun X => (cell_of_block (HH1.out X)).trans (by rw [← hn 5 (by decide)]; rfl)
 have b5 : ∀ X : BW W0, X.W.cell? ⟨g 5, n 5 * 3 + 1, none⟩ = some (.string ⟨#[98, 101, 104, 105, 110, 100]⟩) := fun X => by
  have := hb 5 (by decide)
  exact (X.h.cell (p := ⟨g 5, n 5 * 3 + 1, none⟩) (Nat.lt_of_lt_of_le (World.block_lt_of_cell? w _ this) HB0.out.size)).trans ((HB0.out.cell (p := ⟨g 5, n 5 * 3 + 1, none⟩) (World.block_lt_of_cell? w _ this)).trans this)
 have n5 : (n 5 : Int) + 1 ≤ (c 5 : Int) := by have := hc 5 (by decide); omega
 have m5 : (n 5 : Int) ≤ 1000 := by have := hn6 5 (by decide); omega
 have x6 : ∀ X : BW W0, X.W.cell? ⟨w.heap.size, 6, none⟩ = some (.slice (some ⟨g 6, 0, none⟩) (n 6) (c 6)) := fun X => (cell_of_block (HA1.out X)).trans rfl
 have y6 : ∀ X : BW W0, X.W.cell? ⟨w.heap.size + 1, 6, none⟩ = some (.slice (h.A 6) (n 6) (h.c 6)) := fun X => (cell_of_block (HH1.out X)).trans (by rw [← hn 6 (by decide)]; rfl)
 have b6 : ∀ X : BW W0, X.W.cell? ⟨g 6, n 6 * 51, none⟩ = some (.string ⟨#[98, 101, 104, 105, 110, 100]⟩) := fun X => by
  have := hb 6 (by decide)
  exact (X.h.cell (p := ⟨g 6, n 6 * 51, none⟩) (Nat.lt_of_lt_of_le (World.block_lt_of_cell? w _ this) HB0.out.size)).trans ((HB0.out.cell (p := ⟨g 6, n 6 * 51, none⟩) (World.block_lt_of_cell? w _ this)).trans this)
 have n6 : (n 6 : Int) + 1 ≤ (c 6 : Int) := by have := hc 6 (by decide); omega
 have m6 : (n 6 : Int) ≤ 1000 := by have := hn6 6 (by decide); omega
 have x7 : ∀ X : BW W0, X.W.cell? ⟨w.heap.size, 7, none⟩ = some (.slice (some ⟨g 7, 0, none⟩) (n 7) (c 7)) := fun X => (cell_of_block (HA1.out X)).trans rfl
 have y7 : ∀ X : BW W0, X.W.cell? ⟨w.heap.size + 1, 7, none⟩ = some (.slice (h.A 7) (n 7) (h.c 7)) := fun X => (cell_of_block (HH1.out X)).trans (by rw [← hn 7 (by decide)]; rfl)
 have b7 : ∀ X : BW W0, X.W.cell? ⟨g 7, n 7 * 50, none⟩ = some (.string ⟨#[98, 101, 104, 105, 110, 100]⟩) := fun X => by
  have := hb 7 (by decide)
  exact (X.h.cell (p := ⟨g 7, n 7 * 50, none⟩) (Nat.lt_of_lt_of_le (World.block_lt_of_cell? w _ this) HB0.out.size)).trans ((HB0.out.cell (p := ⟨g 7, n 7 * 50, none⟩) (World.block_lt_of_cell? w _ this)).trans this)
 have n7 : (n 7 : Int) + 1 ≤ (c 7 : Int) := by have := hc 7 (by decide); omega
 have m7 : (n 7 : Int) ≤ 1000 := by have := hn6 7 (by decide); omega
 have x8 : ∀ X : BW W0, X.W.cell? ⟨w.heap.size, 8, none⟩ = some (.slice (some ⟨g 8, 0, none⟩) (n 8) (c 8)) := fun X => (cell_of_block (HA1.out X)).trans rfl
 have y8 : ∀ X : BW W0, X.W.cell? ⟨w.heap.size + 1, 8, none⟩ = some (.slice (h.A 8) (n 8) (h.c 8)) := fun X => (cell_of_block (HH1.out X)).trans (by rw [← hn 8 (by decide)]; rfl)
 have b8 : ∀ X : BW W0, X.W.cell? ⟨g 8, n 8 * 8, none⟩ = some (.string ⟨#[98, 101, 104, 105, 110, 100]⟩) := fun X => by
  have := hb 8 (by decide)
  exact (X.h.cell (p := ⟨g 8, n 8 * 8, none⟩) (Nat.lt_of_lt_of_le (World.block_lt_of_cell? w _ this) HB0.out.size)).trans ((HB0.out.cell (p := ⟨g 8, n 8 * 8, none⟩) (World.block_lt_of_cell? w _ this)).trans this)
 have n8 : (n 8 : Int) + 1 ≤ (c 8 : Int) := by have := hc 8 (by decide); omega
 have m8 : (n 8 : Int) ≤ 1000 := by have := hn6 8 (by decide); omega
 have x9 : ∀ X : BW W0, X.W.cell? ⟨w.heap.size, 9, none⟩ = some (.slice (some ⟨g 9, 0, none⟩) (n 9) (c 9)) := fun X => (cell_of_block (HA1.out X)).trans rfl
 have y9 : ∀ X : BW W0, X.W.cell? ⟨w.heap.size + 1, 9, none⟩ = some (.slice (h.A 9) (n 9) (h.c 9)) := fun X => (cell_of_block (HH1.out X)).trans (by rw [← hn 9 (by decide)]; rfl)
 have b9 : ∀ X : BW W0, X.W.cell? ⟨g 9, n 9 * 11 + 8, none⟩ = some (.string ⟨#[98, 101, 104, 105, 110, 100]⟩) := fun X => by
  have := hb 9 (by decide)
  exact (X.h.cell (p := ⟨g 9, n 9 * 11 + 8, none⟩) (Nat.lt_of_lt_of_le (World.block_lt_of_cell? w _ this) HB0.out.size)).trans ((HB0.out.cell (p := ⟨g 9, n 9 * 11 + 8, none⟩) (World.block_lt_of_cell? w _ this)).trans this)
 have n9 : (n 9 : Int) + 1 ≤ (c 9 : Int) := by have := hc 9 (by decide); omega
 have m9 : (n 9 : Int) ≤ 1000 := by have := hn6 9 (by decide); omega
 have x10 : ∀ X : BW W0, X.W.cell? ⟨w.heap.size, 10, none⟩ = some (.slice (some ⟨g 10, 0, none⟩) (n 10) (c 10)) := fun X => (cell_of_block (HA1.out X)).trans rfl
 have y10 : ∀ X : BW W0, X.W.cell? ⟨w.heap.size + 1, 10, none⟩ = some (.slice (h.A 10) (n 10) (h.c 10)) := fun X => (cell_of_block (HH1.out X)).trans (by rw [← hn 10 (by decide)]; rfl)
 have b10 : ∀ X : BW W0, X.W.cell? ⟨g 10, n 10 * 2, none⟩ = some (.string ⟨#[98, 101, 104, 105, 110, 100]⟩) := fun X => by
  have := hb 10 (by decide)
  exact (X.h.cell (p := ⟨g 10, n 10 * 2, none⟩) (Nat.lt_of_lt_of_le (World.block_lt_of_cell? w _ this) HB0.out.size)).trans ((HB0.out.cell (p := ⟨g 10, n 10 * 2, none⟩) (World.block_lt_of_cell? w _ this)).trans this)
 have n10 : (n 10 : Int) + 1 ≤ (c 10 : Int) := by have := hc 10 (by decide); omega
 have m10 : (n 10 : Int) ≤ 1000 := by have := hn6 10 (by decide); omega
 have x11 : ∀ X : BW W0, X.W.cell? ⟨w.heap.size, 11, none⟩ = some (.slice (some ⟨g 11, 0, none⟩) (n 11) (c 11)) := fun X => (cell_of_block (HA1.out X)).trans rfl
 have y11 : ∀ X : BW W0, X.W.cell? ⟨w.heap.size + 1, 11, none⟩ = some (.slice (h.A 11) (n 11) (h.c 11)) := fun X => (cell_of_block (HH1.out X)).trans (by rw [← hn 11 (by decide)]; rfl)
 have b11 : ∀ X : BW W0, X.W.cell? ⟨g 11, n 11 * 5, none⟩ = some (.string ⟨#[98, 101, 104, 105, 110, 100]⟩) := fun X => by
  have := hb 11 (by decide)
  exact (X.h.cell (p := ⟨g 11, n 11 * 5, none⟩) (Nat.lt_of_lt_of_le (World.block_lt_of_cell? w _ this) HB0.out.size)).trans ((HB0.out.cell (p := ⟨g 11, n 11 * 5, none⟩) (World.block_lt_of_cell? w _ this)).trans this)
 have n11 : (n 11 : Int) + 1 ≤ (c 11 : Int) := by have := hc 11 (by decide); omega
 have m11 : (n 11 : Int) ≤ 1000 := by have := hn6 11 (by decide); omega
 have x12 : ∀ X : BW W0, X.W.cell? ⟨w.heap.size, 12, none⟩ = some (.slice (some ⟨g 12, 0, none⟩) (n 12) (c 12)) := fun X => (cell_of_block (HA1.out X)).trans rfl
 have y12 : ∀ X : BW W0, X.W.cell? ⟨w.heap.size + 1, 12, none⟩ = some (.slice (h.A 12) (n 12) (h.c 12)) := fun X => (cell_of_block (HH1.out X)).trans (by rw [← hn 12 (by decide)]; rfl)
 have b12 : ∀ X : BW W0, X.W.cell? ⟨g 12, n 12 * 5 + 4, none⟩ = some (.int .i64 (-77)) := fun X => by
  have := hb 12 (by decide)
  exact (X.h.cell (p := ⟨g 12, n 12 * 5 + 4, none⟩) (Nat.lt_of_lt_of_le (World.block_lt_of_cell? w _ this) HB0.out.size)).trans ((HB0.out.cell (p := ⟨g 12, n 12 * 5 + 4, none⟩) (World.block_lt_of_cell? w _ this)).trans this)
 have n12 : (n 12 : Int) + 1 ≤ (c 12 : Int) := by have := hc 12 (by decide); omega
 have m12 : (n 12 : Int) ≤ 1000 := by have := hn6 12 (by decide); omega
 have x13 : ∀ X : BW W0, X.W.cell? ⟨w.heap.size, 13, none⟩ = some (.slice (some ⟨g 13, 0, none⟩) (n 13) (c 13)) := fun X => (cell_of_block (HA1.out X)).trans rfl
 have y13 : ∀ X : BW W0, X.W.cell? ⟨w.heap.size + 1, 13, none⟩ = some (.slice (h.A 13) (n 13) (h.c 13)) := fun X => (cell_of_block (HH1.out X)).trans (by rw [← hn 13 (by decide)]; rfl)
 have b13 : ∀ X : BW W0, X.W.cell? ⟨g 13, n 13 * 6 + 1, none⟩ = some (.string ⟨#[98, 101, 104, 105, 110, 100]⟩) := fun X => by
  have := hb 13 (by decide)
  exact (X.h.cell (p := ⟨g 13, n 13 * 6 + 1, none⟩) (Nat.lt_of_lt_of_le (World.block_lt_of_cell? w _ this) HB0.out.size)).trans ((HB0.out.cell (p := ⟨g 13, n 13 * 6 + 1, none⟩) (World.block_lt_of_cell? w _ this)).trans this)
 have n13 : (n 13 : Int) + 1 ≤ (c 13 : Int) := by have := hc 13 (by decide); omega
 have m13 : (n 13 : Int) ≤ 1000 := by have := hn6 13 (by decide); omega
 clear hn hc hn6 hb hsame
 have huh := Tryz.underlying37
 have HSH : Hid (∀ a : Hs, (Tryz.prog.info? 37).map (·.size) = some a.cells.toList.length) := Lib.hid (fun a => by kernel_rfl)
 go_enter Tryz.func18, Tryz.ntmps18
 go_wp2_with fail
 rw [← hW0]
 clear hW0
 refine wp_grow W0 (by kernel_rfl) (lexB_lin (base := 5) (last := 4) (n := 228) (by decide) (by kernel_rfl)) (Below.refl _ _) ?_
 simp only [List.append_eq, List.cons_append, List.nil_append]
 refine BigFrame.wpQuiet_want (by kernel_rfl) (fun K hK => quiet_load_mid 37 (.tmp 2) rfl w.heap.size 0 rfl (Hs.mk (fun i => some ⟨g i, 0, none⟩) n c z).cells.toList _ (fun W ⟨X, hX⟩ => by rw [hX]; exact range_row0 (HA1.out X)) huh rfl (HSH.out _) (hK _ ?_))
 simp only [ax, Array.toArray_toList]
 refine BigFrame.wpQuiet_want (by kernel_rfl) (fun K hK => quiet_load_mid 37 (.tmp 3) rfl (w.heap.size + 1) 0 rfl h.cells.toList _ (fun W ⟨X, hX⟩ => by rw [hX]; exact range_row0 (HH1.out X)) huh rfl (HSH.out _) (hK _ ?_))
 simp only [ax, Array.toArray_toList]
 go_big_quiet_step (exact grow_call _ (HSM.out _))
 repeat go_big_quiet_step (fail)
 refine wpQuiet_nil ?_
 intro X
 go_wp2_with fail
 go_ret
 exact ⟨rfl, HB0.out.trans (X.h.mono HB0.out.size)⟩
end Go.Proofs.YtlkmccmbpnbgbaaGreat

namespace Go.Proofs.YtlkmccmbpnbgbaaGreat
set_option linter.unusedVariables false
open Go.RowKit
open Pl (putG)

theorem pOf_lt (i : Nat) (hi : i < 14) : pOf i < (kOf i).length := by
 match i, hi with
 | 0, _ => decide
 | 1, _ => decide
 | 2, _ => decide
 | 3, _ => decide
 | 4, _ => decide
 | 5, _ => decide
 | 6, _ => decide
 | 7, _ => decide
 | 8, _ => decide
 | 9, _ => decide
 | 10, _ => decide
 | 11, _ => decide
 | 12, _ => decide
 | 13, _ => decide
 | i + 14, hi => omega
/-- A house that was lent, its lists' blocks by name. -/
theorem lent_ownU {h a : Hs} {L : Nat → List (List Value)} {w cur : World} (hlt : ∀ i, i < 14 → Lt h L w a cur i) (hh : HT h L w) (hs : ∀ i, i < 14 → h.n i ≤ capOf i) :
 ∃ (g n c : Nat → Nat) (z : Int), a.cells = (Hs.mk (fun i => some ⟨g i, 0, none⟩) n c z).cells ∧ z = a.z ∧ (∀ i, i < 14 → h.n i = n i) ∧ (∀ i, i < 14 → n i + 1 ≤ c i ∧ c i ≤ 9223372036854775807) ∧ (∀ i, i < 14 → n i ≤ 1000) ∧
  (∀ i, i < 14 → cur.cell? ⟨g i, n i * (kOf i).length + pOf i, none⟩ = some (vOf i)) ∧ HT (Hs.mk (fun i => some ⟨g i, 0, none⟩) n c z) L cur ∧ ∀ i, i < 14 → w.heap.size + 1 < g i ∧ ∃ (arr : Array Value) (t : TypeId), cur.heap[g i]? = some (.cells arr t (0, 0)) := by
 have hg : ∀ i, ∃ g : Nat, i < 14 → a.A i = some ⟨g, 0, none⟩ ∧ ∃ bh : List Value, bh.length = (kOf i).length ∧ bh[pOf i]? = some (vOf i) ∧ Rd cur cur.heap.size (some ⟨g, 0, none⟩) ((L i).flatten ++ bh) ∧ w.heap.size + 1 < g ∧ ∃ (arr : Array Value) (t : TypeId), cur.heap[g]? = some (.cells arr t (0, 0)) := fun i => by
  by_cases hi : i < 14
  · obtain ⟨bh, g, h1, h2, h3, h4, h5, h6, h7, h8⟩ := hlt i hi
    exact ⟨g, fun _ => ⟨h4, bh, h6, h7, h8.rd, h5, h8.un⟩⟩
  · exact ⟨0, fun h => absurd h hi⟩
 obtain ⟨g, hg⟩ := Classical.axiomOfChoice hg
 have key : ∀ i, i < 14 → (a.A i = some ⟨g i, 0, none⟩ ∧ a.n i = h.n i ∧ a.n i + 1 ≤ a.c i ∧ a.c i ≤ 9223372036854775807) := fun i hi => by
  obtain ⟨bh, g', h1, h2, h3, _⟩ := hlt i hi
  exact ⟨(hg i hi).1, h1, by omega, h3⟩
 refine ⟨g, a.n, a.c, a.z, ?_, rfl, fun i hi => (key i hi).2.1.symm, fun i hi => (key i hi).2.2, fun i hi => ?_, fun i hi => ?_, fun i hi => ?_, fun i hi => ?_⟩
 · unfold Hs.cells
   simp only [(key 0 (by decide)).1, (key 1 (by decide)).1, (key 2 (by decide)).1, (key 3 (by decide)).1, (key 4 (by decide)).1, (key 5 (by decide)).1, (key 6 (by decide)).1, (key 7 (by decide)).1, (key 8 (by decide)).1, (key 9 (by decide)).1, (key 10 (by decide)).1, (key 11 (by decide)).1, (key 12 (by decide)).1, (key 13 (by decide)).1]
 · rw [(key i hi).2.1]; exact Nat.le_trans (hs i hi) (cap_le i hi)
 · obtain ⟨_, bh, h1, h2, h3, _⟩ := hg i hi
   obtain ⟨b, off, hb, hlt', hc⟩ := h3 (by rw [List.length_append]; have := pOf_lt i hi; omega)
   injection hb with hb
   injection hb with e1 e2 _
   have hl : (L i).flatten.length = a.n i * (kOf i).length := by rw [flat_length (hh i hi).2.2.1.len, (key i hi).2.1, (hh i hi).1]
   have := hc (a.n i * (kOf i).length + pOf i) (vOf i) (by rw [List.getElem?_append_right (by omega), hl, show a.n i * (kOf i).length + pOf i - a.n i * (kOf i).length = pOf i from by omega]; exact h2)
   rw [e1]
   rw [← e2, Nat.zero_add] at this
   exact this
 · obtain ⟨_, bh, h1, h2, h3, _⟩ := hg i hi
   exact ⟨by rw [show (Hs.mk (fun i => some ⟨g i, 0, none⟩) a.n a.c a.z).n i = a.n i from rfl, (key i hi).2.1]; exact (hh i hi).1, by rw [show (Hs.mk (fun i => some ⟨g i, 0, none⟩) a.n a.c a.z).n i = a.n i from rfl, (key i hi).2.1]; exact (hh i hi).2.1, (hh i hi).2.2.1, h3.take⟩
 · obtain ⟨_, bh, h1, h2, h3, h4⟩ := hg i hi
   exact h4
theorem lent_own {h a : Hs} {L : Nat → List (List Value)} {w cur : World} (hlt : ∀ i, i < 14 → Lt h L w a cur i) (hh : HT h L w) (hs : ∀ i, i < 14 → h.n i ≤ capOf i) :
 ∃ (g n c : Nat → Nat) (z : Int), a.cells = (Hs.mk (fun i => some ⟨g i, 0, none⟩) n c z).cells ∧ z = a.z ∧ (∀ i, i < 14 → h.n i = n i) ∧ (∀ i, i < 14 → n i + 1 ≤ c i ∧ c i ≤ 9223372036854775807) ∧ (∀ i, i < 14 → n i ≤ 1000) ∧
  (∀ i, i < 14 → cur.cell? ⟨g i, n i * (kOf i).length + pOf i, none⟩ = some (vOf i)) ∧ HT (Hs.mk (fun i => some ⟨g i, 0, none⟩) n c z) L cur := by
 obtain ⟨g, n, c, z, h1, h2, h3, h4, h5, h6, h7, _⟩ := lent_ownU hlt hh hs
 exact ⟨g, n, c, z, h1, h2, h3, h4, h5, h6, h7⟩
/-- What lies behind the lists of a house that was lent. -/
def KB (g n : Nat → Nat) (cur : World) : Prop := ∀ i, i < 14 → cur.cell? ⟨g i, n i * (kOf i).length + pOf i, none⟩ = some (vOf i)
theorem KB.below {g n : Nat → Nat} {w W : World} (H : KB g n w) (hb : Below w.heap.size w W) : KB g n W := fun i hi =>
 (hb.cell (p := ⟨g i, n i * (kOf i).length + pOf i, none⟩) (World.block_lt_of_cell? w _ (H i hi))).trans (H i hi)
theorem same_true {a b : Hs} {L : Nat → List (List Value)} {W : World} (ha : HT a L W) (hb : HT b L W) (hz : a.z = b.z) : Calls Tryz.prog 15 #[.agg a.cells, .agg b.cells] W fun e w' => e = .returned (.bool true) ∧ Below W.heap.size W w' :=
 sames_true ha hb hz
theorem kept_true {g n c : Nat → Nat} {z : Int} {h a : Hs} {L : Nat → List (List Value)} {W : World} (ha : a = Hs.mk (fun i => some ⟨g i, 0, none⟩) n c z) (hn : ∀ i, i < 14 → h.n i = n i) (hc : ∀ i, i < 14 → n i + 1 ≤ c i ∧ c i ≤ 9223372036854775807) (hn6 : ∀ i, i < 14 → n i ≤ 1000)
 (hk : KB g n W) (hA : HT a L W) (hH : HT h L W) (hz : a.z = h.z) : Calls Tryz.prog 18 #[.agg a.cells, .agg h.cells] W fun e w' => e = .returned (.bool true) ∧ Below W.heap.size W w' := by
 subst ha
 exact kept_calls g n c z h W hn (fun i hi => (hc i hi).1) hn6 hk (fun W' hW => same_true (hA.below hW) (hH.below hW) hz)
end Go.Proofs.YtlkmccmbpnbgbaaGreat
