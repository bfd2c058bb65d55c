/-
 THE LAW's small. (By wip/tools/gen_con16.py.)
-/
import Derived.Test.YtlkmccmbpnbgbaaGreatAFacts
import Derived.Test.YtlkmccmbpnbgbaaGreatHSmall
import Derived.Test.YtlkmccmbpnbgbaaGreatJHead
import Derived.Deep.CutRange
namespace Go.Proofs.YtlkmccmbpnbgbaaGreat
set_option linter.unusedVariables false
open Go.RowKit
open Pl (firstG findG putG It)

/-- The examples' house. -/
def exQ : List Value := [.string ⟨#[98]⟩, .string ⟨#[110, 117, 116]⟩, .string ⟨#[]⟩, .int .i64 1, .int .i64 5, .int .i64 0]
def exO : List Value := [.string ⟨#[111]⟩, .string ⟨#[115]⟩, .string ⟨#[110, 117, 116]⟩, .int .i64 8, .int .i64 0, .int .i64 0, .int .i64 0, .int .i64 0, .string ⟨#[]⟩, .int .i64 0, .int .i64 0, .int .i64 0, .int .i64 0, .int .i64 0, .string ⟨#[]⟩, .int .i64 0, .int .i64 0, .int .i64 0, .int .i64 0, .int .i64 0, .string ⟨#[]⟩, .int .i64 0, .int .i64 0, .int .i64 0, .int .i64 0, .int .i64 0, .string ⟨#[]⟩, .int .i64 0, .int .i64 0, .int .i64 0, .int .i64 0, .int .i64 0, .string ⟨#[]⟩, .int .i64 0, .int .i64 0, .int .i64 0, .int .i64 0, .int .i64 0, .string ⟨#[]⟩, .int .i64 0, .int .i64 0, .int .i64 0, .int .i64 0, .int .i64 0, .string ⟨#[]⟩, .int .i64 0, .int .i64 0, .int .i64 0, .int .i64 0, .int .i64 0]
def exL : Nat → List (List Value) := fun i => if i = 0 then [[.string ⟨#[110, 117, 116]⟩, .string ⟨#[]⟩, .int .i64 0, .string ⟨#[]⟩, .int .i64 0, .string ⟨#[]⟩, .int .i64 0, .string ⟨#[]⟩, .int .i64 0, .int .i64 0, .int .i64 0, .bool false, .bool false, .bool false]] else if i = 2 then [[.string ⟨#[122]⟩, .string ⟨#[115]⟩]] else if i = 3 then [[.string ⟨#[98]⟩, .string ⟨#[122]⟩, .int .i64 1, .int .i64 0, .int .i64 0, .int .i64 0, .int .i64 0, .bool false]] else if i = 4 then [exQ] else if i = 7 then [exO] else []
set_option maxRecDepth 100000 in
set_option maxHeartbeats 3200000 in
theorem small_any (w : World) : Calls Tryz.prog 26 #[] w fun e w' => ∃ a : Hs, e = .returned (.agg a.cells) ∧ HT a exL w' ∧ Caps a ∧ a.z = 0 ∧ (∀ i, i < 14 → a.n i ≤ 1000) ∧ Below w.heap.size w w' := by
 have huh := Tryz.underlying37
 have HSH : Hid (∀ a : Hs, (Tryz.prog.info? 37).map (·.size) = some a.cells.size) := Lib.hid (fun a => by kernel_rfl)
 have H1C : Hid (∀ a : Hs, a.cells.all (·.oneCell') = true) := Lib.hid (fun a => by simp [Hs.cells, Value.oneCell'])
 obtain ⟨w4, hw4⟩ : ∃ W, W = ((((w.alloc (.cells #[.slice none 0 0, .slice none 0 0, .slice none 0 0, .slice none 0 0, .slice none 0 0, .slice none 0 0, .slice none 0 0, .slice none 0 0, .slice none 0 0, .slice none 0 0, .slice none 0 0, .slice none 0 0, .slice none 0 0, .slice none 0 0, .int .i64 0] 37)).alloc (.cells #[.string ⟨#[110, 117, 116]⟩, .string ⟨#[]⟩, .int .i64 0, .string ⟨#[]⟩, .int .i64 0, .string ⟨#[]⟩, .int .i64 0, .string ⟨#[]⟩, .int .i64 0, .int .i64 0, .int .i64 0, .bool false, .bool false, .bool false] 70)).alloc (.cells #[.string ⟨#[122]⟩, .string ⟨#[115]⟩] 76)).alloc (.cells #[.string ⟨#[98]⟩, .string ⟨#[122]⟩, .int .i64 1, .int .i64 0, .int .i64 0, .int .i64 0, .int .i64 0, .bool false] 79)).alloc (.cells #[.slice (some ⟨w.heap.size + 1, 0, none⟩) 1 1, .slice none 0 0, .slice (some ⟨w.heap.size + 1 + 1, 0, none⟩) 1 1, .slice (some ⟨w.heap.size + 1 + 1 + 1, 0, none⟩) 1 1, .slice none 0 0, .slice none 0 0, .slice none 0 0, .slice none 0 0, .slice none 0 0, .slice none 0 0, .slice none 0 0, .slice none 0 0, .slice none 0 0, .slice none 0 0, .int .i64 0] 37) := ⟨_, rfl⟩
 have hb4 : Below w.heap.size w w4 := by rw [hw4]; exact (((((Below.refl _ _).alloc (Nat.le_refl _) _).alloc (by simp) _).alloc (by simp; omega) _).alloc (by simp; omega) _).alloc (by simp; omega) _
 have hs4 : w4.heap.size = w.heap.size + 5 := by rw [hw4]; simp
 have b0 : w4.heap[w.heap.size]? = some (.cells #[.slice none 0 0, .slice none 0 0, .slice none 0 0, .slice none 0 0, .slice none 0 0, .slice none 0 0, .slice none 0 0, .slice none 0 0, .slice none 0 0, .slice none 0 0, .slice none 0 0, .slice none 0 0, .slice none 0 0, .slice none 0 0, .int .i64 0] 37 (0, 0)) := by
  rw [hw4]
  exact (Below.heap_alloc _ _ _ (by simp; omega)).trans ((Below.heap_alloc _ _ _ (by simp; omega)).trans ((Below.heap_alloc _ _ _ (by simp; omega)).trans ((Below.heap_alloc _ _ _ (by simp)).trans (heap_alloc_new _ _))))
 have b1 : w4.heap[w.heap.size + 1]? = some (.cells #[.string ⟨#[110, 117, 116]⟩, .string ⟨#[]⟩, .int .i64 0, .string ⟨#[]⟩, .int .i64 0, .string ⟨#[]⟩, .int .i64 0, .string ⟨#[]⟩, .int .i64 0, .int .i64 0, .int .i64 0, .bool false, .bool false, .bool false] 70 (0, 0)) := by
  rw [hw4]
  have hq := heap_alloc_new (w.alloc (.cells #[.slice none 0 0, .slice none 0 0, .slice none 0 0, .slice none 0 0, .slice none 0 0, .slice none 0 0, .slice none 0 0, .slice none 0 0, .slice none 0 0, .slice none 0 0, .slice none 0 0, .slice none 0 0, .slice none 0 0, .slice none 0 0, .int .i64 0] 37)) (.cells #[.string ⟨#[110, 117, 116]⟩, .string ⟨#[]⟩, .int .i64 0, .string ⟨#[]⟩, .int .i64 0, .string ⟨#[]⟩, .int .i64 0, .string ⟨#[]⟩, .int .i64 0, .int .i64 0, .int .i64 0, .bool false, .bool false, .bool false] 70)
  exact (Below.heap_alloc _ _ _ (by simp)).trans ((Below.heap_alloc _ _ _ (by simp)).trans ((Below.heap_alloc _ _ _ (by simp)).trans (by simpa using hq)))
 have b2 : w4.heap[w.heap.size + 2]? = some (.cells #[.string ⟨#[122]⟩, .string ⟨#[115]⟩] 76 (0, 0)) := by
  rw [hw4]
  have hq := heap_alloc_new ((w.alloc (.cells #[.slice none 0 0, .slice none 0 0, .slice none 0 0, .slice none 0 0, .slice none 0 0, .slice none 0 0, .slice none 0 0, .slice none 0 0, .slice none 0 0, .slice none 0 0, .slice none 0 0, .slice none 0 0, .slice none 0 0, .slice none 0 0, .int .i64 0] 37)).alloc (.cells #[.string ⟨#[110, 117, 116]⟩, .string ⟨#[]⟩, .int .i64 0, .string ⟨#[]⟩, .int .i64 0, .string ⟨#[]⟩, .int .i64 0, .string ⟨#[]⟩, .int .i64 0, .int .i64 0, .int .i64 0, .bool false, .bool false, .bool false] 70)) (.cells #[.string ⟨#[122]⟩, .string ⟨#[115]⟩] 76)
  exact (Below.heap_alloc _ _ _ (by simp)).trans ((Below.heap_alloc _ _ _ (by simp)).trans (by simpa using hq))
 have b3 : w4.heap[w.heap.size + 3]? = some (.cells #[.string ⟨#[98]⟩, .string ⟨#[122]⟩, .int .i64 1, .int .i64 0, .int .i64 0, .int .i64 0, .int .i64 0, .bool false] 79 (0, 0)) := by
  rw [hw4]
  have hq := heap_alloc_new (((w.alloc (.cells #[.slice none 0 0, .slice none 0 0, .slice none 0 0, .slice none 0 0, .slice none 0 0, .slice none 0 0, .slice none 0 0, .slice none 0 0, .slice none 0 0, .slice none 0 0, .slice none 0 0, .slice none 0 0, .slice none 0 0, .slice none 0 0, .int .i64 0] 37)).alloc (.cells #[.string ⟨#[110, 117, 116]⟩, .string ⟨#[]⟩, .int .i64 0, .string ⟨#[]⟩, .int .i64 0, .string ⟨#[]⟩, .int .i64 0, .string ⟨#[]⟩, .int .i64 0, .int .i64 0, .int .i64 0, .bool false, .bool false, .bool false] 70)).alloc (.cells #[.string ⟨#[122]⟩, .string ⟨#[115]⟩] 76)) (.cells #[.string ⟨#[98]⟩, .string ⟨#[122]⟩, .int .i64 1, .int .i64 0, .int .i64 0, .int .i64 0, .int .i64 0, .bool false] 79)
  exact (Below.heap_alloc _ _ _ (by simp)).trans (by simpa using hq)
 have b4 : w4.heap[w.heap.size + 4]? = some (.cells #[.slice (some ⟨w.heap.size + 1, 0, none⟩) 1 1, .slice none 0 0, .slice (some ⟨w.heap.size + 1 + 1, 0, none⟩) 1 1, .slice (some ⟨w.heap.size + 1 + 1 + 1, 0, none⟩) 1 1, .slice none 0 0, .slice none 0 0, .slice none 0 0, .slice none 0 0, .slice none 0 0, .slice none 0 0, .slice none 0 0, .slice none 0 0, .slice none 0 0, .slice none 0 0, .int .i64 0] 37 (0, 0)) := by
  rw [hw4]
  have hq := heap_alloc_new ((((w.alloc (.cells #[.slice none 0 0, .slice none 0 0, .slice none 0 0, .slice none 0 0, .slice none 0 0, .slice none 0 0, .slice none 0 0, .slice none 0 0, .slice none 0 0, .slice none 0 0, .slice none 0 0, .slice none 0 0, .slice none 0 0, .slice none 0 0, .int .i64 0] 37)).alloc (.cells #[.string ⟨#[110, 117, 116]⟩, .string ⟨#[]⟩, .int .i64 0, .string ⟨#[]⟩, .int .i64 0, .string ⟨#[]⟩, .int .i64 0, .string ⟨#[]⟩, .int .i64 0, .int .i64 0, .int .i64 0, .bool false, .bool false, .bool false] 70)).alloc (.cells #[.string ⟨#[122]⟩, .string ⟨#[115]⟩] 76)).alloc (.cells #[.string ⟨#[98]⟩, .string ⟨#[122]⟩, .int .i64 1, .int .i64 0, .int .i64 0, .int .i64 0, .int .i64 0, .bool false] 79)) (.cells #[.slice (some ⟨w.heap.size + 1, 0, none⟩) 1 1, .slice none 0 0, .slice (some ⟨w.heap.size + 1 + 1, 0, none⟩) 1 1, .slice (some ⟨w.heap.size + 1 + 1 + 1, 0, none⟩) 1 1, .slice none 0 0, .slice none 0 0, .slice none 0 0, .slice none 0 0, .slice none 0 0, .slice none 0 0, .slice none 0 0, .slice none 0 0, .slice none 0 0, .slice none 0 0, .int .i64 0] 37)
  simpa using hq
 have HW4 := Lib.hid hw4
 obtain ⟨w5, hw5⟩ : ∃ W, W = (w4.setCell ⟨w.heap.size + 1 + 1 + 1 + 1, 4, none⟩ (.slice (some ⟨w4.heap.size, 0, none⟩) 1 1)).alloc (.cells #[.string ⟨#[98]⟩, .string ⟨#[110, 117, 116]⟩, .string ⟨#[]⟩, .int .i64 1, .int .i64 5, .int .i64 0] 62) := ⟨_, rfl⟩
 have hb5 : Below w.heap.size w w5 := by rw [hw5]; exact (hb4.setCell (by show w.heap.size ≤ w.heap.size + 1 + 1 + 1 + 1; omega) _).alloc (by have := hb4.size; simpa [World.setCell] using this) _
 have hs5 : w5.heap.size = w.heap.size + 6 := by rw [hw5]; simp [World.setCell]; omega
 have sc5 : ∀ g o, w.heap.size + 4 ≠ g → g < w4.heap.size → w4.heap[g]? = some o → w5.heap[g]? = some o := fun g o hg hl h => by
  rw [hw5]; exact (Below.heap_alloc _ _ _ (by simpa [World.setCell] using hl)).trans ((block_setCell_other (Ne.symm hg) _).trans h)
 have c0 := sc5 w.heap.size _ (by omega) (by omega) b0
 have c1 := sc5 (w.heap.size + 1) _ (by omega) (by omega) b1
 have c2 := sc5 (w.heap.size + 2) _ (by omega) (by omega) b2
 have c3 := sc5 (w.heap.size + 3) _ (by omega) (by omega) b3
 have c4 : w5.heap[w.heap.size + 4]? = some (.cells #[.slice (some ⟨w.heap.size + 1, 0, none⟩) 1 1, .slice none 0 0, .slice (some ⟨w.heap.size + 1 + 1, 0, none⟩) 1 1, .slice (some ⟨w.heap.size + 1 + 1 + 1, 0, none⟩) 1 1, .slice (some ⟨w.heap.size + 5, 0, none⟩) 1 1, .slice none 0 0, .slice none 0 0, .slice none 0 0, .slice none 0 0, .slice none 0 0, .slice none 0 0, .slice none 0 0, .slice none 0 0, .slice none 0 0, .int .i64 0] 37 (0, 0)) := by
  rw [hw5, (Below.heap_alloc _ _ _ (by have := lt_of_block b4; simpa [World.setCell] using this)).trans (block_setCell b4 _), hs4]; rfl
 have c5 : w5.heap[w.heap.size + 5]? = some (.cells exQ.toArray 62 (0, 0)) := by
  rw [hw5]
  have hq := heap_alloc_new (w4.setCell ⟨w.heap.size + 1 + 1 + 1 + 1, 4, none⟩ (.slice (some ⟨w4.heap.size, 0, none⟩) 1 1)) (.cells #[.string ⟨#[98]⟩, .string ⟨#[110, 117, 116]⟩, .string ⟨#[]⟩, .int .i64 1, .int .i64 5, .int .i64 0] 62)
  rw [show (w4.setCell ⟨w.heap.size + 1 + 1 + 1 + 1, 4, none⟩ (.slice (some ⟨w4.heap.size, 0, none⟩) 1 1)).heap.size = w.heap.size + 5 from by simp only [World.setCell, Array.size_modify]; exact hs4] at hq
  exact hq
 have HW5 := Lib.hid hw5
 obtain ⟨w6, hw6⟩ : ∃ W, W = (w5.setCell ⟨w.heap.size + 1 + 1 + 1 + 1, 7, none⟩ (.slice (some ⟨w5.heap.size, 0, none⟩) 1 1)).alloc (.cells #[.string ⟨#[111]⟩, .string ⟨#[115]⟩, .string ⟨#[110, 117, 116]⟩, .int .i64 8, .int .i64 0, .int .i64 0, .int .i64 0, .int .i64 0, .string ⟨#[]⟩, .int .i64 0, .int .i64 0, .int .i64 0, .int .i64 0, .int .i64 0, .string ⟨#[]⟩, .int .i64 0, .int .i64 0, .int .i64 0, .int .i64 0, .int .i64 0, .string ⟨#[]⟩, .int .i64 0, .int .i64 0, .int .i64 0, .int .i64 0, .int .i64 0, .string ⟨#[]⟩, .int .i64 0, .int .i64 0, .int .i64 0, .int .i64 0, .int .i64 0, .string ⟨#[]⟩, .int .i64 0, .int .i64 0, .int .i64 0, .int .i64 0, .int .i64 0, .string ⟨#[]⟩, .int .i64 0, .int .i64 0, .int .i64 0, .int .i64 0, .int .i64 0, .string ⟨#[]⟩, .int .i64 0, .int .i64 0, .int .i64 0, .int .i64 0, .int .i64 0] 42) := ⟨_, rfl⟩
 have hb6 : Below w.heap.size w w6 := by rw [hw6]; exact (hb5.setCell (by show w.heap.size ≤ w.heap.size + 1 + 1 + 1 + 1; omega) _).alloc (by have := hb5.size; simpa [World.setCell] using this) _
 have hs6 : w6.heap.size = w.heap.size + 7 := by rw [hw6]; simp [World.setCell]; omega
 have sc6 : ∀ g o, w.heap.size + 4 ≠ g → g < w5.heap.size → w5.heap[g]? = some o → w6.heap[g]? = some o := fun g o hg hl h => by
  rw [hw6]; exact (Below.heap_alloc _ _ _ (by simpa [World.setCell] using hl)).trans ((block_setCell_other (Ne.symm hg) _).trans h)
 have d0 := sc6 w.heap.size _ (by omega) (by omega) c0
 have d1 := sc6 (w.heap.size + 1) _ (by omega) (by omega) c1
 have d2 := sc6 (w.heap.size + 2) _ (by omega) (by omega) c2
 have d3 := sc6 (w.heap.size + 3) _ (by omega) (by omega) c3
 have d5 := sc6 (w.heap.size + 5) _ (by omega) (by omega) c5
 have d4 : w6.heap[w.heap.size + 4]? = some (.cells #[.slice (some ⟨w.heap.size + 1, 0, none⟩) 1 1, .slice none 0 0, .slice (some ⟨w.heap.size + 1 + 1, 0, none⟩) 1 1, .slice (some ⟨w.heap.size + 1 + 1 + 1, 0, none⟩) 1 1, .slice (some ⟨w.heap.size + 5, 0, none⟩) 1 1, .slice none 0 0, .slice none 0 0, .slice (some ⟨w.heap.size + 6, 0, none⟩) 1 1, .slice none 0 0, .slice none 0 0, .slice none 0 0, .slice none 0 0, .slice none 0 0, .slice none 0 0, .int .i64 0] 37 (0, 0)) := by
  rw [hw6, (Below.heap_alloc _ _ _ (by have := lt_of_block c4; simpa [World.setCell] using this)).trans (block_setCell c4 _), hs5]; rfl
 have d6 : w6.heap[w.heap.size + 6]? = some (.cells exO.toArray 42 (0, 0)) := by
  rw [hw6]
  have hq := heap_alloc_new (w5.setCell ⟨w.heap.size + 1 + 1 + 1 + 1, 7, none⟩ (.slice (some ⟨w5.heap.size, 0, none⟩) 1 1)) (.cells #[.string ⟨#[111]⟩, .string ⟨#[115]⟩, .string ⟨#[110, 117, 116]⟩, .int .i64 8, .int .i64 0, .int .i64 0, .int .i64 0, .int .i64 0, .string ⟨#[]⟩, .int .i64 0, .int .i64 0, .int .i64 0, .int .i64 0, .int .i64 0, .string ⟨#[]⟩, .int .i64 0, .int .i64 0, .int .i64 0, .int .i64 0, .int .i64 0, .string ⟨#[]⟩, .int .i64 0, .int .i64 0, .int .i64 0, .int .i64 0, .int .i64 0, .string ⟨#[]⟩, .int .i64 0, .int .i64 0, .int .i64 0, .int .i64 0, .int .i64 0, .string ⟨#[]⟩, .int .i64 0, .int .i64 0, .int .i64 0, .int .i64 0, .int .i64 0, .string ⟨#[]⟩, .int .i64 0, .int .i64 0, .int .i64 0, .int .i64 0, .int .i64 0, .string ⟨#[]⟩, .int .i64 0, .int .i64 0, .int .i64 0, .int .i64 0, .int .i64 0] 42)
  rw [show (w5.setCell ⟨w.heap.size + 1 + 1 + 1 + 1, 7, none⟩ (.slice (some ⟨w5.heap.size, 0, none⟩) 1 1)).heap.size = w.heap.size + 6 from by simp only [World.setCell, Array.size_modify]; exact hs5] at hq
  exact hq
 have HW6 := Lib.hid hw6
 obtain ⟨a, ha⟩ : ∃ a : Hs, a = ⟨fun i => if i = 0 then some ⟨w.heap.size + 1, 0, none⟩ else if i = 2 then some ⟨w.heap.size + 2, 0, none⟩ else if i = 3 then some ⟨w.heap.size + 3, 0, none⟩ else if i = 4 then some ⟨w.heap.size + 5, 0, none⟩ else if i = 7 then some ⟨w.heap.size + 6, 0, none⟩ else none, fun i => if i = 0 ∨ i = 2 ∨ i = 3 ∨ i = 4 ∨ i = 7 then 1 else 0, fun i => if i = 0 ∨ i = 2 ∨ i = 3 ∨ i = 4 ∨ i = 7 then 1 else 0, 0⟩ := ⟨_, rfl⟩
 have e4a : w6.heap[w.heap.size + 4]? = some (.cells a.cells 37 (0, 0)) := by rw [d4, ha]; rfl
 obtain ⟨w8, hw8⟩ : ∃ W, W = w6.setRow w.heap.size a.cells := ⟨_, rfl⟩
 have hb8 : Below w.heap.size w w8 := by rw [hw8]; exact setRow_below hb6 (Nat.le_refl _) _
 have sc8 : ∀ g o, w.heap.size ≠ g → w6.heap[g]? = some o → w8.heap[g]? = some o := fun g o hg h => by
  rw [hw8]; exact (setRow_other _ _ _ _ (Ne.symm hg)).trans h
 have f1 := sc8 (w.heap.size + 1) _ (by omega) d1
 have f2 := sc8 (w.heap.size + 2) _ (by omega) d2
 have f3 := sc8 (w.heap.size + 3) _ (by omega) d3
 have f5 := sc8 (w.heap.size + 5) _ (by omega) d5
 have f6 := sc8 (w.heap.size + 6) _ (by omega) d6
 have hs8 : w8.heap.size = w.heap.size + 7 := by rw [hw8]; simpa using hs6
 have f0 : w8.heap[w.heap.size]? = some (.cells a.cells 37 (0, 0)) := by rw [hw8]; exact setRow_heap _ _ _ _ _ _ d0
 have rd : ∀ (g : Nat) (x : List Value) (t : TypeId), g < w8.heap.size → w8.heap[g]? = some (.cells x.toArray t (0, 0)) → Rd w8 w8.heap.size (some ⟨g, 0, none⟩) [x].flatten := fun g x t hg h _ => ⟨g, 0, rfl, hg, fun j u hu => by
  rw [Nat.zero_add, cell_of_block h, List.getElem?_toArray]
  simpa using hu⟩
 have ht : HT a exL w8 := fun i hi => by
  by_cases hor : i = 0 ∨ i = 2 ∨ i = 3 ∨ i = 4 ∨ i = 7
  · rcases hor with h | h | h | h | h <;> subst h <;> rw [ha]
    · exact ⟨rfl, by show (1 : Nat) ≤ _; omega, Things.one (fits_of (by decide)), rd _ _ _ (by omega) f1⟩
    · exact ⟨rfl, by show (1 : Nat) ≤ _; omega, Things.one (fits_of (by decide)), rd _ _ _ (by omega) f2⟩
    · exact ⟨rfl, by show (1 : Nat) ≤ _; omega, Things.one (fits_of (by decide)), rd _ _ _ (by omega) f3⟩
    · exact ⟨rfl, by show (1 : Nat) ≤ _; omega, Things.one (fits_of (by decide)), rd _ _ _ (by omega) f5⟩
    · exact ⟨rfl, by show (1 : Nat) ≤ _; omega, Things.one (fits_of (by decide)), rd _ _ _ (by omega) f6⟩
  · have hn : ¬ i = 0 ∧ ¬ i = 2 ∧ ¬ i = 3 ∧ ¬ i = 4 ∧ ¬ i = 7 := by omega
    have e : exL i = [] := by unfold exL; simp [hn]
    rw [e, ha]
    refine ⟨by simp only []; rw [if_neg hor]; rfl, by simp only []; rw [if_neg hor]; omega, fun e he => by simp at he, ?_⟩
    simp only [hn, if_false]
    exact Rd.none_
 have hc : Caps a := fun i hi => by
  rw [ha]
  simp only []
  split <;> omega
 have HFIN : Hid (∃ a' : Hs, Ending.returned (.agg a.cells) = .returned (.agg a'.cells) ∧ HT a' exL w8 ∧ Caps a' ∧ a'.z = 0 ∧ (∀ i, i < 14 → a'.n i ≤ 1000) ∧ Below w.heap.size w w8) := Lib.hid ⟨a, rfl, ht, hc, by rw [ha], fun i hi => by rw [ha]; simp only []; split <;> omega, hb8⟩
 have E0 := Lib.hid d0
 have E4A := Lib.hid e4a
 have F0 := Lib.hid f0
 have HW8 := Lib.hid hw8
 have HY := Lib.hid (show w4.cell? ⟨w.heap.size + 4, 4, none⟩ = some (.slice none 0 0) ∧ w4.frozen? ⟨w.heap.size + 4, 4, none⟩ = false ∧ w.heap.size + 4 < w4.heap.size from ⟨by rw [cell_of_block b4]; rfl, frozen_of_block b4, by omega⟩)
 have HZ := Lib.hid (show w5.cell? ⟨w.heap.size + 4, 7, none⟩ = some (.slice none 0 0) ∧ w5.frozen? ⟨w.heap.size + 4, 7, none⟩ = false ∧ w.heap.size + 4 < w5.heap.size from ⟨by rw [cell_of_block c4]; rfl, frozen_of_block c4, by omega⟩)
 clear f0 f1 f2 f3 f5 f6 rd ht hc hs8 sc8 hb8 hw8 e4a d0 d1 d2 d3 d4 d5 d6 sc6 hs6 hb6 hw6 c0 c1 c2 c3 c4 c5 sc5 hs5 hb5 hw5 b0 b1 b2 b3 b4 hs4 hb4 hw4 ha
 go_enter Tryz.func26, Tryz.ntmps26
 go_upto_region 2 with fail
 rw [← HW4.out]
 obtain ⟨y3, y4, y5⟩ := HY.out
 go_upto_region 3 with fail
 rw [← HW5.out]
 clear y3 y4 y5
 obtain ⟨y3, y4, y5⟩ := HZ.out
 go_upto_region 4 with fail
 rw [← HW6.out]
 clear y3 y4 y5
 go_wp2_with (first
  | (refine wpList_load_row rfl 37 (.tmp 1) rfl (w.heap.size + 4) rfl _ _ _ _ E4A.out huh rfl (HSH.out _) ?_)
  | (refine wpList_store_row rfl 37 (.tmp 0) (.tmp 18) rfl w.heap.size a.cells rfl rfl _ _ E0.out (HSH.out _) rfl (H1C.out _) ?_; rw [← HW8.out])
  | fail)
 exact bodyPost_ret (results_cell_row rfl _ _ w.heap.size _ _ _ _ rfl F0.out huh rfl (HSH.out a)) rfl HFIN.out
end Go.Proofs.YtlkmccmbpnbgbaaGreat
