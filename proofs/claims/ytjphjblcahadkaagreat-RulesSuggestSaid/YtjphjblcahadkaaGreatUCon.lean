/-
  37E SHAPE of the contracts of rules' Add, Suggest, of layout's Site, of room's Fits (Cons); the law's small; the examples of the chapter over it. (By wip/tools/gen_con13.py.)
-/
import Derived.Test.YtjphjblcahadkaaGreatUPl
import Derived.Test.YtjphjblcahadkaaGreatURow
import Derived.Deep.CutRange
namespace Go.Proofs.YtjphjblcahadkaaGreat
set_option linter.unusedVariables false
open Go.RowKit
open Pl (firstG findG putG It)

/-- What the functions answer. -/
structure Cons : Prop where
  add : ∀ (h : Hs) (L : Nat → List (List Value)) (a b : ByteArray) (k : Int) (w : World), HT h L w → h.n 5 ≤ 1000 → (h.n 5 ≤ h.c 5 ∧ h.c 5 ≤ 9223372036854775807) → Wf k → Calls Tryz.prog 8 #[.agg h.cells, .agg #[.string a, .string b, .int .i64 k]] w (PutP 39 3 5 (addRE (L 0) (L 2) (L 5) (Rl.mk a b k)) (putG ordRule (L 5) (Rl.mk a b k).cells) h w)
  sug : ∀ (h : Hs) (L : Nat → List (List Value)) (st it : ByteArray) (n : Int) (w : World), HT h L w → h.n 3 ≤ 1000 → h.n 5 ≤ 1001 → Wf n → Calls Tryz.prog 10 #[.agg h.cells, .string st, .string it, .int .i64 n] w fun e w' => e = .returned (.tuple #[.string (sugT (L 0) (L 2) (L 3) (L 4) (L 5) st it n), .int .i64 (sugE (L 0) (L 2) (L 3) (L 4) (L 5) st it n : Nat)]) ∧ Below w.heap.size w w'
  site : ∀ (h : Hs) (L : Nat → List (List Value)) (s : ByteArray) (w : World), HT h L w → Calls Tryz.prog 76 #[.agg h.cells, .string s] w fun e w' => e = .returned (.string (siteT (L 2) (L 3) s)) ∧ Below w.heap.size w w'
  fits : ∀ (h : Hs) (L : Nat → List (List Value)) (s t : ByteArray) (n : Int) (w : World), HT h L w → Wf n → Calls Tryz.prog 38 #[.agg h.cells, .string s, .string t, .int .i64 n] w fun e w' => e = .returned (.int .i64 (roomE (L 0) (L 3) (L 4) s t n : Nat)) ∧ Below w.heap.size w w'

/-- The examples' house. -/
def exBins (full : Bool) : List (List Value) := [[.string ⟨#[121, 49]⟩, .string ⟨#[121]⟩, .int .i64 1, .int .i64 1, .int .i64 0, .int .i64 9, .int .i64 9, .bool false], [.string ⟨#[121, 50]⟩, .string ⟨#[121]⟩, .int .i64 1, .int .i64 2, .int .i64 0, .int .i64 9, .int .i64 9, .bool false], [.string ⟨#[122, 49]⟩, .string ⟨#[122]⟩, .int .i64 1, .int .i64 0, .int .i64 0, .int .i64 (if full = true then 0 else 9), .int .i64 9, .bool false]]
def exL (full : Bool) : Nat → List (List Value) := fun i => if i = 0 then [[.string ⟨#[110, 117, 116]⟩, .string ⟨#[]⟩, .int .i64 0, .string ⟨#[]⟩, .int .i64 0, .string ⟨#[]⟩, .int .i64 0, .string ⟨#[]⟩, .int .i64 0, .int .i64 1, .int .i64 1, .bool false, .bool false, .bool false]] else if i = 2 then [[.string ⟨#[121]⟩, .string ⟨#[115]⟩], [.string ⟨#[122]⟩, .string ⟨#[115]⟩]] else if i = 3 then exBins full else if i = 5 then [[.string ⟨#[]⟩, .string ⟨#[121]⟩, .int .i64 1], [.string ⟨#[]⟩, .string ⟨#[122]⟩, .int .i64 0], [.string ⟨#[110, 117, 116]⟩, .string ⟨#[122]⟩, .int .i64 1]] else []
set_option maxRecDepth 100000 in
set_option maxHeartbeats 3200000 in
theorem small_any (full : Bool) (w : World) : Calls Tryz.prog 14 #[.bool full] w fun e w' => ∃ a : Hs, e = .returned (.agg a.cells) ∧ HT a (exL full) w' ∧ Caps a ∧ a.z = 0 ∧ a.n 3 ≤ 1000 ∧ a.n 5 ≤ 1000 ∧ Below w.heap.size w w' := by
  have huh := Tryz.underlying37
  have HSH : Hid (∀ a : Hs, (Tryz.prog.info? 37).map (·.size) = some a.cells.size) := Lib.hid (fun a => by kernel_rfl)
  have H1C : Hid (∀ a : Hs, a.cells.all (·.oneCell') = true) := Lib.hid (fun a => by simp [Hs.cells, Value.oneCell'])
  obtain ⟨r, hr⟩ : ∃ r, r = w.heap.size := ⟨_, rfl⟩
  obtain ⟨w4, hw4⟩ : ∃ W, W = (((w.alloc (.cells #[.slice none 0 0, .slice none 0 0, .slice none 0 0, .slice none 0 0, .slice none 0 0, .slice none 0 0, .slice none 0 0, .slice none 0 0, .slice none 0 0, .slice none 0 0, .slice none 0 0, .slice none 0 0, .slice none 0 0, .slice none 0 0, .int .i64 0] 37)).alloc (.cells #[.string ⟨#[110, 117, 116]⟩, .string ⟨#[]⟩, .int .i64 0, .string ⟨#[]⟩, .int .i64 0, .string ⟨#[]⟩, .int .i64 0, .string ⟨#[]⟩, .int .i64 0, .int .i64 1, .int .i64 1, .bool false, .bool false, .bool false] 59)).alloc (.cells #[.string ⟨#[121]⟩, .string ⟨#[115]⟩, .string ⟨#[122]⟩, .string ⟨#[115]⟩] 65)).alloc (.cells #[.slice (some ⟨w.heap.size + 1, 0, none⟩) 1 1, .slice none 0 0, .slice (some ⟨w.heap.size + 1 + 1, 0, none⟩) 2 2, .slice none 0 0, .slice none 0 0, .slice none 0 0, .slice none 0 0, .slice none 0 0, .slice none 0 0, .slice none 0 0, .slice none 0 0, .slice none 0 0, .slice none 0 0, .slice none 0 0, .int .i64 0] 37) := ⟨_, rfl⟩
  have hb4 : Below w.heap.size w w4 := by rw [hw4]; exact ((((Below.refl _ _).alloc (Nat.le_refl _) _).alloc (by simp) _).alloc (by simp; omega) _).alloc (by simp; omega) _
  have hs4 : w4.heap.size = w.heap.size + 4 := by rw [hw4]; simp
  have b0 : w4.heap[w.heap.size]? = some (.cells #[.slice none 0 0, .slice none 0 0, .slice none 0 0, .slice none 0 0, .slice none 0 0, .slice none 0 0, .slice none 0 0, .slice none 0 0, .slice none 0 0, .slice none 0 0, .slice none 0 0, .slice none 0 0, .slice none 0 0, .slice none 0 0, .int .i64 0] 37 (0, 0)) := by
    rw [hw4]
    exact (Below.heap_alloc _ _ _ (by simp; omega)).trans ((Below.heap_alloc _ _ _ (by simp; omega)).trans ((Below.heap_alloc _ _ _ (by simp)).trans (heap_alloc_new _ _)))
  have b1 : w4.heap[w.heap.size + 1]? = some (.cells #[.string ⟨#[110, 117, 116]⟩, .string ⟨#[]⟩, .int .i64 0, .string ⟨#[]⟩, .int .i64 0, .string ⟨#[]⟩, .int .i64 0, .string ⟨#[]⟩, .int .i64 0, .int .i64 1, .int .i64 1, .bool false, .bool false, .bool false] 59 (0, 0)) := by
    rw [hw4]
    have hq := heap_alloc_new (w.alloc (.cells #[.slice none 0 0, .slice none 0 0, .slice none 0 0, .slice none 0 0, .slice none 0 0, .slice none 0 0, .slice none 0 0, .slice none 0 0, .slice none 0 0, .slice none 0 0, .slice none 0 0, .slice none 0 0, .slice none 0 0, .slice none 0 0, .int .i64 0] 37)) (.cells #[.string ⟨#[110, 117, 116]⟩, .string ⟨#[]⟩, .int .i64 0, .string ⟨#[]⟩, .int .i64 0, .string ⟨#[]⟩, .int .i64 0, .string ⟨#[]⟩, .int .i64 0, .int .i64 1, .int .i64 1, .bool false, .bool false, .bool false] 59)
    exact (Below.heap_alloc _ _ _ (by simp)).trans ((Below.heap_alloc _ _ _ (by simp)).trans (by simpa using hq))
  have b2 : w4.heap[w.heap.size + 2]? = some (.cells #[.string ⟨#[121]⟩, .string ⟨#[115]⟩, .string ⟨#[122]⟩, .string ⟨#[115]⟩] 65 (0, 0)) := by
    rw [hw4]
    have hq := heap_alloc_new ((w.alloc (.cells #[.slice none 0 0, .slice none 0 0, .slice none 0 0, .slice none 0 0, .slice none 0 0, .slice none 0 0, .slice none 0 0, .slice none 0 0, .slice none 0 0, .slice none 0 0, .slice none 0 0, .slice none 0 0, .slice none 0 0, .slice none 0 0, .int .i64 0] 37)).alloc (.cells #[.string ⟨#[110, 117, 116]⟩, .string ⟨#[]⟩, .int .i64 0, .string ⟨#[]⟩, .int .i64 0, .string ⟨#[]⟩, .int .i64 0, .string ⟨#[]⟩, .int .i64 0, .int .i64 1, .int .i64 1, .bool false, .bool false, .bool false] 59)) (.cells #[.string ⟨#[121]⟩, .string ⟨#[115]⟩, .string ⟨#[122]⟩, .string ⟨#[115]⟩] 65)
    exact (Below.heap_alloc _ _ _ (by simp)).trans (by simpa using hq)
  have b3 : w4.heap[w.heap.size + 3]? = some (.cells #[.slice (some ⟨w.heap.size + 1, 0, none⟩) 1 1, .slice none 0 0, .slice (some ⟨w.heap.size + 1 + 1, 0, none⟩) 2 2, .slice none 0 0, .slice none 0 0, .slice none 0 0, .slice none 0 0, .slice none 0 0, .slice none 0 0, .slice none 0 0, .slice none 0 0, .slice none 0 0, .slice none 0 0, .slice none 0 0, .int .i64 0] 37 (0, 0)) := by
    rw [hw4]
    have hq := heap_alloc_new (((w.alloc (.cells #[.slice none 0 0, .slice none 0 0, .slice none 0 0, .slice none 0 0, .slice none 0 0, .slice none 0 0, .slice none 0 0, .slice none 0 0, .slice none 0 0, .slice none 0 0, .slice none 0 0, .slice none 0 0, .slice none 0 0, .slice none 0 0, .int .i64 0] 37)).alloc (.cells #[.string ⟨#[110, 117, 116]⟩, .string ⟨#[]⟩, .int .i64 0, .string ⟨#[]⟩, .int .i64 0, .string ⟨#[]⟩, .int .i64 0, .string ⟨#[]⟩, .int .i64 0, .int .i64 1, .int .i64 1, .bool false, .bool false, .bool false] 59)).alloc (.cells #[.string ⟨#[121]⟩, .string ⟨#[115]⟩, .string ⟨#[122]⟩, .string ⟨#[115]⟩] 65)) (.cells #[.slice (some ⟨w.heap.size + 1, 0, none⟩) 1 1, .slice none 0 0, .slice (some ⟨w.heap.size + 1 + 1, 0, none⟩) 2 2, .slice none 0 0, .slice none 0 0, .slice none 0 0, .slice none 0 0, .slice none 0 0, .slice none 0 0, .slice none 0 0, .slice none 0 0, .slice none 0 0, .slice none 0 0, .slice none 0 0, .int .i64 0] 37)
    simpa using hq
  have HW4 := Lib.hid hw4
  obtain ⟨w5, hw5⟩ : ∃ W, W = (w4.setCell ⟨w.heap.size + 1 + 1 + 1, 3, none⟩ (.slice (some ⟨w4.heap.size, 0, none⟩) 3 3)).alloc (.cells #[.string ⟨#[121, 49]⟩, .string ⟨#[121]⟩, .int .i64 1, .int .i64 1, .int .i64 0, .int .i64 9, .int .i64 9, .bool false, .string ⟨#[121, 50]⟩, .string ⟨#[121]⟩, .int .i64 1, .int .i64 2, .int .i64 0, .int .i64 9, .int .i64 9, .bool false, .string ⟨#[122, 49]⟩, .string ⟨#[122]⟩, .int .i64 1, .int .i64 0, .int .i64 0, .int .i64 9, .int .i64 9, .bool false] 68) := ⟨_, rfl⟩
  have hb5 : Below w.heap.size w w5 := by rw [hw5]; exact (hb4.setCell (by show w.heap.size ≤ w.heap.size + 1 + 1 + 1; omega) _).alloc (by have := hb4.size; simpa [World.setCell] using this) _
  have hs5 : w5.heap.size = w.heap.size + 5 := by rw [hw5]; simp [World.setCell]; omega
  have sc5 : ∀ g o, w.heap.size + 3 ≠ g → g < w4.heap.size → w4.heap[g]? = some o → w5.heap[g]? = some o := fun g o hg hl h => by
    rw [hw5]; exact (Below.heap_alloc _ _ _ (by simpa [World.setCell] using hl)).trans ((block_setCell_other (Ne.symm hg) _).trans h)
  have c0 := sc5 w.heap.size _ (by omega) (by omega) b0
  have c1 := sc5 (w.heap.size + 1) _ (by omega) (by omega) b1
  have c2 := sc5 (w.heap.size + 2) _ (by omega) (by omega) b2
  have c3 : w5.heap[w.heap.size + 3]? = some (.cells #[.slice (some ⟨w.heap.size + 1, 0, none⟩) 1 1, .slice none 0 0, .slice (some ⟨w.heap.size + 1 + 1, 0, none⟩) 2 2, .slice (some ⟨w.heap.size + 4, 0, none⟩) 3 3, .slice none 0 0, .slice none 0 0, .slice none 0 0, .slice none 0 0, .slice none 0 0, .slice none 0 0, .slice none 0 0, .slice none 0 0, .slice none 0 0, .slice none 0 0, .int .i64 0] 37 (0, 0)) := by
    rw [hw5, (Below.heap_alloc _ _ _ (by have := lt_of_block b3; simpa [World.setCell] using this)).trans (block_setCell b3 _), hs4]; rfl
  have c4 : w5.heap[w.heap.size + 4]? = some (.cells #[.string ⟨#[121, 49]⟩, .string ⟨#[121]⟩, .int .i64 1, .int .i64 1, .int .i64 0, .int .i64 9, .int .i64 9, .bool false, .string ⟨#[121, 50]⟩, .string ⟨#[121]⟩, .int .i64 1, .int .i64 2, .int .i64 0, .int .i64 9, .int .i64 9, .bool false, .string ⟨#[122, 49]⟩, .string ⟨#[122]⟩, .int .i64 1, .int .i64 0, .int .i64 0, .int .i64 9, .int .i64 9, .bool false] 68 (0, 0)) := by
    rw [hw5]
    have hq := heap_alloc_new (w4.setCell ⟨w.heap.size + 1 + 1 + 1, 3, none⟩ (.slice (some ⟨w4.heap.size, 0, none⟩) 3 3)) (.cells #[.string ⟨#[121, 49]⟩, .string ⟨#[121]⟩, .int .i64 1, .int .i64 1, .int .i64 0, .int .i64 9, .int .i64 9, .bool false, .string ⟨#[121, 50]⟩, .string ⟨#[121]⟩, .int .i64 1, .int .i64 2, .int .i64 0, .int .i64 9, .int .i64 9, .bool false, .string ⟨#[122, 49]⟩, .string ⟨#[122]⟩, .int .i64 1, .int .i64 0, .int .i64 0, .int .i64 9, .int .i64 9, .bool false] 68)
    rw [show (w4.setCell ⟨w.heap.size + 1 + 1 + 1, 3, none⟩ (.slice (some ⟨w4.heap.size, 0, none⟩) 3 3)).heap.size = w.heap.size + 4 from by simp only [World.setCell, Array.size_modify]; exact hs4] at hq
    exact hq
  have HW5 := Lib.hid hw5
  obtain ⟨w6, hw6⟩ : ∃ W, W = (w5.setCell ⟨w.heap.size + 1 + 1 + 1, 5, none⟩ (.slice (some ⟨w5.heap.size, 0, none⟩) 3 3)).alloc (.cells #[.string ⟨#[]⟩, .string ⟨#[121]⟩, .int .i64 1, .string ⟨#[]⟩, .string ⟨#[122]⟩, .int .i64 0, .string ⟨#[110, 117, 116]⟩, .string ⟨#[122]⟩, .int .i64 1] 39) := ⟨_, rfl⟩
  have hb6 : Below w.heap.size w w6 := by rw [hw6]; exact (hb5.setCell (by show w.heap.size ≤ w.heap.size + 1 + 1 + 1; omega) _).alloc (by have := hb5.size; simpa [World.setCell] using this) _
  have hs6 : w6.heap.size = w.heap.size + 6 := by rw [hw6]; simp [World.setCell]; omega
  have sc6 : ∀ g o, w.heap.size + 3 ≠ g → g < w5.heap.size → w5.heap[g]? = some o → w6.heap[g]? = some o := fun g o hg hl h => by
    rw [hw6]; exact (Below.heap_alloc _ _ _ (by simpa [World.setCell] using hl)).trans ((block_setCell_other (Ne.symm hg) _).trans h)
  have d0 := sc6 w.heap.size _ (by omega) (by omega) c0
  have d1 := sc6 (w.heap.size + 1) _ (by omega) (by omega) c1
  have d2 := sc6 (w.heap.size + 2) _ (by omega) (by omega) c2
  have d4 := sc6 (w.heap.size + 4) _ (by omega) (by omega) c4
  have d3 : w6.heap[w.heap.size + 3]? = some (.cells #[.slice (some ⟨w.heap.size + 1, 0, none⟩) 1 1, .slice none 0 0, .slice (some ⟨w.heap.size + 1 + 1, 0, none⟩) 2 2, .slice (some ⟨w.heap.size + 4, 0, none⟩) 3 3, .slice none 0 0, .slice (some ⟨w.heap.size + 5, 0, none⟩) 3 3, .slice none 0 0, .slice none 0 0, .slice none 0 0, .slice none 0 0, .slice none 0 0, .slice none 0 0, .slice none 0 0, .slice none 0 0, .int .i64 0] 37 (0, 0)) := by
    rw [hw6, (Below.heap_alloc _ _ _ (by have := lt_of_block c3; simpa [World.setCell] using this)).trans (block_setCell c3 _), hs5]; rfl
  have d5 : w6.heap[w.heap.size + 5]? = some (.cells #[.string ⟨#[]⟩, .string ⟨#[121]⟩, .int .i64 1, .string ⟨#[]⟩, .string ⟨#[122]⟩, .int .i64 0, .string ⟨#[110, 117, 116]⟩, .string ⟨#[122]⟩, .int .i64 1] 39 (0, 0)) := by
    rw [hw6]
    have hq := heap_alloc_new (w5.setCell ⟨w.heap.size + 1 + 1 + 1, 5, none⟩ (.slice (some ⟨w5.heap.size, 0, none⟩) 3 3)) (.cells #[.string ⟨#[]⟩, .string ⟨#[121]⟩, .int .i64 1, .string ⟨#[]⟩, .string ⟨#[122]⟩, .int .i64 0, .string ⟨#[110, 117, 116]⟩, .string ⟨#[122]⟩, .int .i64 1] 39)
    rw [show (w5.setCell ⟨w.heap.size + 1 + 1 + 1, 5, none⟩ (.slice (some ⟨w5.heap.size, 0, none⟩) 3 3)).heap.size = w.heap.size + 5 from by simp only [World.setCell, Array.size_modify]; exact hs5] at hq
    exact hq
  have HW6 := Lib.hid hw6
  obtain ⟨w7, hw7⟩ : ∃ W, W = if full = true then w6.setCell ⟨w.heap.size + 4, 21, none⟩ (.int .i64 0) else w6 := ⟨_, rfl⟩
  have hb7 : Below w.heap.size w w7 := by rw [hw7]; split; exact hb6.setCell (by simp) _; exact hb6
  have hs7 : w7.heap.size = w.heap.size + 6 := by rw [hw7]; split; rw [show (w6.setCell ⟨w.heap.size + 4, 21, none⟩ (.int .i64 0)).heap.size = w6.heap.size from by simp [World.setCell]]; exact hs6; exact hs6
  have sc7 : ∀ g o, w.heap.size + 4 ≠ g → w6.heap[g]? = some o → w7.heap[g]? = some o := fun g o hg h => by
    rw [hw7]; split; exact (block_setCell_other (Ne.symm hg) _).trans h; exact h
  have e0 := sc7 w.heap.size _ (by omega) d0
  have e1 := sc7 (w.heap.size + 1) _ (by omega) d1
  have e2 := sc7 (w.heap.size + 2) _ (by omega) d2
  have e3 := sc7 (w.heap.size + 3) _ (by omega) d3
  have e5 := sc7 (w.heap.size + 5) _ (by omega) d5
  have e4 : w7.heap[w.heap.size + 4]? = some (.cells (exBins full).flatten.toArray 68 (0, 0)) := by
    rw [hw7]
    cases full with
    | true => rw [if_pos rfl, block_setCell d4]; rfl
    | false => rw [if_neg (by simp), d4]; rfl
  obtain ⟨a, ha⟩ : ∃ a : Hs, a = ⟨fun i => if i = 0 then some ⟨w.heap.size + 1, 0, none⟩ else if i = 2 then some ⟨w.heap.size + 2, 0, none⟩ else if i = 3 then some ⟨w.heap.size + 4, 0, none⟩ else if i = 5 then some ⟨w.heap.size + 5, 0, none⟩ else none, fun i => if i = 0 then 1 else if i = 2 then 2 else if i = 3 then 3 else if i = 5 then 3 else 0, fun i => if i = 0 then 1 else if i = 2 then 2 else if i = 3 then 3 else if i = 5 then 3 else 0, 0⟩ := ⟨_, rfl⟩
  have e3a : w7.heap[w.heap.size + 3]? = some (.cells a.cells 37 (0, 0)) := by rw [e3, ha]; rfl
  obtain ⟨w8, hw8⟩ : ∃ W, W = w7.setRow w.heap.size a.cells := ⟨_, rfl⟩
  have hb8 : Below w.heap.size w w8 := by rw [hw8]; exact setRow_below hb7 (Nat.le_refl _) _
  have sc8 : ∀ g o, w.heap.size ≠ g → w7.heap[g]? = some o → w8.heap[g]? = some o := fun g o hg h => by
    rw [hw8]; exact (setRow_other _ _ _ _ (Ne.symm hg)).trans h
  have f1 := sc8 (w.heap.size + 1) _ (by omega) e1
  have f2 := sc8 (w.heap.size + 2) _ (by omega) e2
  have f4 := sc8 (w.heap.size + 4) _ (by omega) e4
  have f5 := sc8 (w.heap.size + 5) _ (by omega) e5
  have hs8 : w8.heap.size = w.heap.size + 6 := by rw [hw8]; simpa using hs7
  have f0 : w8.heap[w.heap.size]? = some (.cells a.cells 37 (0, 0)) := by rw [hw8]; exact setRow_heap _ _ _ _ _ _ e0
  have rd : ∀ (g : Nat) (xs : List Value) (t : TypeId), g < w8.heap.size → w8.heap[g]? = some (.cells xs.toArray t (0, 0)) → Rd w8 w8.heap.size (some ⟨g, 0, none⟩) xs := fun g xs t hg h _ => ⟨g, 0, rfl, hg, fun j u hu => by
    rw [Nat.zero_add, cell_of_block h, List.getElem?_toArray]
    exact hu⟩
  have ht : HT a (exL full) w8 := fun i hi => by
    by_cases h0 : i = 0
    · subst h0; rw [ha]; exact ⟨rfl, by show (1 : Nat) ≤ _; omega, fun e he => by
        have he : e ∈ [[.string ⟨#[110, 117, 116]⟩, .string ⟨#[]⟩, .int .i64 0, .string ⟨#[]⟩, .int .i64 0, .string ⟨#[]⟩, .int .i64 0, .string ⟨#[]⟩, .int .i64 0, .int .i64 1, .int .i64 1, .bool false, .bool false, .bool false]] := he
        simp only [List.mem_singleton] at he; subst he; exact fits_of (by decide), rd _ _ _ (by omega) f1⟩
    · by_cases h2 : i = 2
      · subst h2; rw [ha]; exact ⟨rfl, by show (2 : Nat) ≤ _; omega, fun e he => by
          have he : e ∈ [[.string ⟨#[121]⟩, .string ⟨#[115]⟩], [.string ⟨#[122]⟩, .string ⟨#[115]⟩]] := he
          simp only [List.mem_cons, List.not_mem_nil, or_false] at he; rcases he with rfl | rfl <;> exact fits_of (by decide), rd _ _ _ (by omega) f2⟩
      · by_cases h3 : i = 3
        · subst h3; rw [ha]; exact ⟨rfl, by show (3 : Nat) ≤ _; omega, fun e he => by
            have he : e ∈ [[.string ⟨#[121, 49]⟩, .string ⟨#[121]⟩, .int .i64 1, .int .i64 1, .int .i64 0, .int .i64 9, .int .i64 9, .bool false], [.string ⟨#[121, 50]⟩, .string ⟨#[121]⟩, .int .i64 1, .int .i64 2, .int .i64 0, .int .i64 9, .int .i64 9, .bool false], [.string ⟨#[122, 49]⟩, .string ⟨#[122]⟩, .int .i64 1, .int .i64 0, .int .i64 0, .int .i64 (if full = true then 0 else 9), .int .i64 9, .bool false]] := he
            simp only [List.mem_cons, List.not_mem_nil, or_false] at he; rcases he with rfl | rfl | rfl <;> exact ⟨⟨_, rfl⟩, ⟨_, rfl⟩, ⟨_, rfl⟩, ⟨_, rfl⟩, ⟨_, rfl⟩, ⟨_, rfl⟩, ⟨_, rfl⟩, ⟨_, rfl⟩, trivial⟩, rd _ _ _ (by omega) f4⟩
        · by_cases h5 : i = 5
          · subst h5; rw [ha]; exact ⟨rfl, by show (3 : Nat) ≤ _; omega, fun e he => by
              have he : e ∈ [[.string ⟨#[]⟩, .string ⟨#[121]⟩, .int .i64 1], [.string ⟨#[]⟩, .string ⟨#[122]⟩, .int .i64 0], [.string ⟨#[110, 117, 116]⟩, .string ⟨#[122]⟩, .int .i64 1]] := he
              simp only [List.mem_cons, List.not_mem_nil, or_false] at he; rcases he with rfl | rfl | rfl <;> exact fits_of (by decide), rd _ _ _ (by omega) f5⟩
          · have e : exL full i = [] := by unfold exL; rw [if_neg h0, if_neg h2, if_neg h3, if_neg h5]
            rw [e, ha]
            refine ⟨by simp only []; rw [if_neg h0, if_neg h2, if_neg h3, if_neg h5]; rfl, by simp only []; rw [if_neg h0, if_neg h2, if_neg h3, if_neg h5]; omega, fun e he => by simp at he, ?_⟩
            simp only []
            rw [if_neg h0, if_neg h2, if_neg h3, if_neg h5]
            exact Rd.none_
  have hc : Caps a := fun i hi => by
    rw [ha]
    simp only []
    split <;> (try split) <;> (try split) <;> (try split) <;> omega
  have HFIN : Hid (∃ a' : Hs, Ending.returned (.agg a.cells) = .returned (.agg a'.cells) ∧ HT a' (exL full) w8 ∧ Caps a' ∧ a'.z = 0 ∧ a'.n 3 ≤ 1000 ∧ a'.n 5 ≤ 1000 ∧ Below w.heap.size w w8) := Lib.hid ⟨a, rfl, ht, hc, by rw [ha], by rw [ha]; show (3 : Nat) ≤ 1000; omega, by rw [ha]; show (3 : Nat) ≤ 1000; omega, hb8⟩
  have E0 := Lib.hid e0
  have E3A := Lib.hid e3a
  have F0 := Lib.hid f0
  have HW7 := Lib.hid hw7
  have HW8 := Lib.hid hw8
  have y3 : w4.cell? ⟨w.heap.size + 3, 3, none⟩ = some (.slice none 0 0) := by rw [cell_of_block b3]; rfl
  have y4 : w4.frozen? ⟨w.heap.size + 3, 3, none⟩ = false := frozen_of_block b3
  have y5 : w.heap.size + 3 < w4.heap.size := by omega
  have z3 : w5.cell? ⟨w.heap.size + 3, 5, none⟩ = some (.slice none 0 0) := by rw [cell_of_block c3]; rfl
  have z4 : w5.frozen? ⟨w.heap.size + 3, 5, none⟩ = false := frozen_of_block c3
  have z5 : w.heap.size + 3 < w5.heap.size := by omega
  have x3 : w6.cell? ⟨w.heap.size + 3, 3, none⟩ = some (.slice (some ⟨w.heap.size + 4, 0, none⟩) 3 3) := by rw [cell_of_block d3]; rfl
  have x4 : w6.cell? ⟨w.heap.size + 4, 21, none⟩ = some (.int .i64 9) := by rw [cell_of_block d4]; rfl
  have x5 : w6.frozen? ⟨w.heap.size + 4, 21, none⟩ = false := frozen_of_block d4
  have x6 : w.heap.size + 3 < w6.heap.size ∧ w.heap.size + 4 < w6.heap.size := by omega
  have HY := Lib.hid (And.intro y3 (And.intro y4 y5))
  have HZ := Lib.hid (And.intro z3 (And.intro z4 z5))
  have HX := Lib.hid (And.intro x3 (And.intro x4 (And.intro x5 x6)))
  have HS4 := Lib.hid hs4
  have HS5 := Lib.hid hs5
  clear y3 y4 y5 z3 z4 z5 x3 x4 x5 x6 f0 f1 f2 f4 f5 rd ht hc hs8 sc8 hb8 hw8 e3a e0 e1 e2 e3 e4 e5 sc7 hs7 hb7 hw7 d0 d1 d2 d3 d4 d5 sc6 hs6 hb6 hw6 c0 c1 c2 c3 c4 sc5 hs5 hb5 hw5 b0 b1 b2 b3 hs4 hb4 hw4 ha hr r
  go_enter Tryz.func14, Tryz.ntmps14
  go_upto_region 2 with fail
  rw [← HW4.out]
  obtain ⟨y3, y4, y5⟩ := HY.out
  go_upto_region 3 with fail
  rw [← HW5.out]
  clear y3 y4 y5
  obtain ⟨z3, z4, z5⟩ := HZ.out
  go_upto_region 4 with fail
  rw [← HW6.out]
  clear z3 z4 z5
  obtain ⟨x3, x4, x5, x6, x7⟩ := HX.out
  cases full with
  | true =>
    go_upto_region 6 with fail
    have h7 : w6.setCell ⟨w.heap.size + 4, 21, none⟩ (.int .i64 0) = w7 := by rw [HW7.out]; rfl
    rw [h7]
    clear x3 x4 x5 x6 x7 h7
    go_wp2_with (first
      | (refine wpList_load_row rfl 37 (.tmp 3) rfl (w.heap.size + 3) rfl _ _ _ _ E3A.out huh rfl (HSH.out _) ?_)
      | (refine wpList_store_row rfl 37 (.tmp 2) (.tmp 25) rfl w.heap.size a.cells rfl rfl _ _ E0.out (HSH.out _) rfl (H1C.out _) ?_; rw [← HW8.out])
      | fail)
    exact bodyPost_ret (results_cell_row rfl _ _ w.heap.size _ _ _ _ rfl F0.out huh rfl (HSH.out a)) rfl HFIN.out
  | false =>
    go_upto_region 6 with fail
    have h7 : w6 = w7 := by rw [HW7.out]; rfl
    rw [h7]
    clear x3 x4 x5 x6 x7 h7
    go_wp2_with (first
      | (refine wpList_load_row rfl 37 (.tmp 3) rfl (w.heap.size + 3) rfl _ _ _ _ E3A.out huh rfl (HSH.out _) ?_)
      | (refine wpList_store_row rfl 37 (.tmp 2) (.tmp 25) rfl w.heap.size a.cells rfl rfl _ _ E0.out (HSH.out _) rfl (H1C.out _) ?_; rw [← HW8.out])
      | fail)
    exact bodyPost_ret (results_cell_row rfl _ _ w.heap.size _ _ _ _ rfl F0.out huh rfl (HSH.out a)) rfl HFIN.out
set_option maxRecDepth 100000 in
set_option maxHeartbeats 3200000 in
/-- The chapter's examples hold. -/
theorem awake_any (C : Cons) (w : World) : Calls Tryz.prog 6 #[] w fun e w' => e = .returned (.bool true) ∧ Below w.heap.size w w' := by
  have HC := Lib.hid C
  have E1 : Hid (sugT (exL false 0) (exL false 2) (exL false 3) (exL false 4) (exL false 5) ⟨#[115]⟩ ⟨#[110, 117, 116]⟩ 5 = ⟨#[122, 49]⟩ ∧ sugE (exL false 0) (exL false 2) (exL false 3) (exL false 4) (exL false 5) ⟨#[115]⟩ ⟨#[110, 117, 116]⟩ 5 = 0) := Lib.hid (by decide +kernel)
  have E2 : Hid (sugT (exL true 0) (exL true 2) (exL true 3) (exL true 4) (exL true 5) ⟨#[115]⟩ ⟨#[110, 117, 116]⟩ 5 = ⟨#[121, 49]⟩ ∧ sugE (exL true 0) (exL true 2) (exL true 3) (exL true 4) (exL true 5) ⟨#[115]⟩ ⟨#[110, 117, 116]⟩ 5 = 0) := Lib.hid (by decide +kernel)
  have E3 : Hid (sugE (exL true 0) (exL true 2) (exL true 3) (exL true 4) (exL true 5) ⟨#[115]⟩ ⟨#[110, 117, 116]⟩ 10 = 30) := Lib.hid (by decide +kernel)
  have E4 : Hid (addRE (exL false 0) (exL false 2) (exL false 5) (Rl.mk ⟨#[120]⟩ ⟨#[121]⟩ 0) = 12) := Lib.hid (by decide +kernel)
  have B0 := Lib.hid (Below.refl w.heap.size w)
  have hw5 : Wf 5 := by unfold Wf; omega
  have hw10 : Wf 10 := by unfold Wf; omega
  have hw0 : Wf 0 := by unfold Wf; omega
  go_enter Tryz.func6, Tryz.ntmps6
  go_wp2_with fail
  refine (small_any false _).mono ?_
  rintro e w1 ⟨a1, rfl, ht1, hc1, hz1, hn1, hm1, hb1⟩
  have B1 := Lib.hid (B0.out.trans (hb1.mono B0.out.size))
  have HT1 := Lib.hid ht1
  have HN1 := Lib.hid (And.intro hn1 hm1)
  clear hb1 ht1 hc1 hz1 hn1 hm1
  go_wp2_with fail
  refine (HC.out.sug a1 (exL false) ⟨#[115]⟩ ⟨#[110, 117, 116]⟩ 5 _ HT1.out HN1.out.1 (Nat.le_succ_of_le HN1.out.2) hw5).mono ?_
  rintro e w2 ⟨rfl, hb2⟩
  rw [E1.out.1, E1.out.2]
  have B2 := Lib.hid (B1.out.trans (hb2.mono B1.out.size))
  clear hb2
  go_wp2_with fail
  refine (small_any true _).mono ?_
  rintro e w3 ⟨a3, rfl, ht3, hc3, hz3, hn3, hm3, hb3⟩
  have B3 := Lib.hid (B2.out.trans (hb3.mono B2.out.size))
  have HT3 := Lib.hid ht3
  have HN3 := Lib.hid (And.intro hn3 hm3)
  clear hb3 ht3 hc3 hz3 hn3 hm3
  go_wp2_with fail
  refine (HC.out.sug a3 (exL true) ⟨#[115]⟩ ⟨#[110, 117, 116]⟩ 5 _ HT3.out HN3.out.1 (Nat.le_succ_of_le HN3.out.2) hw5).mono ?_
  rintro e w4 ⟨rfl, hb4⟩
  rw [E2.out.1, E2.out.2]
  have B4 := Lib.hid (B3.out.trans (hb4.mono B3.out.size))
  clear hb4
  go_wp2_with fail
  refine (small_any true _).mono ?_
  rintro e w5 ⟨a5, rfl, ht5, hc5, hz5, hn5, hm5, hb5⟩
  have B5 := Lib.hid (B4.out.trans (hb5.mono B4.out.size))
  have HT5 := Lib.hid ht5
  have HN5 := Lib.hid (And.intro hn5 hm5)
  clear hb5 ht5 hc5 hz5 hn5 hm5
  go_wp2_with fail
  refine (HC.out.sug a5 (exL true) ⟨#[115]⟩ ⟨#[110, 117, 116]⟩ 10 _ HT5.out HN5.out.1 (Nat.le_succ_of_le HN5.out.2) hw10).mono ?_
  rintro e w6 ⟨rfl, hb6⟩
  rw [E3.out]
  have B6 := Lib.hid (B5.out.trans (hb6.mono B5.out.size))
  clear hb6
  go_wp2_with fail
  refine (small_any false _).mono ?_
  rintro e w7 ⟨a7, rfl, ht7, hc7, hz7, hn7, hm7, hb7⟩
  have B7 := Lib.hid (B6.out.trans (hb7.mono B6.out.size))
  have HT7 := Lib.hid ht7
  have HN7 := Lib.hid (And.intro hm7 (hc7 5 (by decide)))
  clear hb7 ht7 hc7 hz7 hn7 hm7
  go_wp2_with fail
  refine (HC.out.add a7 (exL false) ⟨#[120]⟩ ⟨#[121]⟩ 0 _ HT7.out HN7.out.1 HN7.out.2 hw0).mono ?_
  rintro e w8 ⟨hb8, ⟨hne, rfl⟩ | ⟨h0, _⟩⟩
  · rw [E4.out]
    have B8 := Lib.hid (B7.out.trans (hb8.mono B7.out.size))
    have B9 := Lib.hid (B8.out.alloc B8.out.size (.cells #[.slice none 0 0, .slice none 0 0, .slice none 0 0, .slice none 0 0, .slice none 0 0, .slice none 0 0, .slice none 0 0, .slice none 0 0, .slice none 0 0, .slice none 0 0, .slice none 0 0, .slice none 0 0, .slice none 0 0, .slice none 0 0, .int .i64 0] 37))
    clear hb8 hne
    unfold Hs.zero
    go_wp2_with fail
    go_ret
    exact ⟨rfl, B9.out⟩
  · rw [E4.out] at h0; cases h0
end Go.Proofs.YtjphjblcahadkaaGreat
