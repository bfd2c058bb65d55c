/-
 THE SHAPE of the contracts of inbound's functions, of stock's Total, of layout's Find (Cons); the law's small; the examples of the chapter over it. (By wip/tools/gen_con14.py.)
-/
import Derived.Test.YtgbilfkjfeheaaaGreatOPl
import Derived.Test.YtgbilfkjfeheaaaGreatGT
import Derived.Test.YtgbilfkjfeheaaaGreatJHead
import Derived.Deep.CutRange
namespace Go.Proofs.YtgbilfkjfeheaaaGreat
set_option linter.unusedVariables false
open Go.RowKit
open Pl (firstG findG putG It)

/-- A number as a machine holds it. -/
def Wf (z : Int) : Prop := -9223372036854775808 ≤ z ∧ z ≤ 9223372036854775807
/-- How many there are of an item and lot. -/
def stockQ (L : List (List Value)) (s t : ByteArray) : Int := L.foldl (fun n q => if (Pl.eqv (qnOf q).item s && Pl.eqv (qnOf q).lot t) = true then wrap64 (n + (qnOf q).qty) else n) 0
/-- What stowing leaves. -/
def StowP (err : Nat) (tt : ByteArray) (l : List (List Value)) (h : Hs) (L : Nat → List (List Value)) (w : World) (e : Ending) (w' : World) : Prop :=
 Below w.heap.size w w' ∧ ∃ p : Hs, e = .returned (.tuple #[.agg p.cells, .string (if err = 0 then tt else ⟨#[]⟩), .int .i64 (err : Nat)]) ∧ HT p (setE err L 4 l) w' ∧ p.z = zE err h.z ∧ (Caps h → Caps p) ∧ ∀ g, Off g h L → g < w.heap.size → Off g p (setE err L 4 l)
/-- What the functions answer. -/
structure Cons : Prop where
 total : ∀ (h : Hs) (L : Nat → List (List Value)) (s t : ByteArray) (w : World), HT h L w → Calls Tryz.prog 25 #[.agg h.cells, .string s, .string t] w fun e w' => e = .returned (.int .i64 (stockQ (L 4) s t)) ∧ Below w.heap.size w w'
 recv : ∀ (h : Hs) (L : Nat → List (List Value)) (x : Cm) (w : World), HT h L w → h.n 4 ≤ 1100 → h.n 6 ≤ 1100 → h.n 13 ≤ 1100 → Caps h → Wf x.n → Calls Tryz.prog 20 #[.agg h.cells, .agg #[.string x.notice, .string x.item, .string x.unit, .int .i64 x.n, .string x.lot, .string x.dock]] w (HouseP (recE L x) (recM L x) h L w)

/-- The examples' house. -/
def exN : List Value := [.string ⟨#[110]⟩, .string ⟨#[115]⟩, .string ⟨#[110, 117, 116]⟩, .int .i64 20, .int .i64 0, .int .i64 0, .int .i64 0, .int .i64 0, .string ⟨#[]⟩, .int .i64 0, .int .i64 0, .int .i64 0, .int .i64 0, .int .i64 0, .string ⟨#[]⟩, .int .i64 0, .int .i64 0, .int .i64 0, .int .i64 0, .int .i64 0, .string ⟨#[]⟩, .int .i64 0, .int .i64 0, .int .i64 0, .int .i64 0, .int .i64 0, .string ⟨#[]⟩, .int .i64 0, .int .i64 0, .int .i64 0, .int .i64 0, .int .i64 0, .string ⟨#[]⟩, .int .i64 0, .int .i64 0, .int .i64 0, .int .i64 0, .int .i64 0, .string ⟨#[]⟩, .int .i64 0, .int .i64 0, .int .i64 0, .int .i64 0, .int .i64 0, .string ⟨#[]⟩, .int .i64 0, .int .i64 0, .int .i64 0, .int .i64 0, .int .i64 0, .bool false]
def exL : Nat → List (List Value) := fun i => if i = 0 then [[.string ⟨#[110, 117, 116]⟩, .string ⟨#[98, 111, 120]⟩, .int .i64 12, .string ⟨#[]⟩, .int .i64 0, .string ⟨#[]⟩, .int .i64 0, .string ⟨#[]⟩, .int .i64 0, .int .i64 0, .int .i64 0, .bool false, .bool false, .bool false]] else if i = 2 then [[.string ⟨#[122]⟩, .string ⟨#[115]⟩]] else if i = 3 then [[.string ⟨#[100]⟩, .string ⟨#[122]⟩, .int .i64 2, .int .i64 0, .int .i64 0, .int .i64 0, .int .i64 0, .bool false]] else if i = 6 then [exN] else []
set_option maxRecDepth 100000 in
set_option maxHeartbeats 3200000 in
theorem small_any (w : World) : Calls Tryz.prog 28 #[] w fun e w' => ∃ a : Hs, e = .returned (.agg a.cells) ∧ HT a exL w' ∧ Caps a ∧ a.z = 0 ∧ a.n 4 ≤ 1000 ∧ a.n 6 ≤ 1000 ∧ a.n 13 ≤ 1000 ∧ Below w.heap.size w w' ∧ (∀ g, g ≤ w.heap.size → Off g a exL) := by
 have huh := Tryz.underlying37
 have HSH : Hid (∀ a : Hs, (Tryz.prog.info? 37).map (·.size) = some a.cells.size) := Lib.hid (fun a => by kernel_rfl)
 have H1C : Hid (∀ a : Hs, a.cells.all (·.oneCell') = true) := Lib.hid (fun a => by simp [Hs.cells, Value.oneCell'])
 obtain ⟨w4, hw4⟩ : ∃ W, W = ((((w.alloc (.cells #[.slice none 0 0, .slice none 0 0, .slice none 0 0, .slice none 0 0, .slice none 0 0, .slice none 0 0, .slice none 0 0, .slice none 0 0, .slice none 0 0, .slice none 0 0, .slice none 0 0, .slice none 0 0, .slice none 0 0, .slice none 0 0, .int .i64 0] 37)).alloc (.cells #[.string ⟨#[110, 117, 116]⟩, .string ⟨#[98, 111, 120]⟩, .int .i64 12, .string ⟨#[]⟩, .int .i64 0, .string ⟨#[]⟩, .int .i64 0, .string ⟨#[]⟩, .int .i64 0, .int .i64 0, .int .i64 0, .bool false, .bool false, .bool false] 87)).alloc (.cells #[.string ⟨#[122]⟩, .string ⟨#[115]⟩] 93)).alloc (.cells #[.string ⟨#[100]⟩, .string ⟨#[122]⟩, .int .i64 2, .int .i64 0, .int .i64 0, .int .i64 0, .int .i64 0, .bool false] 64)).alloc (.cells #[.slice (some ⟨w.heap.size + 1, 0, none⟩) 1 1, .slice none 0 0, .slice (some ⟨w.heap.size + 1 + 1, 0, none⟩) 1 1, .slice (some ⟨w.heap.size + 1 + 1 + 1, 0, none⟩) 1 1, .slice none 0 0, .slice none 0 0, .slice none 0 0, .slice none 0 0, .slice none 0 0, .slice none 0 0, .slice none 0 0, .slice none 0 0, .slice none 0 0, .slice none 0 0, .int .i64 0] 37) := ⟨_, rfl⟩
 have hb4 : Below w.heap.size w w4 := by rw [hw4]; exact (((((Below.refl _ _).alloc (Nat.le_refl _) _).alloc (by simp) _).alloc (by simp; omega) _).alloc (by simp; omega) _).alloc (by simp; omega) _
 have hs4 : w4.heap.size = w.heap.size + 5 := by rw [hw4]; simp
 have b0 : w4.heap[w.heap.size]? = some (.cells #[.slice none 0 0, .slice none 0 0, .slice none 0 0, .slice none 0 0, .slice none 0 0, .slice none 0 0, .slice none 0 0, .slice none 0 0, .slice none 0 0, .slice none 0 0, .slice none 0 0, .slice none 0 0, .slice none 0 0, .slice none 0 0, .int .i64 0] 37 (0, 0)) := by
  rw [hw4]
  exact (Below.heap_alloc _ _ _ (by simp; omega)).trans ((Below.heap_alloc _ _ _ (by simp; omega)).trans ((Below.heap_alloc _ _ _ (by simp; omega)).trans ((Below.heap_alloc _ _ _ (by simp)).trans (heap_alloc_new _ _))))
 have b1 : w4.heap[w.heap.size + 1]? = some (.cells #[.string ⟨#[110, 117, 116]⟩, .string ⟨#[98, 111, 120]⟩, .int .i64 12, .string ⟨#[]⟩, .int .i64 0, .string ⟨#[]⟩, .int .i64 0, .string ⟨#[]⟩, .int .i64 0, .int .i64 0, .int .i64 0, .bool false, .bool false, .bool false] 87 (0, 0)) := by
  rw [hw4]
  have hq := heap_alloc_new (w.alloc (.cells #[.slice none 0 0, .slice none 0 0, .slice none 0 0, .slice none 0 0, .slice none 0 0, .slice none 0 0, .slice none 0 0, .slice none 0 0, .slice none 0 0, .slice none 0 0, .slice none 0 0, .slice none 0 0, .slice none 0 0, .slice none 0 0, .int .i64 0] 37)) (.cells #[.string ⟨#[110, 117, 116]⟩, .string ⟨#[98, 111, 120]⟩, .int .i64 12, .string ⟨#[]⟩, .int .i64 0, .string ⟨#[]⟩, .int .i64 0, .string ⟨#[]⟩, .int .i64 0, .int .i64 0, .int .i64 0, .bool false, .bool false, .bool false] 87)
  exact (Below.heap_alloc _ _ _ (by simp)).trans ((Below.heap_alloc _ _ _ (by simp)).trans ((Below.heap_alloc _ _ _ (by simp)).trans (by simpa using hq)))
 have b2 : w4.heap[w.heap.size + 2]? = some (.cells #[.string ⟨#[122]⟩, .string ⟨#[115]⟩] 93 (0, 0)) := by
  rw [hw4]
  have hq := heap_alloc_new ((w.alloc (.cells #[.slice none 0 0, .slice none 0 0, .slice none 0 0, .slice none 0 0, .slice none 0 0, .slice none 0 0, .slice none 0 0, .slice none 0 0, .slice none 0 0, .slice none 0 0, .slice none 0 0, .slice none 0 0, .slice none 0 0, .slice none 0 0, .int .i64 0] 37)).alloc (.cells #[.string ⟨#[110, 117, 116]⟩, .string ⟨#[98, 111, 120]⟩, .int .i64 12, .string ⟨#[]⟩, .int .i64 0, .string ⟨#[]⟩, .int .i64 0, .string ⟨#[]⟩, .int .i64 0, .int .i64 0, .int .i64 0, .bool false, .bool false, .bool false] 87)) (.cells #[.string ⟨#[122]⟩, .string ⟨#[115]⟩] 93)
  exact (Below.heap_alloc _ _ _ (by simp)).trans ((Below.heap_alloc _ _ _ (by simp)).trans (by simpa using hq))
 have b3 : w4.heap[w.heap.size + 3]? = some (.cells #[.string ⟨#[100]⟩, .string ⟨#[122]⟩, .int .i64 2, .int .i64 0, .int .i64 0, .int .i64 0, .int .i64 0, .bool false] 64 (0, 0)) := by
  rw [hw4]
  have hq := heap_alloc_new (((w.alloc (.cells #[.slice none 0 0, .slice none 0 0, .slice none 0 0, .slice none 0 0, .slice none 0 0, .slice none 0 0, .slice none 0 0, .slice none 0 0, .slice none 0 0, .slice none 0 0, .slice none 0 0, .slice none 0 0, .slice none 0 0, .slice none 0 0, .int .i64 0] 37)).alloc (.cells #[.string ⟨#[110, 117, 116]⟩, .string ⟨#[98, 111, 120]⟩, .int .i64 12, .string ⟨#[]⟩, .int .i64 0, .string ⟨#[]⟩, .int .i64 0, .string ⟨#[]⟩, .int .i64 0, .int .i64 0, .int .i64 0, .bool false, .bool false, .bool false] 87)).alloc (.cells #[.string ⟨#[122]⟩, .string ⟨#[115]⟩] 93)) (.cells #[.string ⟨#[100]⟩, .string ⟨#[122]⟩, .int .i64 2, .int .i64 0, .int .i64 0, .int .i64 0, .int .i64 0, .bool false] 64)
  exact (Below.heap_alloc _ _ _ (by simp)).trans (by simpa using hq)
 have b4 : w4.heap[w.heap.size + 4]? = some (.cells #[.slice (some ⟨w.heap.size + 1, 0, none⟩) 1 1, .slice none 0 0, .slice (some ⟨w.heap.size + 1 + 1, 0, none⟩) 1 1, .slice (some ⟨w.heap.size + 1 + 1 + 1, 0, none⟩) 1 1, .slice none 0 0, .slice none 0 0, .slice none 0 0, .slice none 0 0, .slice none 0 0, .slice none 0 0, .slice none 0 0, .slice none 0 0, .slice none 0 0, .slice none 0 0, .int .i64 0] 37 (0, 0)) := by
  rw [hw4]
  have hq := heap_alloc_new ((((w.alloc (.cells #[.slice none 0 0, .slice none 0 0, .slice none 0 0, .slice none 0 0, .slice none 0 0, .slice none 0 0, .slice none 0 0, .slice none 0 0, .slice none 0 0, .slice none 0 0, .slice none 0 0, .slice none 0 0, .slice none 0 0, .slice none 0 0, .int .i64 0] 37)).alloc (.cells #[.string ⟨#[110, 117, 116]⟩, .string ⟨#[98, 111, 120]⟩, .int .i64 12, .string ⟨#[]⟩, .int .i64 0, .string ⟨#[]⟩, .int .i64 0, .string ⟨#[]⟩, .int .i64 0, .int .i64 0, .int .i64 0, .bool false, .bool false, .bool false] 87)).alloc (.cells #[.string ⟨#[122]⟩, .string ⟨#[115]⟩] 93)).alloc (.cells #[.string ⟨#[100]⟩, .string ⟨#[122]⟩, .int .i64 2, .int .i64 0, .int .i64 0, .int .i64 0, .int .i64 0, .bool false] 64)) (.cells #[.slice (some ⟨w.heap.size + 1, 0, none⟩) 1 1, .slice none 0 0, .slice (some ⟨w.heap.size + 1 + 1, 0, none⟩) 1 1, .slice (some ⟨w.heap.size + 1 + 1 + 1, 0, none⟩) 1 1, .slice none 0 0, .slice none 0 0, .slice none 0 0, .slice none 0 0, .slice none 0 0, .slice none 0 0, .slice none 0 0, .slice none 0 0, .slice none 0 0, .slice none 0 0, .int .i64 0] 37)
  simpa using hq
 have HW4 := Lib.hid hw4
 obtain ⟨w5, hw5⟩ : ∃ W, W = (w4.setCell ⟨w.heap.size + 1 + 1 + 1 + 1, 6, none⟩ (.slice (some ⟨w4.heap.size, 0, none⟩) 1 1)).alloc (.cells #[.string ⟨#[110]⟩, .string ⟨#[115]⟩, .string ⟨#[110, 117, 116]⟩, .int .i64 20, .int .i64 0, .int .i64 0, .int .i64 0, .int .i64 0, .string ⟨#[]⟩, .int .i64 0, .int .i64 0, .int .i64 0, .int .i64 0, .int .i64 0, .string ⟨#[]⟩, .int .i64 0, .int .i64 0, .int .i64 0, .int .i64 0, .int .i64 0, .string ⟨#[]⟩, .int .i64 0, .int .i64 0, .int .i64 0, .int .i64 0, .int .i64 0, .string ⟨#[]⟩, .int .i64 0, .int .i64 0, .int .i64 0, .int .i64 0, .int .i64 0, .string ⟨#[]⟩, .int .i64 0, .int .i64 0, .int .i64 0, .int .i64 0, .int .i64 0, .string ⟨#[]⟩, .int .i64 0, .int .i64 0, .int .i64 0, .int .i64 0, .int .i64 0, .string ⟨#[]⟩, .int .i64 0, .int .i64 0, .int .i64 0, .int .i64 0, .int .i64 0, .bool false] 42) := ⟨_, rfl⟩
 have hb5 : Below w.heap.size w w5 := by rw [hw5]; exact (hb4.setCell (by show w.heap.size ≤ w.heap.size + 1 + 1 + 1 + 1; omega) _).alloc (by have := hb4.size; simpa [World.setCell] using this) _
 have hs5 : w5.heap.size = w.heap.size + 6 := by rw [hw5]; simp [World.setCell]; omega
 have sc5 : ∀ g o, w.heap.size + 4 ≠ g → g < w4.heap.size → w4.heap[g]? = some o → w5.heap[g]? = some o := fun g o hg hl h => by
  rw [hw5]; exact (Below.heap_alloc _ _ _ (by simpa [World.setCell] using hl)).trans ((block_setCell_other (Ne.symm hg) _).trans h)
 have c0 := sc5 w.heap.size _ (by omega) (by omega) b0
 have c1 := sc5 (w.heap.size + 1) _ (by omega) (by omega) b1
 have c2 := sc5 (w.heap.size + 2) _ (by omega) (by omega) b2
 have c3 := sc5 (w.heap.size + 3) _ (by omega) (by omega) b3
 have c4 : w5.heap[w.heap.size + 4]? = some (.cells #[.slice (some ⟨w.heap.size + 1, 0, none⟩) 1 1, .slice none 0 0, .slice (some ⟨w.heap.size + 1 + 1, 0, none⟩) 1 1, .slice (some ⟨w.heap.size + 1 + 1 + 1, 0, none⟩) 1 1, .slice none 0 0, .slice none 0 0, .slice (some ⟨w.heap.size + 5, 0, none⟩) 1 1, .slice none 0 0, .slice none 0 0, .slice none 0 0, .slice none 0 0, .slice none 0 0, .slice none 0 0, .slice none 0 0, .int .i64 0] 37 (0, 0)) := by
  rw [hw5, (Below.heap_alloc _ _ _ (by have := lt_of_block b4; simpa [World.setCell] using this)).trans (block_setCell b4 _), hs4]; rfl
 have c5 : w5.heap[w.heap.size + 5]? = some (.cells exN.toArray 42 (0, 0)) := by
  rw [hw5]
  have hq := heap_alloc_new (w4.setCell ⟨w.heap.size + 1 + 1 + 1 + 1, 6, none⟩ (.slice (some ⟨w4.heap.size, 0, none⟩) 1 1)) (.cells #[.string ⟨#[110]⟩, .string ⟨#[115]⟩, .string ⟨#[110, 117, 116]⟩, .int .i64 20, .int .i64 0, .int .i64 0, .int .i64 0, .int .i64 0, .string ⟨#[]⟩, .int .i64 0, .int .i64 0, .int .i64 0, .int .i64 0, .int .i64 0, .string ⟨#[]⟩, .int .i64 0, .int .i64 0, .int .i64 0, .int .i64 0, .int .i64 0, .string ⟨#[]⟩, .int .i64 0, .int .i64 0, .int .i64 0, .int .i64 0, .int .i64 0, .string ⟨#[]⟩, .int .i64 0, .int .i64 0, .int .i64 0, .int .i64 0, .int .i64 0, .string ⟨#[]⟩, .int .i64 0, .int .i64 0, .int .i64 0, .int .i64 0, .int .i64 0, .string ⟨#[]⟩, .int .i64 0, .int .i64 0, .int .i64 0, .int .i64 0, .int .i64 0, .string ⟨#[]⟩, .int .i64 0, .int .i64 0, .int .i64 0, .int .i64 0, .int .i64 0, .bool false] 42)
  rw [show (w4.setCell ⟨w.heap.size + 1 + 1 + 1 + 1, 6, none⟩ (.slice (some ⟨w4.heap.size, 0, none⟩) 1 1)).heap.size = w.heap.size + 5 from by simp only [World.setCell, Array.size_modify]; exact hs4] at hq
  exact hq
 have HW5 := Lib.hid hw5
 obtain ⟨a, ha⟩ : ∃ a : Hs, a = ⟨fun i => if i = 0 then some ⟨w.heap.size + 1, 0, none⟩ else if i = 2 then some ⟨w.heap.size + 2, 0, none⟩ else if i = 3 then some ⟨w.heap.size + 3, 0, none⟩ else if i = 6 then some ⟨w.heap.size + 5, 0, none⟩ else none, fun i => if i = 0 ∨ i = 2 ∨ i = 3 ∨ i = 6 then 1 else 0, fun i => if i = 0 ∨ i = 2 ∨ i = 3 ∨ i = 6 then 1 else 0, 0⟩ := ⟨_, rfl⟩
 have e4a : w5.heap[w.heap.size + 4]? = some (.cells a.cells 37 (0, 0)) := by rw [c4, ha]; rfl
 obtain ⟨w8, hw8⟩ : ∃ W, W = w5.setRow w.heap.size a.cells := ⟨_, rfl⟩
 have hb8 : Below w.heap.size w w8 := by rw [hw8]; exact setRow_below hb5 (Nat.le_refl _) _
 have sc8 : ∀ g o, w.heap.size ≠ g → w5.heap[g]? = some o → w8.heap[g]? = some o := fun g o hg h => by
  rw [hw8]; exact (setRow_other _ _ _ _ (Ne.symm hg)).trans h
 have f1 := sc8 (w.heap.size + 1) _ (by omega) c1
 have f2 := sc8 (w.heap.size + 2) _ (by omega) c2
 have f3 := sc8 (w.heap.size + 3) _ (by omega) c3
 have f5 := sc8 (w.heap.size + 5) _ (by omega) c5
 have hs8 : w8.heap.size = w.heap.size + 6 := by rw [hw8]; simpa using hs5
 have f0 : w8.heap[w.heap.size]? = some (.cells a.cells 37 (0, 0)) := by rw [hw8]; exact setRow_heap _ _ _ _ _ _ c0
 have rd : ∀ (g : Nat) (x : List Value) (t : TypeId), g < w8.heap.size → w8.heap[g]? = some (.cells x.toArray t (0, 0)) → Rd w8 w8.heap.size (some ⟨g, 0, none⟩) [x].flatten := fun g x t hg h _ => ⟨g, 0, rfl, hg, fun j u hu => by
  rw [Nat.zero_add, cell_of_block h, List.getElem?_toArray]
  simpa using hu⟩
 have ht : HT a exL w8 := fun i hi => by
  by_cases h0 : i = 0
  · subst h0; rw [ha]; exact ⟨rfl, by show (1 : Nat) ≤ _; omega, Things.one (fits_of (by decide)), rd _ _ _ (by omega) f1⟩
  · by_cases h2 : i = 2
    · subst h2; rw [ha]; exact ⟨rfl, by show (1 : Nat) ≤ _; omega, Things.one (fits_of (by decide)), rd _ _ _ (by omega) f2⟩
    · by_cases h3 : i = 3
      · subst h3; rw [ha]; exact ⟨rfl, by show (1 : Nat) ≤ _; omega, Things.one (fits_of (by decide)), rd _ _ _ (by omega) f3⟩
      · by_cases h6 : i = 6
        · subst h6; rw [ha]; exact ⟨rfl, by show (1 : Nat) ≤ _; omega, Things.one (fits_of (by decide)), rd _ _ _ (by omega) f5⟩
        · have e : exL i = [] := by unfold exL; rw [if_neg h0, if_neg h2, if_neg h3, if_neg h6]
          have hor : ¬ (i = 0 ∨ i = 2 ∨ i = 3 ∨ i = 6) := by omega
          rw [e, ha]
          refine ⟨by simp only []; rw [if_neg hor]; rfl, by simp only []; rw [if_neg hor]; omega, fun e he => by simp at he, ?_⟩
          simp only []
          rw [if_neg h0, if_neg h2, if_neg h3, if_neg h6]
          exact Rd.none_
 have hc : Caps a := fun i hi => by
  rw [ha]
  simp only []
  split <;> omega
 have hoff : ∀ g, g ≤ w.heap.size → Off g a exL := fun g hg i hi hne p hp => by
  rw [ha] at hp
  simp only [] at hp
  have : p.block ≠ g := by
   split at hp
   · injection hp with hp; subst hp; show w.heap.size + 1 ≠ g; omega
   · split at hp
     · injection hp with hp; subst hp; show w.heap.size + 2 ≠ g; omega
     · split at hp
       · injection hp with hp; subst hp; show w.heap.size + 3 ≠ g; omega
       · split at hp
         · injection hp with hp; subst hp; show w.heap.size + 5 ≠ g; omega
         · cases hp
  exact this
 have HFIN : Hid (∃ a' : Hs, Ending.returned (.agg a.cells) = .returned (.agg a'.cells) ∧ HT a' exL w8 ∧ Caps a' ∧ a'.z = 0 ∧ a'.n 4 ≤ 1000 ∧ a'.n 6 ≤ 1000 ∧ a'.n 13 ≤ 1000 ∧ Below w.heap.size w w8 ∧ (∀ g, g ≤ w.heap.size → Off g a' exL)) := Lib.hid ⟨a, rfl, ht, hc, by rw [ha], by rw [ha]; show (0 : Nat) ≤ 1000; omega, by rw [ha]; show (1 : Nat) ≤ 1000; omega, by rw [ha]; show (0 : Nat) ≤ 1000; omega, hb8, hoff⟩
 have E0 := Lib.hid c0
 have E4A := Lib.hid e4a
 have F0 := Lib.hid f0
 have HW8 := Lib.hid hw8
 have y3 : w4.cell? ⟨w.heap.size + 4, 6, none⟩ = some (.slice none 0 0) := by rw [cell_of_block b4]; rfl
 have y4 : w4.frozen? ⟨w.heap.size + 4, 6, none⟩ = false := frozen_of_block b4
 have y5 : w.heap.size + 4 < w4.heap.size := by omega
 have HY := Lib.hid (And.intro y3 (And.intro y4 y5))
 clear hoff y3 y4 y5 f0 f1 f2 f3 f5 rd ht hc hs8 sc8 hb8 hw8 e4a c0 c1 c2 c3 c4 c5 sc5 hs5 hb5 hw5 b0 b1 b2 b3 b4 hs4 hb4 hw4 ha
 go_enter Tryz.func28, Tryz.ntmps28
 go_upto_region 2 with fail
 rw [← HW4.out]
 obtain ⟨y3, y4, y5⟩ := HY.out
 go_upto_region 3 with fail
 rw [← HW5.out]
 clear y3 y4 y5
 go_wp2_with (first
  | (refine wpList_load_row rfl 37 (.tmp 1) rfl (w.heap.size + 4) rfl _ _ _ _ E4A.out huh rfl (HSH.out _) ?_)
  | (refine wpList_store_row rfl 37 (.tmp 0) (.tmp 16) rfl w.heap.size a.cells rfl rfl _ _ E0.out (HSH.out _) rfl (H1C.out _) ?_; rw [← HW8.out])
  | fail)
 exact bodyPost_ret (results_cell_row rfl _ _ w.heap.size _ _ _ _ rfl F0.out huh rfl (HSH.out a)) rfl HFIN.out
/-- The house behind a box, behind eight more. -/
def exA : Nat → List (List Value) := (setX (recE exL (Cm.mk ⟨#[110]⟩ ⟨#[110, 117, 116]⟩ ⟨#[98, 111, 120]⟩ 1 ⟨#[]⟩ ⟨#[100]⟩)) (recM exL (Cm.mk ⟨#[110]⟩ ⟨#[110, 117, 116]⟩ ⟨#[98, 111, 120]⟩ 1 ⟨#[]⟩ ⟨#[100]⟩)))
def exB : Nat → List (List Value) := (setX (recE exA (Cm.mk ⟨#[110]⟩ ⟨#[110, 117, 116]⟩ ⟨#[101, 97, 99, 104]⟩ 8 ⟨#[]⟩ ⟨#[100]⟩)) (recM exA (Cm.mk ⟨#[110]⟩ ⟨#[110, 117, 116]⟩ ⟨#[101, 97, 99, 104]⟩ 8 ⟨#[]⟩ ⟨#[100]⟩)))
set_option maxRecDepth 100000 in
set_option maxHeartbeats 6400000 in
/-- The chapter's examples hold. -/
theorem awake_any (C : Cons) (w : World) : Calls Tryz.prog 10 #[] w fun e w' => e = .returned (.bool true) ∧ Below w.heap.size w w' := by
 have huh := Tryz.underlying37
 have HSH : Hid (∀ a : Hs, (Tryz.prog.info? 37).map (·.size) = some a.cells.size) := Lib.hid (fun a => by kernel_rfl)
 have HSHL : Hid (∀ a : Hs, (Tryz.prog.info? 37).map (·.size) = some a.cells.toList.length) := Lib.hid (fun a => by kernel_rfl)
 have H1C : Hid (∀ a : Hs, a.cells.all (·.oneCell') = true) := Lib.hid (fun a => by simp [Hs.cells, Value.oneCell'])
 have huCame := Tryz.underlying54
 have HSCame : Hid ((Tryz.prog.info? 54).map (·.size) = some 6) := Lib.hid (by kernel_rfl)
 have E1 : Hid (((recE exL (Cm.mk ⟨#[110]⟩ ⟨#[110, 117, 116]⟩ ⟨#[98, 111, 120]⟩ 1 ⟨#[]⟩ ⟨#[100]⟩) : Nat) : Int) = 0) := Lib.hid (by decide +kernel)
 have E2 : Hid (((recE exA (Cm.mk ⟨#[110]⟩ ⟨#[110, 117, 116]⟩ ⟨#[98, 111, 120]⟩ 1 ⟨#[]⟩ ⟨#[100]⟩) : Nat) : Int) = 29) := Lib.hid (by decide +kernel)
 have E3 : Hid (((recE exA (Cm.mk ⟨#[110]⟩ ⟨#[110, 117, 116]⟩ ⟨#[101, 97, 99, 104]⟩ 8 ⟨#[]⟩ ⟨#[100]⟩) : Nat) : Int) = 0) := Lib.hid (by decide +kernel)
 have E4 : Hid (((recE exB (Cm.mk ⟨#[110]⟩ ⟨#[110, 117, 116]⟩ ⟨#[101, 97, 99, 104]⟩ 1 ⟨#[]⟩ ⟨#[100]⟩) : Nat) : Int) = 29) := Lib.hid (by decide +kernel)
 have E5 : Hid (stockQ (exA 4) ⟨#[110, 117, 116]⟩ ⟨#[]⟩ = 12) := Lib.hid (by decide +kernel)
 have E6 : Hid (stockQ (exB 4) ⟨#[110, 117, 116]⟩ ⟨#[]⟩ = 20) := Lib.hid (by decide +kernel)
 have ELA : Hid ((exA 4).length ≤ 1000 ∧ (exA 6).length ≤ 1000 ∧ (exA 13).length ≤ 1000) := Lib.hid (by decide +kernel)
 have ELB : Hid ((exB 4).length ≤ 1000 ∧ (exB 6).length ≤ 1000 ∧ (exB 13).length ≤ 1000) := Lib.hid (by decide +kernel)
 have HCO := Lib.hid C
 have B0 := Lib.hid (Below.refl w.heap.size w)
 have hwf1 : Wf 1 := by unfold Wf; omega
 have hwf8 : Wf 8 := by unfold Wf; omega
 have HW18 := Lib.hid (And.intro hwf1 hwf8)
 clear hwf1 hwf8
 obtain ⟨w1, hw1⟩ : ∃ W, W = ((w.alloc (.cells #[.string ⟨#[110]⟩, .string ⟨#[110, 117, 116]⟩, .string ⟨#[98, 111, 120]⟩, .int .i64 1, .string ⟨#[]⟩, .string ⟨#[100]⟩] 54)).alloc (.cells #[.string ⟨#[110]⟩, .string ⟨#[110, 117, 116]⟩, .string ⟨#[101, 97, 99, 104]⟩, .int .i64 8, .string ⟨#[]⟩, .string ⟨#[100]⟩] 54)).alloc (.cells #[.string ⟨#[110]⟩, .string ⟨#[110, 117, 116]⟩, .string ⟨#[101, 97, 99, 104]⟩, .int .i64 1, .string ⟨#[]⟩, .string ⟨#[100]⟩] 54) := ⟨_, rfl⟩
 have B1 : Hid (Below w.heap.size w w1) := Lib.hid (by rw [hw1]; exact (((Below.refl _ _).alloc (Nat.le_refl _) _).alloc (by simp) _).alloc (by simp; omega) _)
 have HX1 : Hid (w1.heap[w.heap.size]? = some (.cells #[.string ⟨#[110]⟩, .string ⟨#[110, 117, 116]⟩, .string ⟨#[98, 111, 120]⟩, .int .i64 1, .string ⟨#[]⟩, .string ⟨#[100]⟩] 54 (0, 0))) := Lib.hid (by rw [hw1]; exact (Below.heap_alloc _ _ _ (by simp; omega)).trans ((Below.heap_alloc _ _ _ (by simp)).trans (heap_alloc_new _ _)))
 have HY1 : Hid (w1.heap[w.heap.size + 1]? = some (.cells #[.string ⟨#[110]⟩, .string ⟨#[110, 117, 116]⟩, .string ⟨#[101, 97, 99, 104]⟩, .int .i64 8, .string ⟨#[]⟩, .string ⟨#[100]⟩] 54 (0, 0))) := Lib.hid (by
  rw [hw1]
  have hq := heap_alloc_new (w.alloc (.cells #[.string ⟨#[110]⟩, .string ⟨#[110, 117, 116]⟩, .string ⟨#[98, 111, 120]⟩, .int .i64 1, .string ⟨#[]⟩, .string ⟨#[100]⟩] 54)) (.cells #[.string ⟨#[110]⟩, .string ⟨#[110, 117, 116]⟩, .string ⟨#[101, 97, 99, 104]⟩, .int .i64 8, .string ⟨#[]⟩, .string ⟨#[100]⟩] 54)
  exact (Below.heap_alloc _ _ _ (by simp)).trans (by simpa using hq))
 have HZ1 : Hid (w1.heap[w.heap.size + 2]? = some (.cells #[.string ⟨#[110]⟩, .string ⟨#[110, 117, 116]⟩, .string ⟨#[101, 97, 99, 104]⟩, .int .i64 1, .string ⟨#[]⟩, .string ⟨#[100]⟩] 54 (0, 0))) := Lib.hid (by
  rw [hw1]
  have hq := heap_alloc_new ((w.alloc (.cells #[.string ⟨#[110]⟩, .string ⟨#[110, 117, 116]⟩, .string ⟨#[98, 111, 120]⟩, .int .i64 1, .string ⟨#[]⟩, .string ⟨#[100]⟩] 54)).alloc (.cells #[.string ⟨#[110]⟩, .string ⟨#[110, 117, 116]⟩, .string ⟨#[101, 97, 99, 104]⟩, .int .i64 8, .string ⟨#[]⟩, .string ⟨#[100]⟩] 54)) (.cells #[.string ⟨#[110]⟩, .string ⟨#[110, 117, 116]⟩, .string ⟨#[101, 97, 99, 104]⟩, .int .i64 1, .string ⟨#[]⟩, .string ⟨#[100]⟩] 54)
  simpa using hq)
 have HY0 : Hid (((w.alloc (.cells #[.string ⟨#[110]⟩, .string ⟨#[110, 117, 116]⟩, .string ⟨#[98, 111, 120]⟩, .int .i64 1, .string ⟨#[]⟩, .string ⟨#[100]⟩] 54)).alloc (.cells #[.string ⟨#[110]⟩, .string ⟨#[110, 117, 116]⟩, .string ⟨#[101, 97, 99, 104]⟩, .int .i64 8, .string ⟨#[]⟩, .string ⟨#[100]⟩] 54)).heap[w.heap.size + 1]? = some (.cells #[.string ⟨#[110]⟩, .string ⟨#[110, 117, 116]⟩, .string ⟨#[101, 97, 99, 104]⟩, .int .i64 8, .string ⟨#[]⟩, .string ⟨#[100]⟩] 54 (0, 0))) := Lib.hid (by
  have hq := heap_alloc_new (w.alloc (.cells #[.string ⟨#[110]⟩, .string ⟨#[110, 117, 116]⟩, .string ⟨#[98, 111, 120]⟩, .int .i64 1, .string ⟨#[]⟩, .string ⟨#[100]⟩] 54)) (.cells #[.string ⟨#[110]⟩, .string ⟨#[110, 117, 116]⟩, .string ⟨#[101, 97, 99, 104]⟩, .int .i64 8, .string ⟨#[]⟩, .string ⟨#[100]⟩] 54)
  simpa using hq)
 have HW1 := Lib.hid hw1
 clear hw1
 go_enter Tryz.func10, Tryz.ntmps10
 go_upto_region 5 with (first
  | (refine wpList_load_row rfl 54 (.tmp 2) rfl (w.heap.size + 1) rfl _ _ _ _ HY0.out huCame rfl HSCame.out ?_)
  | fail)
 rw [← HW1.out]
 clear HY0
 go_wp2_with fail
 have HST : Hid (∀ X, Below w1.heap.size w1 X → X.rangeAt w.heap.size 0 [.string ⟨#[110]⟩, .string ⟨#[110, 117, 116]⟩, .string ⟨#[98, 111, 120]⟩, .int .i64 1, .string ⟨#[]⟩, .string ⟨#[100]⟩]) := Lib.hid (fun X hX => range_row0 ((hX.block _ (lt_of_block HX1.out)).trans HX1.out))
 apply region_to3 (R := fun g (p : Hs) (a1 : Hs) W => Hid (Below w1.heap.size w1 W ∧ w1.heap.size ≤ g ∧ W.heap[g]? = some (.cells p.cells 37 (0, 0)) ∧ (HT p exA W ∧ Caps p)))
 · refine wp_region_held_drew (S := (fun w' => w'.rangeAt w.heap.size 0 [.string ⟨#[110]⟩, .string ⟨#[110, 117, 116]⟩, .string ⟨#[98, 111, 120]⟩, .int .i64 1, .string ⟨#[]⟩, .string ⟨#[100]⟩])) (by kernel_rfl) (HST.out _ (Below.refl w1.heap.size w1).drew) (fun dd0 => ?_)
   refine tkY 1 (.agg #[.string ⟨#[110]⟩, .string ⟨#[110, 117, 116]⟩, .string ⟨#[98, 111, 120]⟩, .int .i64 1, .string ⟨#[]⟩, .string ⟨#[100]⟩]) rfl (yieldsIf_load_mid (by kernel_rfl) 54 (.tmp 1) rfl w.heap.size 0 rfl [.string ⟨#[110]⟩, .string ⟨#[110, 117, 116]⟩, .string ⟨#[98, 111, 120]⟩, .int .i64 1, .string ⟨#[]⟩, .string ⟨#[100]⟩] _ (fun w h => h) huCame rfl HSCame.out) ?_
   (try simp only [ax])
   refine wpAnyH_ready (rs := [0, 6]) (by kernel_rfl) (by simp) ?_
   refine AllReadyH.cons rfl (fun K' hK => ?_) (AllReadyH.cons rfl (fun K' hK => ?_) AllReadyH.nil)
   ·
    go_simp
    refine (small_any w1.drew).mono ?_
    rintro e y1 ⟨a1, rfl, hta, hca, hza, hn4, hn6, hn13, hb1, hofa⟩
    have BY1 := Lib.hid ((Below.refl w1.heap.size w1).drew.trans (hb1.mono (Below.refl w1.heap.size w1).drew.size))
    have HTA := Lib.hid hta
    have HCA := Lib.hid hca
    have HNA := Lib.hid (And.intro hn4 (And.intro hn6 hn13))
    clear hta hca hza hn4 hn6 hn13
    refine hK.out _ _ (HST.out _ BY1.out) (fun _ => ?_)
    clear hK K'
    (try simp only [ax])
    refine wpAnyH_ready (rs := [2, 6]) (by kernel_rfl) (by simp) ?_
    refine AllReadyH.cons rfl (fun K' hK => ?_) (AllReadyH.cons rfl (fun K' hK => ?_) AllReadyH.nil)
    ·
     go_simp
     refine (HCO.out.recv a1 exL (Cm.mk ⟨#[110]⟩ ⟨#[110, 117, 116]⟩ ⟨#[98, 111, 120]⟩ 1 ⟨#[]⟩ ⟨#[100]⟩) y1 HTA.out (Nat.le_trans HNA.out.1 (by decide)) (Nat.le_trans HNA.out.2.1 (by decide)) (Nat.le_trans HNA.out.2.2 (by decide)) HCA.out HW18.out.1).mono ?_
     rintro e y2 ⟨hb2, p, rfl, htp, hzp, hcp, hofp⟩
     have BY2 := Lib.hid (BY1.out.trans (hb2.mono BY1.out.size))
     rw [E1.out]
     have HCP := Lib.hid hcp
     clear hcp
     have HTA := Lib.hid (HTA.out.below hb2)
     have HTP := Lib.hid htp
     have HZP := Lib.hid hzp
     clear htp hzp hofp
     refine hK.out _ _ (HST.out _ BY2.out) (fun _ => ?_)
     clear hK K'
     (try simp only [ax])
     refine tkN 3 (.tuple #[.agg p.cells, .int .i64 0]) rfl ?_
     (try simp only [ax])
     refine tkN 4 (.agg p.cells) rfl ?_
     (try simp only [ax])
     refine tkN 5 (.int .i64 0) rfl ?_
     (try simp only [ax])
     refine wpAnyH_ready (rs := [6]) (by kernel_rfl) (by simp) ?_
     refine AllReadyH.cons rfl (fun K' hK => ?_) AllReadyH.nil
     go_simp
     obtain ⟨y3, hy3⟩ : ∃ W, W = (y2.alloc (.cells #[.slice none 0 0, .slice none 0 0, .slice none 0 0, .slice none 0 0, .slice none 0 0, .slice none 0 0, .slice none 0 0, .slice none 0 0, .slice none 0 0, .slice none 0 0, .slice none 0 0, .slice none 0 0, .slice none 0 0, .slice none 0 0, .int .i64 0] 37)) := ⟨_, rfl⟩
     obtain ⟨g, hg⟩ : ∃ g, g = y2.heap.size := ⟨_, rfl⟩
     have HGW : Hid (w1.heap.size ≤ g) := Lib.hid (by rw [hg]; exact BY2.out.size)
     have hb3 : Below y2.heap.size y2 y3 := by rw [hy3]; exact ((Below.refl _ _).alloc (Nat.le_refl _) _)
     have BY3 := Lib.hid (BY2.out.trans (hb3.mono BY2.out.size))
     have HGX : Hid (y3.heap[g]? = some (.cells #[.slice none 0 0, .slice none 0 0, .slice none 0 0, .slice none 0 0, .slice none 0 0, .slice none 0 0, .slice none 0 0, .slice none 0 0, .slice none 0 0, .slice none 0 0, .slice none 0 0, .slice none 0 0, .slice none 0 0, .slice none 0 0, .int .i64 0] 37 (0, 0))) := Lib.hid (by rw [hy3, hg]; exact heap_alloc_new y2 _)
     have HGE : Hid (g < y3.heap.size) := Lib.hid (lt_of_block HGX.out)
     rw [← hy3, ← hg]
     have HOFP := Lib.hid (HTP.out.offge (Nat.le_of_eq hg.symm))
     have HTP := Lib.hid (HTP.out.below hb3)
     have HOA := Lib.hid (HTA.out.offge (Nat.le_of_eq hg.symm))
     have HTA := Lib.hid (HTA.out.below hb3)
     refine hK.out _ _ (HST.out _ BY3.out) (fun _ => ?_)
     clear hK K' hy3 hb3 hg
     (try simp only [ax])
     refine wpAnyH_ready (rs := [7]) (by kernel_rfl) (by simp) ?_
     refine AllReadyH.cons rfl (fun K' hK => ?_) AllReadyH.nil
     rw [if_pos (by kernel_rfl)]
     refine wp_store_row 37 (.tmp 4) (.tmp 20) rfl g p.cells rfl rfl _ _ HGX.out (HSH.out _) rfl (H1C.out _) ?_
     obtain ⟨y4, hy4⟩ : ∃ W, W = y3.setRow g p.cells := ⟨_, rfl⟩
     have BY4 : Hid (Below w1.heap.size w1 y4) := Lib.hid (by rw [hy4]; exact setRow_below BY3.out HGW.out _)
     have HGY : Hid (y4.heap[g]? = some (.cells p.cells 37 (0, 0))) := Lib.hid (by rw [hy4]; exact setRow_heap _ _ _ _ _ _ HGX.out)
     have HTQ := Lib.hid (HTP.out.setRowOff HOFP.out p.cells)
     rw [← hy4] at HTQ
     have HTP := HTQ
     rw [← hy4]
     have HGX := HGY
     refine hK.out _ _ (HST.out _ BY4.out) (fun _ => ?_)
     clear hK K' hy4
     (try simp only [Act.put, List.getElem_toArray, List.getElem_cons_succ, List.getElem_cons_zero])
     refine tkN 8 (.int .i64 0) rfl ?_
     (try simp only [ax])
     refine wpAnyH_done (by kernel_rfl) ?_ _
     exact ⟨rfl, g, p, a1, rfl, Lib.hid ⟨BY4.out, HGW.out, HGX.out, ⟨HTP.out, HCP.out HCA.out⟩⟩⟩
    ·
     go_simp
     obtain ⟨y5, hy5⟩ : ∃ W, W = (y1.alloc (.cells #[.slice none 0 0, .slice none 0 0, .slice none 0 0, .slice none 0 0, .slice none 0 0, .slice none 0 0, .slice none 0 0, .slice none 0 0, .slice none 0 0, .slice none 0 0, .slice none 0 0, .slice none 0 0, .slice none 0 0, .slice none 0 0, .int .i64 0] 37)) := ⟨_, rfl⟩
     obtain ⟨g, hg⟩ : ∃ g, g = y1.heap.size := ⟨_, rfl⟩
     have HGW : Hid (w1.heap.size ≤ g) := Lib.hid (by rw [hg]; exact BY1.out.size)
     have hb5 : Below y1.heap.size y1 y5 := by rw [hy5]; exact ((Below.refl _ _).alloc (Nat.le_refl _) _)
     have BY5 := Lib.hid (BY1.out.trans (hb5.mono BY1.out.size))
     have HGX : Hid (y5.heap[g]? = some (.cells #[.slice none 0 0, .slice none 0 0, .slice none 0 0, .slice none 0 0, .slice none 0 0, .slice none 0 0, .slice none 0 0, .slice none 0 0, .slice none 0 0, .slice none 0 0, .slice none 0 0, .slice none 0 0, .slice none 0 0, .slice none 0 0, .int .i64 0] 37 (0, 0))) := Lib.hid (by rw [hy5, hg]; exact heap_alloc_new y1 _)
     have HGE : Hid (g < y5.heap.size) := Lib.hid (lt_of_block HGX.out)
     rw [← hy5, ← hg]
     have HOA := Lib.hid (HTA.out.offge (Nat.le_of_eq hg.symm))
     have HTA := Lib.hid (HTA.out.below hb5)
     refine hK.out _ _ (HST.out _ BY5.out) (fun _ => ?_)
     clear hK K' hy5 hb5 hg
     (try simp only [ax])
     refine wpAnyH_ready (rs := [2]) (by kernel_rfl) (by simp) ?_
     refine AllReadyH.cons rfl (fun K' hK => ?_) AllReadyH.nil
     go_simp
     refine (HCO.out.recv a1 exL (Cm.mk ⟨#[110]⟩ ⟨#[110, 117, 116]⟩ ⟨#[98, 111, 120]⟩ 1 ⟨#[]⟩ ⟨#[100]⟩) y5 HTA.out (Nat.le_trans HNA.out.1 (by decide)) (Nat.le_trans HNA.out.2.1 (by decide)) (Nat.le_trans HNA.out.2.2 (by decide)) HCA.out HW18.out.1).mono ?_
     rintro e y6 ⟨hb6, p, rfl, htp, hzp, hcp, hofp⟩
     have BY6 := Lib.hid (BY5.out.trans (hb6.mono BY5.out.size))
     rw [E1.out]
     have HCP := Lib.hid hcp
     clear hcp
     have HGZ := HGX
     have HGX := Lib.hid ((hb6.block _ (lt_of_block HGX.out)).trans HGX.out)
     have HTA := Lib.hid (HTA.out.below hb6)
     have HTP := Lib.hid htp
     have HZP := Lib.hid hzp
     have HOFP := Lib.hid (hofp g ((HOA.out)) (by have := lt_of_block HGZ.out; exact this))
     clear htp hzp hofp
     refine hK.out _ _ (HST.out _ BY6.out) (fun _ => ?_)
     clear hK K'
     (try simp only [ax])
     refine tkN 3 (.tuple #[.agg p.cells, .int .i64 0]) rfl ?_
     (try simp only [ax])
     refine tkN 4 (.agg p.cells) rfl ?_
     (try simp only [ax])
     refine tkN 5 (.int .i64 0) rfl ?_
     (try simp only [ax])
     refine wpAnyH_ready (rs := [7]) (by kernel_rfl) (by simp) ?_
     refine AllReadyH.cons rfl (fun K' hK => ?_) AllReadyH.nil
     rw [if_pos (by kernel_rfl)]
     refine wp_store_row 37 (.tmp 4) (.tmp 20) rfl g p.cells rfl rfl _ _ HGX.out (HSH.out _) rfl (H1C.out _) ?_
     obtain ⟨y7, hy7⟩ : ∃ W, W = y6.setRow g p.cells := ⟨_, rfl⟩
     have BY7 : Hid (Below w1.heap.size w1 y7) := Lib.hid (by rw [hy7]; exact setRow_below BY6.out HGW.out _)
     have HGY : Hid (y7.heap[g]? = some (.cells p.cells 37 (0, 0))) := Lib.hid (by rw [hy7]; exact setRow_heap _ _ _ _ _ _ HGX.out)
     have HTQ := Lib.hid (HTP.out.setRowOff HOFP.out p.cells)
     rw [← hy7] at HTQ
     have HTP := HTQ
     rw [← hy7]
     have HGX := HGY
     refine hK.out _ _ (HST.out _ BY7.out) (fun _ => ?_)
     clear hK K' hy7
     (try simp only [Act.put, List.getElem_toArray, List.getElem_cons_succ, List.getElem_cons_zero])
     refine tkN 8 (.int .i64 0) rfl ?_
     (try simp only [ax])
     refine wpAnyH_done (by kernel_rfl) ?_ _
     exact ⟨rfl, g, p, a1, rfl, Lib.hid ⟨BY7.out, HGW.out, HGX.out, ⟨HTP.out, HCP.out HCA.out⟩⟩⟩
   ·
    go_simp
    obtain ⟨y8, hy8⟩ : ∃ W, W = (w1.alloc (.cells #[.slice none 0 0, .slice none 0 0, .slice none 0 0, .slice none 0 0, .slice none 0 0, .slice none 0 0, .slice none 0 0, .slice none 0 0, .slice none 0 0, .slice none 0 0, .slice none 0 0, .slice none 0 0, .slice none 0 0, .slice none 0 0, .int .i64 0] 37)).drew := ⟨_, rfl⟩
    obtain ⟨g, hg⟩ : ∃ g, g = w1.heap.size := ⟨_, rfl⟩
    have HGW : Hid (w1.heap.size ≤ g) := Lib.hid (by rw [hg]; exact Nat.le_refl _)
    have hb8 : Below w1.heap.size w1 y8 := by rw [hy8]; exact ((Below.refl _ _).alloc (Nat.le_refl _) _).drew
    have BY8 := Lib.hid (hb8)
    have HGX : Hid (y8.heap[g]? = some (.cells #[.slice none 0 0, .slice none 0 0, .slice none 0 0, .slice none 0 0, .slice none 0 0, .slice none 0 0, .slice none 0 0, .slice none 0 0, .slice none 0 0, .slice none 0 0, .slice none 0 0, .slice none 0 0, .slice none 0 0, .slice none 0 0, .int .i64 0] 37 (0, 0))) := Lib.hid (by rw [hy8, hg]; exact heap_alloc_new w1 _)
    have HGE : Hid (g < y8.heap.size) := Lib.hid (lt_of_block HGX.out)
    rw [← hy8, ← hg]
    refine hK.out _ _ (HST.out _ BY8.out) (fun _ => ?_)
    clear hK K' hy8 hb8 hg
    (try simp only [ax])
    refine wpAnyH_ready (rs := [0]) (by kernel_rfl) (by simp) ?_
    refine AllReadyH.cons rfl (fun K' hK => ?_) AllReadyH.nil
    go_simp
    refine (small_any y8).mono ?_
    rintro e y9 ⟨a1, rfl, hta, hca, hza, hn4, hn6, hn13, hb9, hofa⟩
    have BY9 := Lib.hid (BY8.out.trans (hb9.mono BY8.out.size))
    have HTA := Lib.hid hta
    have HCA := Lib.hid hca
    have HNA := Lib.hid (And.intro hn4 (And.intro hn6 hn13))
    clear hta hca hza hn4 hn6 hn13
    have HGZ := HGX
    have HGX := Lib.hid ((hb9.block _ (lt_of_block HGX.out)).trans HGX.out)
    have HOA := Lib.hid (hofa g (Nat.le_of_lt (lt_of_block HGZ.out)))
    refine hK.out _ _ (HST.out _ BY9.out) (fun _ => ?_)
    clear hK K'
    (try simp only [ax])
    refine wpAnyH_ready (rs := [2]) (by kernel_rfl) (by simp) ?_
    refine AllReadyH.cons rfl (fun K' hK => ?_) AllReadyH.nil
    go_simp
    refine (HCO.out.recv a1 exL (Cm.mk ⟨#[110]⟩ ⟨#[110, 117, 116]⟩ ⟨#[98, 111, 120]⟩ 1 ⟨#[]⟩ ⟨#[100]⟩) y9 HTA.out (Nat.le_trans HNA.out.1 (by decide)) (Nat.le_trans HNA.out.2.1 (by decide)) (Nat.le_trans HNA.out.2.2 (by decide)) HCA.out HW18.out.1).mono ?_
    rintro e y10 ⟨hb10, p, rfl, htp, hzp, hcp, hofp⟩
    have BY10 := Lib.hid (BY9.out.trans (hb10.mono BY9.out.size))
    rw [E1.out]
    have HCP := Lib.hid hcp
    clear hcp
    have HGZ := HGX
    have HGX := Lib.hid ((hb10.block _ (lt_of_block HGX.out)).trans HGX.out)
    have HTA := Lib.hid (HTA.out.below hb10)
    have HTP := Lib.hid htp
    have HZP := Lib.hid hzp
    have HOFP := Lib.hid (hofp g ((HOA.out)) (by have := lt_of_block HGZ.out; exact this))
    clear htp hzp hofp
    refine hK.out _ _ (HST.out _ BY10.out) (fun _ => ?_)
    clear hK K'
    (try simp only [ax])
    refine tkN 3 (.tuple #[.agg p.cells, .int .i64 0]) rfl ?_
    (try simp only [ax])
    refine tkN 4 (.agg p.cells) rfl ?_
    (try simp only [ax])
    refine tkN 5 (.int .i64 0) rfl ?_
    (try simp only [ax])
    refine wpAnyH_ready (rs := [7]) (by kernel_rfl) (by simp) ?_
    refine AllReadyH.cons rfl (fun K' hK => ?_) AllReadyH.nil
    rw [if_pos (by kernel_rfl)]
    refine wp_store_row 37 (.tmp 4) (.tmp 20) rfl g p.cells rfl rfl _ _ HGX.out (HSH.out _) rfl (H1C.out _) ?_
    obtain ⟨y11, hy11⟩ : ∃ W, W = y10.setRow g p.cells := ⟨_, rfl⟩
    have BY11 : Hid (Below w1.heap.size w1 y11) := Lib.hid (by rw [hy11]; exact setRow_below BY10.out HGW.out _)
    have HGY : Hid (y11.heap[g]? = some (.cells p.cells 37 (0, 0))) := Lib.hid (by rw [hy11]; exact setRow_heap _ _ _ _ _ _ HGX.out)
    have HTQ := Lib.hid (HTP.out.setRowOff HOFP.out p.cells)
    rw [← hy11] at HTQ
    have HTP := HTQ
    rw [← hy11]
    have HGX := HGY
    refine hK.out _ _ (HST.out _ BY11.out) (fun _ => ?_)
    clear hK K' hy11
    (try simp only [Act.put, List.getElem_toArray, List.getElem_cons_succ, List.getElem_cons_zero])
    refine tkN 8 (.int .i64 0) rfl ?_
    (try simp only [ax])
    refine wpAnyH_done (by kernel_rfl) ?_ _
    exact ⟨rfl, g, p, a1, rfl, Lib.hid ⟨BY11.out, HGW.out, HGX.out, ⟨HTP.out, HCP.out HCA.out⟩⟩⟩
 · intro g2 p2 a1 w2 hR
   have HX2 := Lib.hid ((hR.out.1.block _ (lt_of_block HX1.out)).trans HX1.out)
   have HY2 := Lib.hid ((hR.out.1.block _ (lt_of_block HY1.out)).trans HY1.out)
   have HZ2 := Lib.hid ((hR.out.1.block _ (lt_of_block HZ1.out)).trans HZ1.out)
   have B2 := Lib.hid (B1.out.trans (hR.out.1.mono B1.out.size))
   have HA2 := Lib.hid hR.out.2.2.1
   have HTa2 := Lib.hid hR.out.2.2.2.1
   have HCa := Lib.hid hR.out.2.2.2.2
   clear hR HST
   go_wp2_with (first
    | (refine wpList_load_row rfl 37 (.tmp 4) rfl g2 rfl _ _ _ _ HA2.out huh rfl (HSH.out _) ?_)
    | (refine wpList_load_row rfl 54 (.tmp 1) rfl w.heap.size rfl _ _ _ _ HX2.out huCame rfl HSCame.out ?_)
    | fail)
   refine (HCO.out.recv p2 exA (Cm.mk ⟨#[110]⟩ ⟨#[110, 117, 116]⟩ ⟨#[98, 111, 120]⟩ 1 ⟨#[]⟩ ⟨#[100]⟩) _ HTa2.out (Nat.le_trans (Nat.le_of_eq (HTa2.out 4 (by decide)).1) (Nat.le_trans ELA.out.1 (by decide))) (Nat.le_trans (Nat.le_of_eq (HTa2.out 6 (by decide)).1) (Nat.le_trans ELA.out.2.1 (by decide))) (Nat.le_trans (Nat.le_of_eq (HTa2.out 13 (by decide)).1) (Nat.le_trans ELA.out.2.2 (by decide))) HCa.out HW18.out.1).mono ?_
   rintro e w3 ⟨hb3, c, rfl, hat, haz, hac, hof⟩
   rw [E2.out]
   have HX3 := Lib.hid ((hb3.block _ (lt_of_block HX2.out)).trans HX2.out)
   have HY3 := Lib.hid ((hb3.block _ (lt_of_block HY2.out)).trans HY2.out)
   have HZ3 := Lib.hid ((hb3.block _ (lt_of_block HZ2.out)).trans HZ2.out)
   have HA3 := Lib.hid ((hb3.block _ (lt_of_block HA2.out)).trans HA2.out)
   have B3 := Lib.hid (B2.out.trans (hb3.mono B2.out.size))
   have HTa3 := Lib.hid (HTa2.out.below hb3)
   have HTc3 := Lib.hid hat
   have HCc := Lib.hid (hac HCa.out)
   clear hat haz hac hof hb3
   have HQ4 : Hid ((w3.alloc (.cells #[.slice none 0 0, .slice none 0 0, .slice none 0 0, .slice none 0 0, .slice none 0 0, .slice none 0 0, .slice none 0 0, .slice none 0 0, .slice none 0 0, .slice none 0 0, .slice none 0 0, .slice none 0 0, .slice none 0 0, .slice none 0 0, .int .i64 0] 37)).heap[w3.heap.size]? = some (.cells #[.slice none 0 0, .slice none 0 0, .slice none 0 0, .slice none 0 0, .slice none 0 0, .slice none 0 0, .slice none 0 0, .slice none 0 0, .slice none 0 0, .slice none 0 0, .slice none 0 0, .slice none 0 0, .slice none 0 0, .slice none 0 0, .int .i64 0] 37 (0, 0))) := Lib.hid (heap_alloc_new _ _)
   obtain ⟨w4, hw4⟩ : ∃ w', w' = (w3.alloc (.cells #[.slice none 0 0, .slice none 0 0, .slice none 0 0, .slice none 0 0, .slice none 0 0, .slice none 0 0, .slice none 0 0, .slice none 0 0, .slice none 0 0, .slice none 0 0, .slice none 0 0, .slice none 0 0, .slice none 0 0, .slice none 0 0, .int .i64 0] 37)).setRow w3.heap.size c.cells := ⟨_, rfl⟩
   have hb4 : Below w3.heap.size w3 w4 := by rw [hw4]; exact setRow_below ((Below.refl _ _).alloc (Nat.le_refl _) _) (Nat.le_refl _) _
   have HX4 := Lib.hid ((hb4.block _ (lt_of_block HX3.out)).trans HX3.out)
   have HY4 := Lib.hid ((hb4.block _ (lt_of_block HY3.out)).trans HY3.out)
   have HZ4 := Lib.hid ((hb4.block _ (lt_of_block HZ3.out)).trans HZ3.out)
   have HA4 := Lib.hid ((hb4.block _ (lt_of_block HA3.out)).trans HA3.out)
   have B4 := Lib.hid (B3.out.trans (hb4.mono B3.out.size))
   have HTa4 := Lib.hid (HTa3.out.below hb4)
   have HTc4 := Lib.hid (HTc3.out.below hb4)
   have HC4 : Hid (w4.heap[w3.heap.size]? = some (.cells c.cells 37 (0, 0))) := Lib.hid (by rw [hw4]; exact setRow_heap _ _ _ _ _ _ HQ4.out)
   have HW4 := Lib.hid hw4
   clear hb4 hw4
   go_wp2_with (first
    | (refine wpList_store_row rfl 37 (.tmp 6) (.tmp 26) rfl w3.heap.size c.cells rfl rfl _ _ HQ4.out (HSH.out _) rfl (H1C.out _) ?_; rw [← HW4.out])
    | (refine wpList_load_row rfl 37 (.tmp 4) rfl g2 rfl _ _ _ _ HA4.out huh rfl (HSH.out _) ?_)
    | (refine wpList_load_row rfl 54 (.tmp 2) rfl (w.heap.size + 1) rfl _ _ _ _ HY4.out huCame rfl HSCame.out ?_)
    | fail)
   refine (HCO.out.recv p2 exA (Cm.mk ⟨#[110]⟩ ⟨#[110, 117, 116]⟩ ⟨#[101, 97, 99, 104]⟩ 8 ⟨#[]⟩ ⟨#[100]⟩) _ HTa4.out (Nat.le_trans (Nat.le_of_eq (HTa4.out 4 (by decide)).1) (Nat.le_trans ELA.out.1 (by decide))) (Nat.le_trans (Nat.le_of_eq (HTa4.out 6 (by decide)).1) (Nat.le_trans ELA.out.2.1 (by decide))) (Nat.le_trans (Nat.le_of_eq (HTa4.out 13 (by decide)).1) (Nat.le_trans ELA.out.2.2 (by decide))) HCa.out HW18.out.2).mono ?_
   rintro e w5 ⟨hb5, d, rfl, hat, haz, hac, hof⟩
   rw [E3.out]
   have HX5 := Lib.hid ((hb5.block _ (lt_of_block HX4.out)).trans HX4.out)
   have HY5 := Lib.hid ((hb5.block _ (lt_of_block HY4.out)).trans HY4.out)
   have HZ5 := Lib.hid ((hb5.block _ (lt_of_block HZ4.out)).trans HZ4.out)
   have HA5 := Lib.hid ((hb5.block _ (lt_of_block HA4.out)).trans HA4.out)
   have HC5 := Lib.hid ((hb5.block _ (lt_of_block HC4.out)).trans HC4.out)
   have B5 := Lib.hid (B4.out.trans (hb5.mono B4.out.size))
   have HTa5 := Lib.hid (HTa4.out.below hb5)
   have HTc5 := Lib.hid (HTc4.out.below hb5)
   have HTd5 := Lib.hid hat
   have HCd := Lib.hid (hac HCa.out)
   clear hat haz hac hof hb5
   have HQ6 : Hid ((w5.alloc (.cells #[.slice none 0 0, .slice none 0 0, .slice none 0 0, .slice none 0 0, .slice none 0 0, .slice none 0 0, .slice none 0 0, .slice none 0 0, .slice none 0 0, .slice none 0 0, .slice none 0 0, .slice none 0 0, .slice none 0 0, .slice none 0 0, .int .i64 0] 37)).heap[w5.heap.size]? = some (.cells #[.slice none 0 0, .slice none 0 0, .slice none 0 0, .slice none 0 0, .slice none 0 0, .slice none 0 0, .slice none 0 0, .slice none 0 0, .slice none 0 0, .slice none 0 0, .slice none 0 0, .slice none 0 0, .slice none 0 0, .slice none 0 0, .int .i64 0] 37 (0, 0))) := Lib.hid (heap_alloc_new _ _)
   obtain ⟨w6, hw6⟩ : ∃ w', w' = (w5.alloc (.cells #[.slice none 0 0, .slice none 0 0, .slice none 0 0, .slice none 0 0, .slice none 0 0, .slice none 0 0, .slice none 0 0, .slice none 0 0, .slice none 0 0, .slice none 0 0, .slice none 0 0, .slice none 0 0, .slice none 0 0, .slice none 0 0, .int .i64 0] 37)).setRow w5.heap.size d.cells := ⟨_, rfl⟩
   have hb6 : Below w5.heap.size w5 w6 := by rw [hw6]; exact setRow_below ((Below.refl _ _).alloc (Nat.le_refl _) _) (Nat.le_refl _) _
   have HX6 := Lib.hid ((hb6.block _ (lt_of_block HX5.out)).trans HX5.out)
   have HY6 := Lib.hid ((hb6.block _ (lt_of_block HY5.out)).trans HY5.out)
   have HZ6 := Lib.hid ((hb6.block _ (lt_of_block HZ5.out)).trans HZ5.out)
   have HA6 := Lib.hid ((hb6.block _ (lt_of_block HA5.out)).trans HA5.out)
   have HC6 := Lib.hid ((hb6.block _ (lt_of_block HC5.out)).trans HC5.out)
   have B6 := Lib.hid (B5.out.trans (hb6.mono B5.out.size))
   have HTa6 := Lib.hid (HTa5.out.below hb6)
   have HTc6 := Lib.hid (HTc5.out.below hb6)
   have HTd6 := Lib.hid (HTd5.out.below hb6)
   have HD6 : Hid (w6.heap[w5.heap.size]? = some (.cells d.cells 37 (0, 0))) := Lib.hid (by rw [hw6]; exact setRow_heap _ _ _ _ _ _ HQ6.out)
   have HW6 := Lib.hid hw6
   clear hb6 hw6
   go_wp2_with (first
    | (refine wpList_store_row rfl 37 (.tmp 8) (.tmp 32) rfl w5.heap.size d.cells rfl rfl _ _ HQ6.out (HSH.out _) rfl (H1C.out _) ?_; rw [← HW6.out])
    | (refine wpList_load_row rfl 37 (.tmp 8) rfl w5.heap.size rfl _ _ _ _ HD6.out huh rfl (HSH.out _) ?_)
    | (refine wpList_load_row rfl 54 (.tmp 3) rfl (w.heap.size + 2) rfl _ _ _ _ HZ6.out huCame rfl HSCame.out ?_)
    | fail)
   refine (HCO.out.recv d exB (Cm.mk ⟨#[110]⟩ ⟨#[110, 117, 116]⟩ ⟨#[101, 97, 99, 104]⟩ 1 ⟨#[]⟩ ⟨#[100]⟩) _ HTd6.out (Nat.le_trans (Nat.le_of_eq (HTd6.out 4 (by decide)).1) (Nat.le_trans ELB.out.1 (by decide))) (Nat.le_trans (Nat.le_of_eq (HTd6.out 6 (by decide)).1) (Nat.le_trans ELB.out.2.1 (by decide))) (Nat.le_trans (Nat.le_of_eq (HTd6.out 13 (by decide)).1) (Nat.le_trans ELB.out.2.2 (by decide))) HCd.out HW18.out.1).mono ?_
   rintro e w7 ⟨hb7, f, rfl, hat, haz, hac, hof⟩
   rw [E4.out]
   have HX7 := Lib.hid ((hb7.block _ (lt_of_block HX6.out)).trans HX6.out)
   have HY7 := Lib.hid ((hb7.block _ (lt_of_block HY6.out)).trans HY6.out)
   have HZ7 := Lib.hid ((hb7.block _ (lt_of_block HZ6.out)).trans HZ6.out)
   have HA7 := Lib.hid ((hb7.block _ (lt_of_block HA6.out)).trans HA6.out)
   have HC7 := Lib.hid ((hb7.block _ (lt_of_block HC6.out)).trans HC6.out)
   have HD7 := Lib.hid ((hb7.block _ (lt_of_block HD6.out)).trans HD6.out)
   have B7 := Lib.hid (B6.out.trans (hb7.mono B6.out.size))
   have HTa7 := Lib.hid (HTa6.out.below hb7)
   have HTc7 := Lib.hid (HTc6.out.below hb7)
   have HTd7 := Lib.hid (HTd6.out.below hb7)
   have HTf7 := Lib.hid hat
   have HCf := Lib.hid (hac HCd.out)
   clear hat haz hac hof hb7
   have HQ8 : Hid ((w7.alloc (.cells #[.slice none 0 0, .slice none 0 0, .slice none 0 0, .slice none 0 0, .slice none 0 0, .slice none 0 0, .slice none 0 0, .slice none 0 0, .slice none 0 0, .slice none 0 0, .slice none 0 0, .slice none 0 0, .slice none 0 0, .slice none 0 0, .int .i64 0] 37)).heap[w7.heap.size]? = some (.cells #[.slice none 0 0, .slice none 0 0, .slice none 0 0, .slice none 0 0, .slice none 0 0, .slice none 0 0, .slice none 0 0, .slice none 0 0, .slice none 0 0, .slice none 0 0, .slice none 0 0, .slice none 0 0, .slice none 0 0, .slice none 0 0, .int .i64 0] 37 (0, 0))) := Lib.hid (heap_alloc_new _ _)
   obtain ⟨w8, hw8⟩ : ∃ w', w' = (w7.alloc (.cells #[.slice none 0 0, .slice none 0 0, .slice none 0 0, .slice none 0 0, .slice none 0 0, .slice none 0 0, .slice none 0 0, .slice none 0 0, .slice none 0 0, .slice none 0 0, .slice none 0 0, .slice none 0 0, .slice none 0 0, .slice none 0 0, .int .i64 0] 37)).setRow w7.heap.size f.cells := ⟨_, rfl⟩
   have hb8 : Below w7.heap.size w7 w8 := by rw [hw8]; exact setRow_below ((Below.refl _ _).alloc (Nat.le_refl _) _) (Nat.le_refl _) _
   have HX8 := Lib.hid ((hb8.block _ (lt_of_block HX7.out)).trans HX7.out)
   have HY8 := Lib.hid ((hb8.block _ (lt_of_block HY7.out)).trans HY7.out)
   have HZ8 := Lib.hid ((hb8.block _ (lt_of_block HZ7.out)).trans HZ7.out)
   have HA8 := Lib.hid ((hb8.block _ (lt_of_block HA7.out)).trans HA7.out)
   have HC8 := Lib.hid ((hb8.block _ (lt_of_block HC7.out)).trans HC7.out)
   have HD8 := Lib.hid ((hb8.block _ (lt_of_block HD7.out)).trans HD7.out)
   have B8 := Lib.hid (B7.out.trans (hb8.mono B7.out.size))
   have HTa8 := Lib.hid (HTa7.out.below hb8)
   have HTc8 := Lib.hid (HTc7.out.below hb8)
   have HTd8 := Lib.hid (HTd7.out.below hb8)
   have HTf8 := Lib.hid (HTf7.out.below hb8)
   have HF8 : Hid (w8.heap[w7.heap.size]? = some (.cells f.cells 37 (0, 0))) := Lib.hid (by rw [hw8]; exact setRow_heap _ _ _ _ _ _ HQ8.out)
   have HW8 := Lib.hid hw8
   clear hb8 hw8
   go_wp2_with (first
    | (refine wpList_store_row rfl 37 (.tmp 10) (.tmp 38) rfl w7.heap.size f.cells rfl rfl _ _ HQ8.out (HSH.out _) rfl (H1C.out _) ?_; rw [← HW8.out])
    | (refine BigFrame.wpList_want (by kernel_rfl) (fun K hK => Go.wp_load_mid 37 (.tmp 4) rfl g2 0 rfl p2.cells.toList _ (range_row0 HA8.out) huh rfl (HSHL.out _) (hK _ _ ?_)); clear hK K)
    | fail)
   refine (HCO.out.total p2 exA ⟨#[110, 117, 116]⟩ ⟨#[]⟩ _ HTa8.out).mono ?_
   rintro e w9 ⟨rfl, hb9⟩
   rw [E5.out]
   have HX9 := Lib.hid ((hb9.block _ (lt_of_block HX8.out)).trans HX8.out)
   have HY9 := Lib.hid ((hb9.block _ (lt_of_block HY8.out)).trans HY8.out)
   have HZ9 := Lib.hid ((hb9.block _ (lt_of_block HZ8.out)).trans HZ8.out)
   have HA9 := Lib.hid ((hb9.block _ (lt_of_block HA8.out)).trans HA8.out)
   have HC9 := Lib.hid ((hb9.block _ (lt_of_block HC8.out)).trans HC8.out)
   have HD9 := Lib.hid ((hb9.block _ (lt_of_block HD8.out)).trans HD8.out)
   have HF9 := Lib.hid ((hb9.block _ (lt_of_block HF8.out)).trans HF8.out)
   have B9 := Lib.hid (B8.out.trans (hb9.mono B8.out.size))
   have HTa9 := Lib.hid (HTa8.out.below hb9)
   have HTc9 := Lib.hid (HTc8.out.below hb9)
   have HTd9 := Lib.hid (HTd8.out.below hb9)
   have HTf9 := Lib.hid (HTf8.out.below hb9)
   clear hb9
   go_wp2_with (first
    | (refine BigFrame.wpList_want (by kernel_rfl) (fun K hK => Go.wp_load_mid 37 (.tmp 8) rfl w5.heap.size 0 rfl d.cells.toList _ (range_row0 HD9.out) huh rfl (HSHL.out _) (hK _ _ ?_)); clear hK K)
    | fail)
   refine (HCO.out.total d exB ⟨#[110, 117, 116]⟩ ⟨#[]⟩ _ HTd9.out).mono ?_
   rintro e wn ⟨rfl, hbn⟩
   rw [E6.out]
   have BN := Lib.hid (B9.out.trans (hbn.mono B9.out.size))
   clear hbn
   go_wp2_with fail
   go_ret
   exact ⟨rfl, BN.out⟩
end Go.Proofs.YtgbilfkjfeheaaaGreat
