/-
  THE LAW ItemsIs, over the contracts.
-/
import Derived.Test.YtcihibmapbigdaaIAwake
import Derived.Test.YtcihibmapbigdaaIRCheck
namespace Go.Proofs.Ytcihibmapbigdaa.itemsIs
set_option linter.unusedVariables false
open Go.RowKit
open Pl (It)

set_option maxRecDepth 100000 in
theorem walk (cs : List Value) (w : World) (hf : Fits kItem cs) (hm : ∀ u ∈ cs, Mild u) :
    Calls Try.prog 6 #[.agg cs.toArray] w fun e w' => e = .returned (.bool true) ∧ Below w.heap.size w w' := by
  obtain ⟨x, rfl⟩ := It.of hf
  have HOK := Lib.hid (It.ok_of hm)
  obtain ⟨W0, hW0⟩ : ∃ W0, W0 = w.alloc (.cells x.cells.toArray 42) := ⟨_, rfl⟩
  have HB0 : Hid (Below w.heap.size w W0) := Lib.hid (by rw [hW0]; exact (Below.refl _ _).alloc (Nat.le_refl _) _)
  have HX0 : Hid (W0.heap[w.heap.size]? = some (.cells x.cells.toArray 42 (0, 0))) := Lib.hid (by rw [hW0]; exact heap_alloc_new _ _)
  have HSS : Hid (∀ W, Below W0.heap.size W0 W → W.cell? ⟨w.heap.size, 0, none⟩ = some (.string x.code) ∧ W.cell? ⟨w.heap.size, 1, none⟩ = some (.string (x.nm 0)) ∧ W.cell? ⟨w.heap.size, 2, none⟩ = some (.int .i64 (x.fc 0)) ∧ W.cell? ⟨w.heap.size, 3, none⟩ = some (.string (x.nm 1)) ∧ W.cell? ⟨w.heap.size, 4, none⟩ = some (.int .i64 (x.fc 1)) ∧ W.cell? ⟨w.heap.size, 5, none⟩ = some (.string (x.nm 2)) ∧ W.cell? ⟨w.heap.size, 6, none⟩ = some (.int .i64 (x.fc 2)) ∧ W.cell? ⟨w.heap.size, 7, none⟩ = some (.string (x.nm 3)) ∧ W.cell? ⟨w.heap.size, 8, none⟩ = some (.int .i64 (x.fc 3)) ∧ W.cell? ⟨w.heap.size, 9, none⟩ = some (.int .i64 x.vol) ∧ W.cell? ⟨w.heap.size, 10, none⟩ = some (.int .i64 x.wei) ∧ W.cell? ⟨w.heap.size, 11, none⟩ = some (.bool x.lots) ∧ W.cell? ⟨w.heap.size, 12, none⟩ = some (.bool x.serial) ∧ W.cell? ⟨w.heap.size, 13, none⟩ = some (.bool x.chk)) := Lib.hid (fun W hW => by
    have e1 := (hW.block _ (lt_of_block HX0.out)).trans HX0.out
    exact ⟨(cell_of_block e1).trans rfl, (cell_of_block e1).trans rfl, (cell_of_block e1).trans rfl, (cell_of_block e1).trans rfl, (cell_of_block e1).trans rfl, (cell_of_block e1).trans rfl, (cell_of_block e1).trans rfl, (cell_of_block e1).trans rfl, (cell_of_block e1).trans rfl, (cell_of_block e1).trans rfl, (cell_of_block e1).trans rfl, (cell_of_block e1).trans rfl, (cell_of_block e1).trans rfl, (cell_of_block e1).trans rfl⟩)
  obtain ⟨k, hk⟩ : ∃ k, Pl.chE x = k := ⟨_, rfl⟩
  have HC1 : Hid (∀ W, Calls Try.prog 16 #[.agg #[.string x.code, .string (x.nm 0), .int .i64 (x.fc 0), .string (x.nm 1), .int .i64 (x.fc 1), .string (x.nm 2), .int .i64 (x.fc 2), .string (x.nm 3), .int .i64 (x.fc 3), .int .i64 x.vol, .int .i64 x.wei, .bool x.lots, .bool x.serial, .bool x.chk]] W fun e w' => e = .returned (.int .i64 k) ∧ Below W.heap.size W w') := Lib.hid (fun W => by rw [← hk]; exact check_any x HOK.out W)
  have HC2 : Hid (∀ W, Calls Try.prog 17 #[.agg #[.string x.code, .string (x.nm 0), .int .i64 (x.fc 0), .string (x.nm 1), .int .i64 (x.fc 1), .string (x.nm 2), .int .i64 (x.fc 2), .string (x.nm 3), .int .i64 (x.fc 3), .int .i64 x.vol, .int .i64 x.wei, .bool x.lots, .bool x.serial, .bool x.chk]] W fun e w' => e = .returned (.int .i64 k) ∧ Below W.heap.size W w') := Lib.hid (fun W => by rw [← hk]; exact rcheck_any x HOK.out W)
  have H : Hid (Below W0.heap.size W0 W0.drew) := Lib.hid (Below.refl _ _).drew
  clear hk hf hm
  go_enter Try.func6, Try.ntmps6
  go_wp2_with fail
  rw [← hW0]
  clear hW0
  go_region_held3 (fun w' => w'.cell? ⟨w.heap.size, 0, none⟩ = some (.string x.code) ∧ w'.cell? ⟨w.heap.size, 1, none⟩ = some (.string (x.nm 0)) ∧ w'.cell? ⟨w.heap.size, 2, none⟩ = some (.int .i64 (x.fc 0)) ∧ w'.cell? ⟨w.heap.size, 3, none⟩ = some (.string (x.nm 1)) ∧ w'.cell? ⟨w.heap.size, 4, none⟩ = some (.int .i64 (x.fc 1)) ∧ w'.cell? ⟨w.heap.size, 5, none⟩ = some (.string (x.nm 2)) ∧ w'.cell? ⟨w.heap.size, 6, none⟩ = some (.int .i64 (x.fc 2)) ∧ w'.cell? ⟨w.heap.size, 7, none⟩ = some (.string (x.nm 3)) ∧ w'.cell? ⟨w.heap.size, 8, none⟩ = some (.int .i64 (x.fc 3)) ∧ w'.cell? ⟨w.heap.size, 9, none⟩ = some (.int .i64 x.vol) ∧ w'.cell? ⟨w.heap.size, 10, none⟩ = some (.int .i64 x.wei) ∧ w'.cell? ⟨w.heap.size, 11, none⟩ = some (.bool x.lots) ∧ w'.cell? ⟨w.heap.size, 12, none⟩ = some (.bool x.serial) ∧ w'.cell? ⟨w.heap.size, 13, none⟩ = some (.bool x.chk))
    (first | exact HSS.out _ H.out)
    (first
      | (go_at_call 16; refine (HC1.out _).mono ?_; rintro e w' ⟨rfl, hb'⟩; have H := Lib.hid (H.out.trans (hb'.mono H.out.size)); clear hb')
      | (go_at_call 17; refine (HC2.out _).mono ?_; rintro e w' ⟨rfl, hb'⟩; have H := Lib.hid (H.out.trans (hb'.mono H.out.size)); clear hb')
      | (go_at_call 9; refine (awake_any _).mono ?_; rintro e w' ⟨rfl, hb'⟩; have H := Lib.hid (H.out.trans (hb'.mono H.out.size)); clear hb'))
  go_wp2_with fail
  go_ret
  exact ⟨rfl, HB0.out.trans (H.out.mono HB0.out.size)⟩
end Go.Proofs.Ytcihibmapbigdaa.itemsIs
