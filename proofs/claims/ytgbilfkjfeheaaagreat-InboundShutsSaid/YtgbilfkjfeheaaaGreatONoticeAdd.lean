/-
 CONTRACT of the rows' Notice. (By wip/tools/gen_one.py.)
-/
import Derived.Test.YtgbilfkjfeheaaaGreatGRPutNotice
import Derived.Test.YtgbilfkjfeheaaaGreatONoticePut
import Derived.Test.YtgbilfkjfeheaaaGreatGT
namespace Go.Proofs.YtgbilfkjfeheaaaGreat
set_option linter.unusedVariables false
open Go.RowKit
open Pl (firstG findG putG It)

set_option maxRecDepth 100000 in
set_option maxHeartbeats 800000 in
theorem rNotice_any (h : Hs) (cs : List Value) (L : List (List Value)) (w : World) (hcs : Fits kNotice cs) (hn : h.n 6 = L.length) (hn6 : h.n 6 ≤ 1000) (hL : Things kNotice L) (hr : Rd w w.heap.size (h.A 6) L.flatten) :
 Calls Tryz.prog 47 #[.agg h.cells, .agg cs.toArray] w fun e w' => Below w.heap.size w w' ∧ ∃ A n c, n = (putG ordNotice L cs).length ∧ w'.ownsRow w.heap.size 42 51 (.slice A n c) n (putG ordNotice L cs).flatten ∧ e = .returned (.agg (h.set 6 A n c).cells) := by
 obtain ⟨W0, hW0⟩ : ∃ W0, W0 = ((w.alloc (.cells h.cells 37)).alloc (.cells cs.toArray 42)).alloc (.cells #[.slice none 0 0, .slice none 0 0, .slice none 0 0, .slice none 0 0, .slice none 0 0, .slice none 0 0, .slice none 0 0, .slice none 0 0, .slice none 0 0, .slice none 0 0, .slice none 0 0, .slice none 0 0, .slice none 0 0, .slice none 0 0, .int .i64 0] 37) := ⟨_, rfl⟩
 have hb0 : Below w.heap.size w W0 := by rw [hW0]; exact (((Below.refl _ _).alloc (Nat.le_refl _) _).alloc (by simp) _).alloc (by simp; omega) _
 have hs0 : W0.heap.size = w.heap.size + 3 := by rw [hW0]; simp
 have HH : Hid (∀ W, Below W0.heap.size W0 W → W.heap[w.heap.size]? = some (.cells h.cells 37 (0, 0))) := Lib.hid (fun W hW => (hW.block _ (by omega)).trans (by
  rw [hW0]
  exact (Below.heap_alloc _ _ _ (by simp; omega)).trans ((Below.heap_alloc _ _ _ (by simp)).trans (heap_alloc_new _ _))))
 have HX : Hid (∀ W, Below W0.heap.size W0 W → W.heap[w.heap.size + 1]? = some (.cells cs.toArray 42 (0, 0))) := Lib.hid (fun W hW => (hW.block _ (by omega)).trans (by
  rw [hW0]
  have := heap_alloc_new (w.alloc (.cells h.cells 37)) (.cells cs.toArray 42)
  exact (Below.heap_alloc _ _ _ (by simp)).trans (by simpa using this)))
 have HZ : Hid (∀ W, Below W0.heap.size W0 W → W.heap[w.heap.size + 2]? = some (.cells Hs.zero 37 (0, 0))) := Lib.hid (fun W hW => (hW.block _ (by omega)).trans (by
  rw [hW0]
  have := heap_alloc_new ((w.alloc (.cells h.cells 37)).alloc (.cells cs.toArray 42)) (.cells Hs.zero 37)
  simpa [Hs.zero] using this))
 have HBW : Hid (∀ W, Below W0.heap.size W0 W → Below w.heap.size w W ∧ w.heap.size + 3 ≤ W.heap.size) := Lib.hid (fun W hW => ⟨hb0.trans (hW.mono (by omega)), by have := hW.size; omega⟩)
 have hui := Tryz.underlying42
 have huh := Tryz.underlying37
 have HSX : Hid ((Tryz.prog.info? 42).map (·.size) = some cs.toArray.size) := Lib.hid (by rw [show (Tryz.prog.info? 42).map (·.size) = some 51 from by kernel_rfl, List.size_toArray, hcs.length]; rfl)
 have HSH : Hid (∀ a : Hs, (Tryz.prog.info? 37).map (·.size) = some a.cells.size) := Lib.hid (fun a => by kernel_rfl)
 have HSQ : Hid ((Tryz.prog.info? 37).map (·.size) = some Hs.zero.size) := Lib.hid (by kernel_rfl)
 have H1C : Hid (∀ a : Hs, a.cells.all (·.oneCell') = true) := Lib.hid (fun a => by simp [Hs.cells, Value.oneCell'])
 have H1Q : Hid (Hs.zero.all (·.oneCell') = true) := Lib.hid (by simp [Hs.zero, Value.oneCell'])
 have HHS := Lib.hid (HH.out _ (Below.refl _ _))
 have HXS := Lib.hid (HX.out _ (Below.refl _ _))
 have HZS := Lib.hid (HZ.out _ (Below.refl _ _))
 have HPU : Hid (∀ W, Below W0.heap.size W0 W → Calls Tryz.prog 95 #[.slice (h.A 6) (h.n 6) (h.c 6), .agg cs.toArray, .func (.func 96) #[] #[]] W (NewNotice W (putG ordNotice L cs))) := Lib.hid (fun W hW =>
  rputNotice (h.A 6) (h.n 6) (h.c 6) 96 ordNotice cs L W hn (by omega) hL hcs ((hr.below (HBW.out W hW).1).mono (HBW.out W hW).1.size) (tellsRNotice W))
 have c0 : W0.cell? ⟨w.heap.size, 6, none⟩ = some (.slice (h.A 6) (h.n 6) (h.c 6)) := (cell_of_block HHS.out).trans rfl
 have HS0 := Lib.hid hs0
 clear hcs hn hL hr hb0 hs0
 subst hW0
 go_enter Tryz.func47, Tryz.ntmps47
 go_wp2_with (first
  | (refine wpList_load_row rfl 42 (.tmp 3) rfl (w.heap.size + 1) rfl _ _ _ _ HXS.out hui rfl HSX.out ?_)
  | fail)
 refine (HPU.out _ (Below.refl _ _)).mono ?_
 rintro e w5 ⟨A5, n5, p5, hl5, rfl, hown5, hb5⟩
 have H5 := Lib.hid hb5
 have HO5 := Lib.hid hown5
 have HLE := Lib.hid hl5
 clear hb5 hown5 hl5
 have c5 : w5.cell? ⟨w.heap.size, 6, none⟩ = some (.slice (h.A 6) (h.n 6) (h.c 6)) := (cell_of_block (HH.out _ H5.out)).trans rfl
 have f5 : w5.frozen? ⟨w.heap.size, 6, none⟩ = false := frozen_of_block (HH.out _ H5.out)
 have HZ5 := Lib.hid (HZ.out _ H5.out)
 have HH5 := Lib.hid (HH.out _ H5.out)
 have HB5 := Lib.hid (HBW.out _ H5.out)
 have H6 : Hid ((w5.setCell ⟨w.heap.size, 6, none⟩ (.slice A5 n5 p5)).heap[w.heap.size]? = some (.cells (h.set 6 A5 n5 p5).cells 37 (0, 0))) := Lib.hid (by rw [block_setCell HH5.out, h.set_cells _ _ _ 6 (by decide)])
 have HZ6 : Hid ((w5.setCell ⟨w.heap.size, 6, none⟩ (.slice A5 n5 p5)).heap[w.heap.size + 2]? = some (.cells Hs.zero 37 (0, 0))) := Lib.hid ((block_setCell_other (by omega) _).trans HZ5.out)
 have HB6 : Hid (Below w.heap.size w (w5.setCell ⟨w.heap.size, 6, none⟩ (.slice A5 n5 p5))) := Lib.hid (HB5.out.1.setCell (Nat.le_refl _) _)
 have HO6 : Hid ((w5.setCell ⟨w.heap.size, 6, none⟩ (.slice A5 n5 p5)).ownsRow (w.heap.size + 3) 42 51 (.slice A5 n5 p5) n5 (putG ordNotice L cs).flatten) := Lib.hid (own_far HO5.out (by rw [HS0.out]; simp) (by rw [HS0.out]; exact Nat.le_refl _))
 go_wp2_with (first
  | (refine wpList_load_row rfl 37 (.tmp 2) rfl w.heap.size rfl _ _ _ _ H6.out huh rfl (HSH.out _) ?_)
  | (refine wpList_store_row rfl 37 (.tmp 4) (.tmp 10) rfl (w.heap.size + 2) (h.set 6 A5 n5 p5).cells rfl rfl _ _ HZ6.out (HSH.out _) rfl (H1C.out _) ?_)
  | fail)
 exact bodyPost_ret (results_cell_row rfl _ _ (w.heap.size + 2) _ _ _ _ rfl (setRow_heap _ _ _ _ _ _ HZ6.out) huh rfl (HSH.out _)) rfl ⟨setRow_below HB6.out (by omega) _, A5, n5, p5, HLE.out, own_rowed HO6.out (by omega) (by omega), rfl⟩

end Go.Proofs.YtgbilfkjfeheaaaGreat
