/-
 CONTRACT of the rows' order. (By wip/tools/gen_one.py.)
-/
import Derived.Test.YtgbilfkjfeheaaaGreatOPl
import Derived.Test.YtgbilfkjfeheaaaGreatHHouse
import Derived.BigQuiet
namespace Go.Proofs.YtgbilfkjfeheaaaGreat
set_option linter.unusedVariables false
open Go.RowKit

set_option maxRecDepth 100000 in
theorem rordNotice (x y : List Value) (w : World) (hx : Fits kNotice x) (hy : Fits kNotice y) : Calls Tryz.prog 96 #[.agg x.toArray, .agg y.toArray] w fun e w' => e = .returned (.int .i64 (ordNotice x y)) ∧ Below w.heap.size w w' := by
 obtain ⟨r, hxr⟩ := code_Notice hx
 obtain ⟨q, hyr⟩ := code_Notice hy
 obtain ⟨W0, hW0⟩ : ∃ W0, W0 = (w.alloc (.cells x.toArray 42)).alloc (.cells y.toArray 42) := ⟨_, rfl⟩
 have HB : Hid (Below w.heap.size w W0) := Lib.hid (by rw [hW0]; exact ((Below.refl _ _).alloc (Nat.le_refl _) _).alloc (by simp) _)
 have HS : Hid (W0.heap.size = w.heap.size + 2) := Lib.hid (by rw [hW0]; simp)
 have c0 : W0.cell? ⟨w.heap.size, 0, none⟩ = some (.string (codeOf x)) := by
  rw [hW0, cell_of_row _ w.heap.size 0 x.toArray 42 (0, 0) ((Below.heap_alloc _ _ _ (by simp)).trans (heap_alloc_new _ _))]
  rw [List.getElem?_toArray]
  rw [hxr]; rfl
 have c1 : W0.cell? ⟨w.heap.size + 1, 0, none⟩ = some (.string (codeOf y)) := by
  have hh := heap_alloc_new (w.alloc (.cells x.toArray 42)) (.cells y.toArray 42)
  rw [hW0, cell_of_row _ (w.heap.size + 1) 0 y.toArray 42 (0, 0) (by simpa using hh)]
  rw [List.getElem?_toArray]
  rw [hyr]; rfl
 obtain ⟨s, hs⟩ : ∃ s, codeOf x = s := ⟨_, rfl⟩
 obtain ⟨t, ht⟩ : ∃ s, codeOf y = s := ⟨_, rfl⟩
 have HV : Hid (ordNotice x y = Pl.cmp s t) := Lib.hid (by unfold ordNotice; rw [hs, ht])
 rw [hs] at c0
 rw [ht] at c1
 clear hs ht hxr hyr hx hy
 have c2 : (W0.alloc (.cells #[.string s] 9)).cell? ⟨w.heap.size + 1, 0, none⟩ = some (.string t) := by
  rw [World.cell?_alloc_lt _ _ _ (by rw [HS.out]; simp)]; exact c1
 go_enter Tryz.func96, Tryz.ntmps96
 subst hW0
 go_wp2_with fail
 obtain ⟨W1, hW1⟩ : ∃ W1, W1 = (((w.alloc (.cells x.toArray 42)).alloc (.cells y.toArray 42)).alloc (.cells #[.string s] 9)).alloc (.cells #[.string t] 9) := ⟨_, rfl⟩
 have HB1 : Hid (Below w.heap.size w W1) := Lib.hid (by rw [hW1]; exact ((HB.out).alloc (by rw [HS.out]; omega) _).alloc (by simp; omega) _)
 have HR1 : Hid (Rd W1 W1.heap.size (some ⟨w.heap.size + 1 + 1, 0, none⟩) (sc [s])) := Lib.hid (rd_str (by
  rw [hW1]
  have := heap_alloc_new ((w.alloc (.cells x.toArray 42)).alloc (.cells y.toArray 42)) (.cells #[.string s] 9)
  exact (Below.heap_alloc _ _ _ (by simp)).trans (by simpa using this)))
 have HR2 : Hid (Rd W1 W1.heap.size (some ⟨w.heap.size + 1 + 1 + 1, 0, none⟩) (sc [t])) := Lib.hid (rd_str (by
  rw [hW1]
  have := heap_alloc_new (((w.alloc (.cells x.toArray 42)).alloc (.cells y.toArray 42)).alloc (.cells #[.string s] 9)) (.cells #[.string t] 9)
  simpa using this))
 rw [← hW1]
 clear hW1
 refine (texts_any _ _ 1 1 1 1 [s] [t] W1 rfl rfl rfl (by omega) HR1.out HR2.out).mono ?_
 rintro e w' ⟨rfl, hb⟩
 rw [cmps_one]
 have HB2 := Lib.hid (HB1.out.trans (hb.mono HB1.out.size))
 clear hb
 go_wp2_with fail
 go_ret
 exact ⟨by rw [HV.out]; rfl, HB2.out⟩
theorem tellsRNotice (w : World) : TellsO kNotice w 96 #[] ordNotice := ⟨fun args W => by kernel_rfl, fun W _ a b ha hb => rordNotice a b W ha hb⟩
end Go.Proofs.YtgbilfkjfeheaaaGreat
