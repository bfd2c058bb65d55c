/-
  CONTRACTS of the code's table of api.Bin. (By wip/tools/gen_onecode.py.)
-/
import Derived.Test.YthoblccmdadmmaaGP
import Derived.Test.YthoblccmdadmmaaOBin
import Derived.Test.YthoblccmdadmmaaHHouse
namespace Go.Proofs.Ythoblccmdadmmaa
set_option linter.unusedVariables false
open Go.RowKit
open Pl (firstG findG)

set_option maxRecDepth 100000 in
theorem cordBinR (x y : List Value) (w : World) (hx : Fits kBin x) (hy : Fits kBin y) : Calls Try.prog 85 #[.agg x.toArray, .agg y.toArray] w fun e w' => e = .returned (.int .i64 (ordBin x y)) ∧ Below w.heap.size w w' := by
  obtain ⟨r, hxr⟩ := code_Bin hx
  obtain ⟨q, hyr⟩ := code_Bin hy
  have HB : Hid (Below w.heap.size w ((w.alloc (.cells x.toArray 57)).alloc (.cells y.toArray 57))) := Lib.hid (((Below.refl _ _).alloc (Nat.le_refl _) _).alloc (by simp) _)
  have c0 : ((w.alloc (.cells x.toArray 57)).alloc (.cells y.toArray 57)).cell? ⟨w.heap.size, 0, none⟩ = some (.string (codeOf x)) := by
    rw [cell_of_row _ w.heap.size 0 x.toArray 57 (0, 0) ((Below.heap_alloc _ _ _ (by simp)).trans (heap_alloc_new _ _))]
    rw [List.getElem?_toArray]
    rw [hxr]; rfl
  have c1 : ((w.alloc (.cells x.toArray 57)).alloc (.cells y.toArray 57)).cell? ⟨w.heap.size + 1, 0, none⟩ = some (.string (codeOf y)) := by
    have hh := heap_alloc_new (w.alloc (.cells x.toArray 57)) (.cells y.toArray 57)
    rw [cell_of_row _ (w.heap.size + 1) 0 y.toArray 57 (0, 0) (by simpa using hh)]
    rw [List.getElem?_toArray]
    rw [hyr]; rfl
  obtain ⟨s, hs⟩ : ∃ s, codeOf x = s := ⟨_, rfl⟩
  obtain ⟨t, ht⟩ : ∃ s, codeOf y = s := ⟨_, rfl⟩
  have HV : Hid (ordBin x y = Pl.cmp s t) := Lib.hid (by unfold ordBin; rw [hs, ht])
  rw [hs] at c0
  rw [ht] at c1
  clear hs ht hxr hyr hx hy
  go_enter Try.func85, Try.ntmps85
  go_wp2_with fail
  refine (compare_any s t _).mono ?_
  rintro e w' ⟨rfl, rfl⟩
  go_wp2_with fail
  go_ret
  exact ⟨by rw [HV.out]; rfl, HB.out⟩

theorem tellsBinR (w : World) : TellsO kBin w 85 #[] ordBin := ⟨fun args W => by kernel_rfl, fun W _ a b ha hb => cordBinR a b W ha hb⟩

/-- The table of items. -/
abbrev tvBinR : Value := .func (.func 85) #[] #[]
attribute [local go_sem] store_func
theorem tabBinR_any (w : World) : Calls Try.prog 54 #[] w fun e w' => e = .returned (.agg #[tvBinR]) ∧ Below w.heap.size w w' := by
  go_enter Try.func54, Try.ntmps54
  go_wp2
  refine bodyPost_ret (v := .agg #[tvBinR]) ?_ rfl ⟨rfl, ?_⟩
  · simp [results, Try.results54, go_sem]
  · exact (Below.refl _ _).alloc (Nat.le_refl _) _

end Go.Proofs.Ythoblccmdadmmaa
