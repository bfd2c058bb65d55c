/-
  CONTRACTS of the code's table of api.Item. (By wip/tools/gen_onecode.py.)
-/
import Derived.Test.YthoblccmdadmmaaGP
import Derived.Test.YthoblccmdadmmaaOItem
import Derived.Test.YthoblccmdadmmaaHHouse
namespace Go.Proofs.Ythoblccmdadmmaa
set_option linter.unusedVariables false
open Go.RowKit
open Pl (firstG findG)

set_option maxRecDepth 100000 in
theorem cordItemR (x y : List Value) (w : World) (hx : Fits kItem x) (hy : Fits kItem y) : Calls Try.prog 75 #[.agg x.toArray, .agg y.toArray] w fun e w' => e = .returned (.int .i64 (ordItem x y)) ∧ Below w.heap.size w w' := by
  obtain ⟨r, hxr⟩ := code_Item hx
  obtain ⟨q, hyr⟩ := code_Item hy
  have HB : Hid (Below w.heap.size w ((w.alloc (.cells x.toArray 68)).alloc (.cells y.toArray 68))) := Lib.hid (((Below.refl _ _).alloc (Nat.le_refl _) _).alloc (by simp) _)
  have c0 : ((w.alloc (.cells x.toArray 68)).alloc (.cells y.toArray 68)).cell? ⟨w.heap.size, 0, none⟩ = some (.string (codeOf x)) := by
    rw [cell_of_row _ w.heap.size 0 x.toArray 68 (0, 0) ((Below.heap_alloc _ _ _ (by simp)).trans (heap_alloc_new _ _))]
    rw [List.getElem?_toArray]
    rw [hxr]; rfl
  have c1 : ((w.alloc (.cells x.toArray 68)).alloc (.cells y.toArray 68)).cell? ⟨w.heap.size + 1, 0, none⟩ = some (.string (codeOf y)) := by
    have hh := heap_alloc_new (w.alloc (.cells x.toArray 68)) (.cells y.toArray 68)
    rw [cell_of_row _ (w.heap.size + 1) 0 y.toArray 68 (0, 0) (by simpa using hh)]
    rw [List.getElem?_toArray]
    rw [hyr]; rfl
  obtain ⟨s, hs⟩ : ∃ s, codeOf x = s := ⟨_, rfl⟩
  obtain ⟨t, ht⟩ : ∃ s, codeOf y = s := ⟨_, rfl⟩
  have HV : Hid (ordItem x y = Pl.cmp s t) := Lib.hid (by unfold ordItem; rw [hs, ht])
  rw [hs] at c0
  rw [ht] at c1
  clear hs ht hxr hyr hx hy
  go_enter Try.func75, Try.ntmps75
  go_wp2_with fail
  refine (compare_any s t _).mono ?_
  rintro e w' ⟨rfl, rfl⟩
  go_wp2_with fail
  go_ret
  exact ⟨by rw [HV.out]; rfl, HB.out⟩

theorem tellsItemR (w : World) : TellsO kItem w 75 #[] ordItem := ⟨fun args W => by kernel_rfl, fun W _ a b ha hb => cordItemR a b W ha hb⟩

/-- The table of items. -/
abbrev tvItemR : Value := .func (.func 75) #[] #[]
attribute [local go_sem] store_func
theorem tabItemR_any (w : World) : Calls Try.prog 50 #[] w fun e w' => e = .returned (.agg #[tvItemR]) ∧ Below w.heap.size w w' := by
  go_enter Try.func50, Try.ntmps50
  go_wp2
  refine bodyPost_ret (v := .agg #[tvItemR]) ?_ rfl ⟨rfl, ?_⟩
  · simp [results, Try.results50, go_sem]
  · exact (Below.refl _ _).alloc (Nat.le_refl _) _

end Go.Proofs.Ythoblccmdadmmaa
