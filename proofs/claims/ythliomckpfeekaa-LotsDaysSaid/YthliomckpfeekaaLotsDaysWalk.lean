/-
  THE LAW LotsDays, over the contracts. (By wip/tools/gen_l9.py.)
-/
import Derived.Test.YthliomckpfeekaaLCon
import Derived.Test.YthliomckpfeekaaLRow
import Derived.Test.YthliomckpfeekaaHBoth
import Derived.Test.YthliomckpfeekaaHSmall
import Derived.Test.YthliomckpfeekaaHA
namespace Go.Proofs.Ythliomckpfeekaa.lotsDays
set_option linter.unusedVariables false
open Go.RowKit
open Pl (It)

set_option maxRecDepth 100000 in
set_option maxHeartbeats 1600000 in
theorem walk (C : Cons) (h : Hs) (L : Nat → List (List Value)) (s t : ByteArray) (w : World) (hin : HIn h L w) (hs : s.size ≤ 140737488351232) (ht : t.size ≤ 140737488351232) :
    Calls Try.prog 6 #[.agg h.cells, .string s, .string t] w fun e w' => e = .returned (.bool true) ∧ Below w.heap.size w w' := by
  have HIN := Lib.hid hin
  have HAW : Hid (∀ W, Calls Try.prog 9 #[] W fun e w' => e = .returned (.bool true) ∧ Below W.heap.size W w') := Lib.hid (fun W => awake_any C W)
  have HCO := Lib.hid C
  clear hin
  clear hs ht
  have huh := Try.underlying37
  have HSH : Hid (∀ a : Hs, (Try.prog.info? 37).map (·.size) = some a.cells.size) := Lib.hid (fun a => by kernel_rfl)
  have HB0 : Hid (Below w.heap.size w (w.alloc (.cells h.cells 37))) := Lib.hid ((Below.refl _ _).alloc (Nat.le_refl _) _)
  have HH0 : Hid ((w.alloc (.cells h.cells 37)).heap[w.heap.size]? = some (.cells h.cells 37 (0, 0))) := Lib.hid (heap_alloc_new _ _)
  go_enter Try.func6, Try.ntmps6
  go_wp2_with (first
    | (refine wpList_load_row rfl 37 (.tmp 3) rfl w.heap.size rfl _ _ _ _ HH0.out huh rfl (HSH.out _) ?_)
    | fail)
  refine (small_calls h _).mono ?_
  rintro e w1 ⟨⟨b, rfl, hb⟩, hb1⟩
  have HH1 := Lib.hid ((hb1.block _ (lt_of_block HH0.out)).trans HH0.out)
  have HB1 := Lib.hid (HB0.out.trans (hb1.mono HB0.out.size))
  clear hb1
  cases b with
  | false =>
    clear hb
    go_wp2_with fail
    refine (HAW.out _).mono ?_
    rintro e w2 ⟨rfl, hb2⟩
    have HB2 := Lib.hid (HB1.out.trans (hb2.mono HB1.out.size))
    clear hb2
    go_wp2_with fail
    go_ret
    exact ⟨rfl, HB2.out⟩
  | true =>
    have HHT := Lib.hid (HIN.out.ht (hb.1 rfl) HB1.out)
    clear hb
    have RH : Hid (∀ X : BW w1, X.W.heap[w.heap.size]? = some (.cells h.cells 37 (0, 0))) := Lib.hid (fun X => (X.h.block _ (lt_of_block HH1.out)).trans HH1.out)
    obtain ⟨r, hr⟩ : ∃ r, dayZ (L 1) s t = r := ⟨_, rfl⟩
    have HC1 : Hid (∀ X : BW w1, Calls Try.prog 16 #[.agg h.cells, .string s, .string t] X.W fun e w' => e = .returned (.int .i64 r) ∧ Below X.W.heap.size X.W w') := Lib.hid (fun X => by rw [← hr]; exact HCO.out.day h L s t X.W (HHT.out.below X.h))
    have HC2 : Hid (∀ X : BW w1, Calls Try.prog 17 #[.agg h.cells, .string s, .string t] X.W fun e w' => e = .returned (.int .i64 r) ∧ Below X.W.heap.size X.W w') := Lib.hid (fun X => by rw [← hr]; exact rday_any h L s t X.W (HHT.out.below X.h))
    clear hr
    go_wp2_with fail
    refine wp_grow w1 (by kernel_rfl) (by kernel_rfl) (Below.refl _ _) ?_
    simp only []
    refine BigFrame.wpQuiet_want (by kernel_rfl) (fun K hK => quiet_load_mid 37 (.tmp 3) rfl w.heap.size 0 rfl h.cells.toList _ (fun W ⟨X, hX⟩ => by rw [hX]; exact range_row0 (RH.out X)) huh rfl (HSH.out _) (hK _ ?_))
    simp only [Act.put, List.setIfInBounds_toArray, List.set_cons_zero, List.set_cons_succ, Array.toArray_toList]
    iterate 2 go_big_quiet_step (fail)
    go_big_quiet_step (exact grow_call _ (HC1.out _))
    refine BigFrame.wpQuiet_want (by kernel_rfl) (fun K hK => quiet_load_mid 37 (.tmp 3) rfl w.heap.size 0 rfl h.cells.toList _ (fun W ⟨X, hX⟩ => by rw [hX]; exact range_row0 (RH.out X)) huh rfl (HSH.out _) (hK _ ?_))
    simp only [Act.put, List.setIfInBounds_toArray, List.set_cons_zero, List.set_cons_succ, Array.toArray_toList]
    iterate 2 go_big_quiet_step (fail)
    go_big_quiet_step (exact grow_call _ (HC2.out _))
    iterate 2 go_big_quiet_step (fail)
    go_big_quiet_step (exact grow_call _ (HAW.out _))
    iterate 2 go_big_quiet_step (fail)
    refine wpQuiet_nil ?_
    intro X
    go_wp2_with fail
    go_ret
    exact ⟨rfl, HB1.out.trans (X.h.mono HB1.out.size)⟩
end Go.Proofs.Ythliomckpfeekaa.lotsDays
