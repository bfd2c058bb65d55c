/-
  THE LAW RoomFits, over the contracts. (By wip/tools/gen_laws11.py.)
-/
import Derived.Test.YthoblccmdadmmaaZCon
import Derived.Test.YthoblccmdadmmaaZRow
import Derived.Test.YthoblccmdadmmaaHSmall
import Derived.Test.YthoblccmdadmmaaHKept
import Derived.Test.YthoblccmdadmmaaHBoth
import Derived.Test.YthoblccmdadmmaaHA
import Derived.Deep.RegionHeld3
namespace Go.Proofs.Ythoblccmdadmmaa.roomFits
set_option linter.unusedVariables false
open Go.RowKit
open Pl (firstG findG putG It)

set_option maxRecDepth 100000 in
set_option maxHeartbeats 6400000 in
theorem walk0 (C : Cons) (h : Hs) (L : Nat → List (List Value)) (sb si : ByteArray) (nq v u : Int) (w : World) (hin : HIn h L w) (hn : Wf nq) (hv : Wf v) (hu : Wf u) :
    Calls Try.prog 9 #[.agg h.cells, .agg #[.string sb, .string si, .int .i64 nq, .int .i64 v, .int .i64 u]] w fun e w' => e = .returned (.bool true) ∧ Below w.heap.size w w' := by
  have HIN := Lib.hid hin
  have HCO := Lib.hid C
  have HAW : Hid (∀ W, Calls Try.prog 12 #[] W fun e w' => e = .returned (.bool true) ∧ Below W.heap.size W w') := Lib.hid (fun W => awake_any C W)
  have HWN := Lib.hid hn
  have HWV := Lib.hid hv
  have HWU := Lib.hid hu
  obtain ⟨W0, hW0⟩ : ∃ W0, W0 = ((w.alloc (.cells h.cells 37)).alloc (.cells #[.string sb, .string si, .int .i64 nq, .int .i64 v, .int .i64 u] 39)) := ⟨_, rfl⟩
  have B0 : Hid (Below w.heap.size w W0) := Lib.hid (by rw [hW0]; exact ((Below.refl _ _).alloc (Nat.le_refl _) _).alloc (by simp <;> omega) _)
  have HH0 : Hid (W0.heap[w.heap.size]? = some (.cells h.cells 37 (0, 0))) := Lib.hid (by
    rw [hW0]
    have hq := heap_alloc_new w (.cells h.cells 37)
    exact (Below.heap_alloc _ _ _ (by simp <;> omega)).trans (by simpa using hq))
  have HX0 : Hid (W0.heap[w.heap.size + 1]? = some (.cells #[.string sb, .string si, .int .i64 nq, .int .i64 v, .int .i64 u] 39 (0, 0))) := Lib.hid (by
    rw [hW0]
    have hq := heap_alloc_new (w.alloc (.cells h.cells 37)) (.cells #[.string sb, .string si, .int .i64 nq, .int .i64 v, .int .i64 u] 39)
    exact by simpa using hq)
  have huh := Try.underlying37
  have HSH : Hid (∀ a : Hs, (Try.prog.info? 37).map (·.size) = some a.cells.size) := Lib.hid (fun a => by kernel_rfl)
  have HSHL : Hid (∀ a : Hs, (Try.prog.info? 37).map (·.size) = some a.cells.toList.length) := Lib.hid (fun a => by kernel_rfl)
  have H1C : Hid (∀ a : Hs, a.cells.all (·.oneCell') = true) := Lib.hid (fun a => by simp [Hs.cells, Value.oneCell'])
  have huAsk := Try.underlying39
  have HSAsk : Hid ((Try.prog.info? 39).map (·.size) = some 5) := Lib.hid (by kernel_rfl)
  clear hin hn hv hu 
  subst hW0
  go_enter Try.func9, Try.ntmps9
  go_wp2_with (first
    | (refine wpList_load_row rfl 37 (.tmp 2) rfl w.heap.size rfl _ _ _ _ HH0.out huh rfl (HSH.out _) ?_)
    | fail)
  refine (small_calls h _).mono ?_
  rintro e w1 ⟨⟨b, rfl, hb⟩, hb1⟩
  have HH1 := Lib.hid ((hb1.block _ (lt_of_block HH0.out)).trans HH0.out)
  have HX1 := Lib.hid ((hb1.block _ (lt_of_block HX0.out)).trans HX0.out)
  have B1 := Lib.hid (B0.out.trans (hb1.mono B0.out.size))
  clear hb1
  cases b with
  | false =>
    clear hb
    go_wp2_with fail
    refine (HAW.out _).mono ?_
    rintro e w2 ⟨rfl, hb2⟩
    have HB2 := Lib.hid (B1.out.trans (hb2.mono B1.out.size))
    clear hb2
    go_wp2_with fail
    go_ret
    exact ⟨rfl, HB2.out⟩
  | true =>
    have HSM := Lib.hid (hb.1 rfl)
    clear hb
    have HT1 : Hid (HT h L w1) := Lib.hid (HIN.out.ht HSM.out B1.out)
    have HN : Hid (∀ i, i < 14 → h.n i ≤ 1000) := Lib.hid (fun i hi => Nat.le_trans (HSM.out i hi) (cap_le i hi))
    obtain ⟨r, hr⟩ : ∃ r : Int, ((roomE (L 0) (L 3) (L 4) sb si nq : Nat) : Int) = r := ⟨_, rfl⟩
    go_wp2_with fail
    have RHH : Hid (∀ X : BW w1, X.W.heap[w.heap.size]? = some (.cells h.cells 37 (0, 0))) := Lib.hid (fun X => (X.h.block _ (lt_of_block HH1.out)).trans HH1.out)
    have RHX : Hid (∀ X : BW w1, X.W.heap[w.heap.size + 1]? = some (.cells #[.string sb, .string si, .int .i64 nq, .int .i64 v, .int .i64 u] 39 (0, 0))) := Lib.hid (fun X => (X.h.block _ (lt_of_block HX1.out)).trans HX1.out)
    have x0 : ∀ X : BW w1, X.W.cell? ⟨w.heap.size + 1, 0, none⟩ = some (.string sb) := fun X => by rw [cell_of_block (RHX.out X)]; rfl
    have x1 : ∀ X : BW w1, X.W.cell? ⟨w.heap.size + 1, 1, none⟩ = some (.string si) := fun X => by rw [cell_of_block (RHX.out X)]; rfl
    have x2 : ∀ X : BW w1, X.W.cell? ⟨w.heap.size + 1, 2, none⟩ = some (.int .i64 nq) := fun X => by rw [cell_of_block (RHX.out X)]; rfl
    have C1 : Hid (∀ X : BW w1, Calls Try.prog 16 #[.agg h.cells, .string sb, .string si, .int .i64 nq] X.W fun e w' => e = .returned (.int .i64 r) ∧ Below X.W.heap.size X.W w') := Lib.hid (fun X => by rw [← hr]; exact HCO.out.fits h L sb si nq X.W (HT1.out.below X.h) HWN.out)
    have C2 : Hid (∀ X : BW w1, Calls Try.prog 17 #[.agg h.cells, .string sb, .string si, .int .i64 nq] X.W fun e w' => e = .returned (.int .i64 r) ∧ Below X.W.heap.size X.W w') := Lib.hid (fun X => by rw [← hr]; exact rfitsr_any h L sb si nq X.W (HT1.out.below X.h))
    clear hr
    refine wp_grow w1 (by kernel_rfl) (by kernel_rfl) (Below.refl _ _) ?_
    simp only []
    refine BigFrame.wpQuiet_want (by kernel_rfl) (fun K hK => quiet_load_mid 37 (.tmp 2) rfl w.heap.size 0 rfl h.cells.toList _ (fun W ⟨X, hX⟩ => by rw [hX]; exact range_row0 (RHH.out X)) huh rfl (HSHL.out _) (hK _ ?_))
    simp only [Act.put, List.setIfInBounds_toArray, List.set_cons_zero, List.set_cons_succ, Array.toArray_toList]
    iterate 6 go_big_quiet_step (fail)
    go_big_quiet_step (exact grow_call _ (C1.out _))
    refine BigFrame.wpQuiet_want (by kernel_rfl) (fun K hK => quiet_load_mid 37 (.tmp 2) rfl w.heap.size 0 rfl h.cells.toList _ (fun W ⟨X, hX⟩ => by rw [hX]; exact range_row0 (RHH.out X)) huh rfl (HSHL.out _) (hK _ ?_))
    simp only [Act.put, List.setIfInBounds_toArray, List.set_cons_zero, List.set_cons_succ, Array.toArray_toList]
    iterate 6 go_big_quiet_step (fail)
    go_big_quiet_step (exact grow_call _ (C2.out _))
    iterate 2 go_big_quiet_step (fail)
    go_big_quiet_step (exact grow_call _ (HAW.out _))
    iterate 2 go_big_quiet_step (fail)
    refine wpQuiet_nil ?_
    intro X
    go_wp2_with fail
    go_ret
    exact ⟨rfl, B1.out.trans (X.h.mono B1.out.size)⟩
theorem walk (C : Cons) (h : Hs) (L : Nat → List (List Value)) (cs : List Value) (w : World) (hin : HIn h L w) (fs : Fits kAsk cs) (ms : ∀ u ∈ cs, Mild u) :
    Calls Try.prog 9 #[.agg h.cells, .agg cs.toArray] w fun e w' => e = .returned (.bool true) ∧ Below w.heap.size w w' := by
  obtain ⟨s, t, n, v, u, rfl⟩ := ask_cells fs
  exact walk0 C h L s t n v u w hin (wf_of (ms (.int .i64 n) (by simp))) (wf_of (ms (.int .i64 v) (by simp))) (wf_of (ms (.int .i64 u) (by simp)))
end Go.Proofs.Ythoblccmdadmmaa.roomFits
