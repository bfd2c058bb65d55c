/-
  THE LAW IndexOpens, over the contracts. (By wip/tools/gen_laws15.py.)
-/
import Derived.Test.YtnkhnbpopdmkhaaWCon
import Derived.Test.YtnkhnbpopdmkhaaWAwake
import Derived.Test.YtnkhnbpopdmkhaaWRow
import Derived.Test.YtnkhnbpopdmkhaaHSmall
import Derived.Test.YtnkhnbpopdmkhaaHA
import Derived.Deep.RegionHeld3
namespace Go.Proofs.Ytnkhnbpopdmkhaa.indexOpens
set_option linter.unusedVariables false
open Go.RowKit
open Pl (firstG findG putG It)

set_option maxRecDepth 100000 in
set_option maxHeartbeats 6400000 in
theorem walk {IX : World → Nat → (Nat → Prop) → (Nat → List (List Value)) → Prop} (C : ConsX IX) (h : Hs) (L : Nat → List (List Value)) (s t : ByteArray) (w : World) (hin : HIn h L w) (us : s.size ≤ 140737488351232) (ut : t.size ≤ 140737488351232) :
    Calls Try.prog 5 #[.agg h.cells, .string s, .string t] w fun e w' => e = .returned (.bool true) ∧ Below w.heap.size w w' := by
  have HIN := Lib.hid hin
  have HCO := Lib.hid C
  have HAW : Hid (∀ W, Calls Try.prog 7 #[] W fun e w' => e = .returned (.bool true) ∧ Below W.heap.size W w') := Lib.hid (fun W => awake_any C W)
  obtain ⟨z, hz⟩ : ∃ r : Int, openZ L s t = r := ⟨_, rfl⟩
  have HZE := Lib.hid hz
  obtain ⟨W0, hW0⟩ : ∃ W0, W0 = (w.alloc (.cells h.cells 37)) := ⟨_, rfl⟩
  have B0 : Hid (Below w.heap.size w W0) := Lib.hid (by rw [hW0]; exact (Below.refl _ _).alloc (Nat.le_refl _) _)
  have HH0 : Hid (W0.heap[w.heap.size]? = some (.cells h.cells 37 (0, 0))) := Lib.hid (by
    rw [hW0]
    have hq := heap_alloc_new w (.cells h.cells 37)
    exact by simpa using hq)
  have huh := Try.underlying37
  have HSH : Hid (∀ a : Hs, (Try.prog.info? 37).map (·.size) = some a.cells.size) := Lib.hid (fun a => by kernel_rfl)
  have HSHL : Hid (∀ a : Hs, (Try.prog.info? 37).map (·.size) = some a.cells.toList.length) := Lib.hid (fun a => by kernel_rfl)
  have H1C : Hid (∀ a : Hs, a.cells.all (·.oneCell') = true) := Lib.hid (fun a => by simp [Hs.cells, Value.oneCell'])
  clear hin us ut hz
  subst hW0
  go_enter Try.func5, Try.ntmps5
  go_wp2_with (first
    | (refine wpList_load_row rfl 37 (.tmp 3) rfl w.heap.size rfl _ _ _ _ HH0.out huh rfl (HSH.out _) ?_)
    | fail)
  refine (small_calls h _).mono ?_
  rintro e w1 ⟨⟨b, rfl, hb⟩, hb1⟩
  have HH1 := Lib.hid ((hb1.block _ (lt_of_block HH0.out)).trans HH0.out)
  have B1 := Lib.hid (B0.out.trans (hb1.mono B0.out.size))
  clear hb1
  cases b with
  | false =>
    clear hb
    go_wp2_with fail
    refine (HAW.out _).mono ?_
    rintro e w2 ⟨rfl, hb2⟩
    have HB2 := Lib.hid (B1.out.trans (hb2.mono B1.out.size))
    clear hb2
    go_wp2_with fail
    go_ret
    exact ⟨rfl, HB2.out⟩
  | true =>
    have HSM := Lib.hid (hb.1 rfl)
    clear hb
    have HT1 : Hid (HT h L w1) := Lib.hid (HIN.out.ht HSM.out B1.out)
    have HN : Hid (∀ i, i < 14 → h.n i ≤ 1000) := Lib.hid (fun i hi => Nat.le_trans (HSM.out i hi) (cap_le i hi))
    go_wp2_with fail
    have RHH : Hid (∀ X : BW w1, X.W.heap[w.heap.size]? = some (.cells h.cells 37 (0, 0))) := Lib.hid (fun X => (X.h.block _ (lt_of_block HH1.out)).trans HH1.out)
    have CA : Hid (∀ X : BW w1, Calls Try.prog 11 #[.agg h.cells, .string s, .string t] X.W fun e w' => e = .returned (.int .i64 z) ∧ Below X.W.heap.size X.W w') := Lib.hid (fun X => by have := HCO.out.opens h L s t X.W (HT1.out.below X.h) HN.out; rwa [HZE.out] at this)
    have CB : Hid (∀ X : BW w1, Calls Try.prog 15 #[.agg h.cells, .string s, .string t] X.W fun e w' => e = .returned (.int .i64 z) ∧ Below X.W.heap.size X.W w') := Lib.hid (fun X => by have := ropen_any h L s t X.W (HT1.out.below X.h); rwa [HZE.out] at this)
    refine wp_grow w1 (by kernel_rfl) (by kernel_rfl) (Below.refl _ _) ?_
    simp only []
    refine BigFrame.wpQuiet_want (by kernel_rfl) (fun K hK => quiet_load_mid 37 (.tmp 3) rfl w.heap.size 0 rfl h.cells.toList _ (fun W ⟨X, hX⟩ => by rw [hX]; exact range_row0 (RHH.out X)) huh rfl (HSHL.out _) (hK _ ?_))
    simp only [Act.put, List.setIfInBounds_toArray, List.set_cons_zero, List.set_cons_succ, Array.toArray_toList]
    iterate 2 go_big_quiet_step (fail)
    go_big_quiet_step (exact grow_call _ (CA.out _))
    refine BigFrame.wpQuiet_want (by kernel_rfl) (fun K hK => quiet_load_mid 37 (.tmp 3) rfl w.heap.size 0 rfl h.cells.toList _ (fun W ⟨X, hX⟩ => by rw [hX]; exact range_row0 (RHH.out X)) huh rfl (HSHL.out _) (hK _ ?_))
    simp only [Act.put, List.setIfInBounds_toArray, List.set_cons_zero, List.set_cons_succ, Array.toArray_toList]
    iterate 2 go_big_quiet_step (fail)
    go_big_quiet_step (exact grow_call _ (CB.out _))
    iterate 2 go_big_quiet_step (fail)
    go_big_quiet_step (exact grow_call _ (HAW.out _))
    iterate 2 go_big_quiet_step (fail)
    refine wpQuiet_nil ?_
    intro X
    go_wp2_with fail
    go_ret
    exact ⟨rfl, B1.out.trans (X.h.mono B1.out.size)⟩
end Go.Proofs.Ytnkhnbpopdmkhaa.indexOpens
