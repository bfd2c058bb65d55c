/-
  THE LAW RoomOver, over the contracts. (By wip/tools/gen_laws11.py.)
-/
import Derived.Test.YthoblccmdadmmaaZCon
import Derived.Test.YthoblccmdadmmaaZRow
import Derived.Test.YthoblccmdadmmaaHSmall
import Derived.Test.YthoblccmdadmmaaHKept
import Derived.Test.YthoblccmdadmmaaHBoth
import Derived.Test.YthoblccmdadmmaaHA
import Derived.Deep.RegionHeld3
namespace Go.Proofs.Ythoblccmdadmmaa.roomOver
set_option linter.unusedVariables false
open Go.RowKit
open Pl (firstG findG putG It)

set_option maxRecDepth 100000 in
set_option maxHeartbeats 6400000 in
theorem walk0 (C : Cons) (h : Hs) (L : Nat → List (List Value)) (w : World) (hin : HIn h L w) :
    Calls Try.prog 10 #[.agg h.cells] w fun e w' => e = .returned (.bool true) ∧ Below w.heap.size w w' := by
  have HIN := Lib.hid hin
  have HCO := Lib.hid C
  have HAW : Hid (∀ W, Calls Try.prog 12 #[] W fun e w' => e = .returned (.bool true) ∧ Below W.heap.size W w') := Lib.hid (fun W => awake_any C W)
  obtain ⟨W0, hW0⟩ : ∃ W0, W0 = (w.alloc (.cells h.cells 37)) := ⟨_, rfl⟩
  have B0 : Hid (Below w.heap.size w W0) := Lib.hid (by rw [hW0]; exact (Below.refl _ _).alloc (Nat.le_refl _) _)
  have HH0 : Hid (W0.heap[w.heap.size]? = some (.cells h.cells 37 (0, 0))) := Lib.hid (by
    rw [hW0]
    have hq := heap_alloc_new w (.cells h.cells 37)
    exact by simpa using hq)
  have huh := Try.underlying37
  have HSH : Hid (∀ a : Hs, (Try.prog.info? 37).map (·.size) = some a.cells.size) := Lib.hid (fun a => by kernel_rfl)
  have HSHL : Hid (∀ a : Hs, (Try.prog.info? 37).map (·.size) = some a.cells.toList.length) := Lib.hid (fun a => by kernel_rfl)
  have H1C : Hid (∀ a : Hs, a.cells.all (·.oneCell') = true) := Lib.hid (fun a => by simp [Hs.cells, Value.oneCell'])
  have huAsk := Try.underlying39
  have HSAsk : Hid ((Try.prog.info? 39).map (·.size) = some 5) := Lib.hid (by kernel_rfl)
  clear hin 
  subst hW0
  go_enter Try.func10, Try.ntmps10
  go_wp2_with (first
    | (refine wpList_load_row rfl 37 (.tmp 1) rfl w.heap.size rfl _ _ _ _ HH0.out huh rfl (HSH.out _) ?_)
    | fail)
  refine (small_calls h _).mono ?_
  rintro e w1 ⟨⟨b, rfl, hb⟩, hb1⟩
  have HH1 := Lib.hid ((hb1.block _ (lt_of_block HH0.out)).trans HH0.out)
  have B1 := Lib.hid (B0.out.trans (hb1.mono B0.out.size))
  clear hb1
  cases b with
  | false =>
    clear hb
    go_wp2_with fail
    refine (HAW.out _).mono ?_
    rintro e w2 ⟨rfl, hb2⟩
    have HB2 := Lib.hid (B1.out.trans (hb2.mono B1.out.size))
    clear hb2
    go_wp2_with fail
    go_ret
    exact ⟨rfl, HB2.out⟩
  | true =>
    have HSM := Lib.hid (hb.1 rfl)
    clear hb
    have HT1 : Hid (HT h L w1) := Lib.hid (HIN.out.ht HSM.out B1.out)
    have HN : Hid (∀ i, i < 14 → h.n i ≤ 1000) := Lib.hid (fun i hi => Nat.le_trans (HSM.out i hi) (cap_le i hi))
    have HLE : Hid ((overL (L 0) (L 3) (L 4)).length ≤ 1000000) := Lib.hid (Nat.le_trans (overL_le _ _ _) (by rw [← (HT1.out 3 (by decide)).1]; exact (HT1.out 3 (by decide)).2.1))
    go_wp2_with fail
    have HST : Hid (∀ X, Below w1.heap.size w1 X → X.rangeAt w.heap.size 0 h.cells.toList) := Lib.hid (fun X hX => range_row0 ((hX.block _ (lt_of_block HH1.out)).trans HH1.out))
    have BN := Lib.hid (Below.refl w1.heap.size w1).drew
    have ST0 := HST.out _ BN.out
    refine wp_region_noPanic ?_
    refine wp_region_held_drew (S := (fun w' => w'.rangeAt w.heap.size 0 h.cells.toList)) (by kernel_rfl) ST0 (fun dd0 => ?_)
    refine wpAnyH_take (i := 0) (v := .agg h.cells) rfl (by kernel_rfl) (by kernel_rfl) (by kernel_rfl) (fun _ _ _ h => h.elim) (yieldsIf_load_mid (by kernel_rfl) 37 (.tmp 1) rfl w.heap.size 0 rfl h.cells.toList _ (fun w h => h) huh rfl (HSHL.out _)) (by assumption) ?_
    (try simp only [Act.put, List.getElem_toArray, List.getElem_cons_zero, List.setIfInBounds_toArray, List.set_cons_zero, List.set_cons_succ])
    refine wpAnyH_take (i := 2) (v := .agg h.cells) rfl (by kernel_rfl) (by kernel_rfl) (by kernel_rfl) (fun _ _ _ h => h.elim) (yieldsIf_load_mid (by kernel_rfl) 37 (.tmp 1) rfl w.heap.size 0 rfl h.cells.toList _ (fun w h => h) huh rfl (HSHL.out _)) (by assumption) ?_
    (try simp only [Act.put, List.getElem_toArray, List.getElem_cons_succ, List.getElem_cons_zero, List.setIfInBounds_toArray, List.set_cons_zero, List.set_cons_succ])
    refine wpAnyH_ready (rs := [1]) (by kernel_rfl) (by simp) ?_
    refine AllReadyH.cons rfl (fun K' hK => ?_) AllReadyH.nil
    go_simp
    refine (HCO.out.over h L _ (HT1.out.below BN.out)).mono ?_
    rintro e wn ⟨A1, n1, c1, rfl, hn1, _, _, ho1, hbn⟩
    have HO1 := Lib.hid ho1
    have HN1 := Lib.hid hn1
    clear ho1 hn1
    have BN := Lib.hid (BN.out.trans (hbn.mono BN.out.size))
    clear hbn
    refine hK.out _ _ (HST.out _ BN.out) (fun _ => ?_)
    clear hK K'
    (try simp only [Act.put, List.getElem_toArray, List.getElem_cons_succ, List.getElem_cons_zero, List.setIfInBounds_toArray, List.set_cons_zero, List.set_cons_succ])
    refine wpAnyH_ready (rs := [3]) (by kernel_rfl) (by simp) ?_
    refine AllReadyH.cons rfl (fun K' hK => ?_) AllReadyH.nil
    go_simp
    refine (rover_any h L _ (HT1.out.below BN.out)).mono ?_
    rintro e wn ⟨A2, n2, c2, rfl, hn2, _, _, ho2, hbn⟩
    have HO1 := Lib.hid ((HO1.out.below hbn).mono hbn.size)
    have HO2 := Lib.hid ho2
    have HN2 := Lib.hid hn2
    clear ho2 hn2
    have BN := Lib.hid (BN.out.trans (hbn.mono BN.out.size))
    clear hbn
    refine hK.out _ _ (HST.out _ BN.out) (fun _ => ?_)
    clear hK K'
    (try simp only [Act.put, List.getElem_toArray, List.getElem_cons_succ, List.getElem_cons_zero, List.setIfInBounds_toArray, List.set_cons_zero, List.set_cons_succ])
    refine wpAnyH_ready (rs := [4]) (by kernel_rfl) (by simp) ?_
    refine AllReadyH.cons rfl (fun K' hK => ?_) AllReadyH.nil
    go_simp
    refine (ltexts_any A1 A2 n1 c1 n2 c2 (overL (L 0) (L 3) (L 4)) _ HN1.out HN2.out HLE.out HO1.out HO2.out).mono ?_
    rintro e wn ⟨rfl, hbn⟩
    have BN := Lib.hid (BN.out.trans (hbn.mono BN.out.size))
    clear hbn
    refine hK.out _ _ (HST.out _ BN.out) (fun _ => ?_)
    clear hK K'
    (try simp only [Act.put, List.getElem_toArray, List.getElem_cons_succ, List.getElem_cons_zero, List.setIfInBounds_toArray, List.set_cons_zero, List.set_cons_succ])
    refine wpAnyH_take (i := 5) (v := .bool true) rfl (by kernel_rfl) (by kernel_rfl) (by kernel_rfl) (fun _ _ _ h => h.elim) (.inl ⟨by kernel_rfl, fun w hw => by clear hw; go_simp⟩) (by assumption) ?_
    (try simp only [Act.put, List.getElem_toArray, List.getElem_cons_succ, List.getElem_cons_zero, List.setIfInBounds_toArray, List.set_cons_zero, List.set_cons_succ])
    refine wpAnyH_ready (rs := [6]) (by kernel_rfl) (by simp) ?_
    refine AllReadyH.cons rfl (fun K' hK => ?_) AllReadyH.nil
    go_simp
    refine (HAW.out _).mono ?_
    rintro e wn ⟨rfl, hbn⟩
    have BN := Lib.hid (BN.out.trans (hbn.mono BN.out.size))
    clear hbn
    refine hK.out _ _ (HST.out _ BN.out) (fun _ => ?_)
    clear hK K'
    (try simp only [Act.put, List.getElem_toArray, List.getElem_cons_succ, List.getElem_cons_zero, List.setIfInBounds_toArray, List.set_cons_zero, List.set_cons_succ])
    refine wpAnyH_take (i := 7) (v := .bool true) rfl (by kernel_rfl) (by kernel_rfl) (by kernel_rfl) (fun _ _ _ h => h.elim) (.inl ⟨by kernel_rfl, fun w hw => by clear hw; go_simp⟩) (by assumption) ?_
    (try simp only [Act.put, List.getElem_toArray, List.getElem_cons_succ, List.getElem_cons_zero, List.setIfInBounds_toArray, List.set_cons_zero, List.set_cons_succ])
    refine wpAnyH_take (i := 8) (v := .bool true) rfl (by kernel_rfl) (by kernel_rfl) (by kernel_rfl) (fun _ _ _ h => h.elim) (.inl ⟨by kernel_rfl, fun w hw => by clear hw; go_simp⟩) (by assumption) ?_
    (try simp only [Act.put, List.getElem_toArray, List.getElem_cons_succ, List.getElem_cons_zero, List.setIfInBounds_toArray, List.set_cons_zero, List.set_cons_succ])
    refine wpAnyH_done (by kernel_rfl) ?_ _
    refine NoPanic.normal ?_
    clear ST0
    go_wp2_with fail
    go_ret
    exact ⟨rfl, B1.out.trans (BN.out.mono B1.out.size)⟩
theorem walk (C : Cons) (h : Hs) (L : Nat → List (List Value)) (w : World) (hin : HIn h L w) :
    Calls Try.prog 10 #[.agg h.cells] w fun e w' => e = .returned (.bool true) ∧ Below w.heap.size w w' := walk0 C h L w hin
end Go.Proofs.Ythoblccmdadmmaa.roomOver
