/-
  THE LAW IndexNaive, over the contracts. (By wip/tools/gen_laws15.py.)
-/
import Derived.Test.YtnkhnbpopdmkhaaGreatWCon
import Derived.Test.YtnkhnbpopdmkhaaGreatWAwake
import Derived.Test.YtnkhnbpopdmkhaaGreatWRow
import Derived.Test.YtnkhnbpopdmkhaaGreatHSmall
import Derived.Test.YtnkhnbpopdmkhaaGreatHA
import Derived.Test.YtnkhnbpopdmkhaaGreatWSame
import Derived.Test.YtnkhnbpopdmkhaaGreatWRefB
import Derived.Test.YtnkhnbpopdmkhaaGreatHKept
import Derived.Test.YtnkhnbpopdmkhaaGreatHLent
import Derived.Deep.RegionHeld3
namespace Go.Proofs.YtnkhnbpopdmkhaaGreat.indexNaive
set_option linter.unusedVariables false
open Go.RowKit
open Pl (firstG findG putG It)

set_option maxRecDepth 100000 in
set_option maxHeartbeats 6400000 in
theorem walk0 {IX : World → Nat → (Nat → Prop) → (Nat → List (List Value)) → Prop} (C : ConsX IX) (h : Hs) (L : Nat → List (List Value)) (s t : ByteArray) (nq : Int) (w : World) (hin : HIn h L w) (hn : Wf nq) :
    Calls Tryz.prog 3 #[.agg h.cells, .agg #[.string s, .string t, .int .i64 nq]] w fun e w' => e = .returned (.bool true) ∧ Below w.heap.size w w' := by
  have HIN := Lib.hid hin
  have HCO := Lib.hid C
  have HWN := Lib.hid hn
  have HAW : Hid (∀ W, Calls Tryz.prog 6 #[] W fun e w' => e = .returned (.bool true) ∧ Below W.heap.size W w') := Lib.hid (fun W => awake_any C W)
  obtain ⟨zo, hz⟩ : ∃ r : Int, openZ L s t = r := ⟨_, rfl⟩
  have HZE := Lib.hid hz
  obtain ⟨pl, hpl⟩ : ∃ r, pickL L s t nq = r := ⟨_, rfl⟩
  have HPL := Lib.hid hpl
  have HPT : Hid (Things kTake pl) := Lib.hid (by rw [← hpl]; exact things_pick L s t nq)
  obtain ⟨W0, hW0⟩ : ∃ W0, W0 = ((w.alloc (.cells h.cells 37)).alloc (.cells #[.string s, .string t, .int .i64 nq] 39)) := ⟨_, rfl⟩
  have B0 : Hid (Below w.heap.size w W0) := Lib.hid (by rw [hW0]; exact ((Below.refl _ _).alloc (Nat.le_refl _) _).alloc (by simp <;> omega) _)
  have HH0 : Hid (W0.heap[w.heap.size]? = some (.cells h.cells 37 (0, 0))) := Lib.hid (by
    rw [hW0]
    have hq := heap_alloc_new w (.cells h.cells 37)
    exact (Below.heap_alloc _ _ _ (by simp <;> omega)).trans (by simpa using hq))
  have HX0 : Hid (W0.heap[w.heap.size + 1]? = some (.cells #[.string s, .string t, .int .i64 nq] 39 (0, 0))) := Lib.hid (by
    rw [hW0]
    have hq := heap_alloc_new (w.alloc (.cells h.cells 37)) (.cells #[.string s, .string t, .int .i64 nq] 39)
    exact by simpa using hq)
  have huh := Tryz.underlying37
  have HSH : Hid (∀ a : Hs, (Tryz.prog.info? 37).map (·.size) = some a.cells.size) := Lib.hid (fun a => by kernel_rfl)
  have HSHL : Hid (∀ a : Hs, (Tryz.prog.info? 37).map (·.size) = some a.cells.toList.length) := Lib.hid (fun a => by kernel_rfl)
  have H1C : Hid (∀ a : Hs, a.cells.all (·.oneCell') = true) := Lib.hid (fun a => by simp [Hs.cells, Value.oneCell'])
  have huAsk := Tryz.underlying39
  have HSAsk : Hid ((Tryz.prog.info? 39).map (·.size) = some 3) := Lib.hid (by kernel_rfl)
  clear hin hn hz hpl
  subst hW0
  go_enter Tryz.func3, Tryz.ntmps3
  go_wp2_with (first
    | (refine wpList_load_row rfl 37 (.tmp 2) rfl w.heap.size rfl _ _ _ _ HH0.out huh rfl (HSH.out _) ?_)
    | fail)
  refine (small_calls h _).mono ?_
  rintro e w1 ⟨⟨b, rfl, hb⟩, hb1⟩
  have HH1 := Lib.hid ((hb1.block _ (lt_of_block HH0.out)).trans HH0.out)
  have HX1 := Lib.hid ((hb1.block _ (lt_of_block HX0.out)).trans HX0.out)
  have B1 := Lib.hid (B0.out.trans (hb1.mono B0.out.size))
  clear hb1
  cases b with
  | false =>
    clear hb
    go_wp2_with fail
    refine (HAW.out _).mono ?_
    rintro e w2 ⟨rfl, hb2⟩
    have HB2 := Lib.hid (B1.out.trans (hb2.mono B1.out.size))
    clear hb2
    go_wp2_with fail
    go_ret
    exact ⟨rfl, HB2.out⟩
  | true =>
    have HSM := Lib.hid (hb.1 rfl)
    clear hb
    have HT1 : Hid (HT h L w1) := Lib.hid (HIN.out.ht HSM.out B1.out)
    have HN : Hid (∀ i, i < 14 → h.n i ≤ 1000) := Lib.hid (fun i hi => Nat.le_trans (HSM.out i hi) (cap_le i hi))
    have HPN : Hid (pl.length ≤ 1000000) := Lib.hid (by rw [← HPL.out]; refine Nat.le_trans (pick_len L s t nq) ?_; rw [← (HT1.out 4 (by decide)).1]; exact Nat.le_trans (HN.out 4 (by decide)) (by decide))
    go_wp2_with (first
      | (refine wpList_load_row rfl 37 (.tmp 2) rfl w.heap.size rfl _ _ _ _ HH1.out huh rfl (HSH.out _) ?_)
      | fail)
    refine (lents_calls h L _ HT1.out HN.out).mono ?_
    rintro e w2 ⟨own, rfl, hz, hlt, hb2⟩
    obtain ⟨gg, n, c, z, hcell, hze, hn', hc', hnn, hbb, hot⟩ := lent_own hlt HT1.out (fun i hi => HSM.out i hi)
    have HH2 := Lib.hid ((hb2.block _ (lt_of_block HH1.out)).trans HH1.out)
    have HX2 := Lib.hid ((hb2.block _ (lt_of_block HX1.out)).trans HX1.out)
    have B2 := Lib.hid (B1.out.trans (hb2.mono B1.out.size))
    have HT2 := Lib.hid (HT1.out.below hb2)
    have hzz : z = h.z := hze.trans hz
    obtain ⟨own2, how⟩ : ∃ o, o = Hs.mk (fun i => some ⟨gg i, 0, none⟩) n c z := ⟨_, rfl⟩
    rw [show own.val = .agg own2.cells from by rw [Hs.val_cells, hcell, how]]
    rw [← how] at hot
    have HOW := Lib.hid how
    have OWN2 := Lib.hid hot
    have HNN := Lib.hid hn'
    have HCC := Lib.hid hc'
    have HN6 := Lib.hid hnn
    have HBH2 : Hid (KB gg n w2) := Lib.hid hbb
    have HZZ := Lib.hid hzz
    have HZO : Hid (own2.z = h.z) := Lib.hid (by rw [how]; exact hzz)
    have HNO : Hid (∀ i, i < 14 → own2.n i ≤ 1000) := Lib.hid (by rw [how]; exact hnn)
    have HCP : Hid (Caps own2) := Lib.hid (by rw [how]; exact fun i hi => ⟨Nat.le_of_succ_le (hc' i hi).1, (hc' i hi).2⟩)
    clear hz hlt hb2 hn' hc' hnn hbb hot how hcell hze hzz own
    have HQ3 : Hid ((w2.alloc (.cells #[.slice none 0 0, .slice none 0 0, .slice none 0 0, .slice none 0 0, .slice none 0 0, .slice none 0 0, .slice none 0 0, .slice none 0 0, .slice none 0 0, .slice none 0 0, .slice none 0 0, .slice none 0 0, .slice none 0 0, .slice none 0 0, .int .i64 0] 37)).heap[w2.heap.size]? = some (.cells #[.slice none 0 0, .slice none 0 0, .slice none 0 0, .slice none 0 0, .slice none 0 0, .slice none 0 0, .slice none 0 0, .slice none 0 0, .slice none 0 0, .slice none 0 0, .slice none 0 0, .slice none 0 0, .slice none 0 0, .slice none 0 0, .int .i64 0] 37 (0, 0))) := Lib.hid (heap_alloc_new _ _)
    obtain ⟨w3, hw3⟩ : ∃ w', w' = (w2.alloc (.cells #[.slice none 0 0, .slice none 0 0, .slice none 0 0, .slice none 0 0, .slice none 0 0, .slice none 0 0, .slice none 0 0, .slice none 0 0, .slice none 0 0, .slice none 0 0, .slice none 0 0, .slice none 0 0, .slice none 0 0, .slice none 0 0, .int .i64 0] 37)).setRow w2.heap.size own2.cells := ⟨_, rfl⟩
    have hb3 : Below w2.heap.size w2 w3 := by rw [hw3]; exact setRow_below ((Below.refl _ _).alloc (Nat.le_refl _) _) (Nat.le_refl _) _
    have HH3 := Lib.hid ((hb3.block _ (lt_of_block HH2.out)).trans HH2.out)
    have HX3 := Lib.hid ((hb3.block _ (lt_of_block HX2.out)).trans HX2.out)
    have B3 := Lib.hid (B2.out.trans (hb3.mono B2.out.size))
    have HT3 := Lib.hid (HT2.out.below hb3)
    have OWN3 := Lib.hid (OWN2.out.below hb3)
    have HBH3 := Lib.hid (HBH2.out.below hb3)
    have HO3 : Hid (w3.heap[w2.heap.size]? = some (.cells own2.cells 37 (0, 0))) := Lib.hid (by rw [hw3]; exact setRow_heap _ _ _ _ _ _ HQ3.out)
    have HW3 := Lib.hid hw3
    clear hb3 hw3
    have CNA : Hid (∀ W, HT own2 L W → Calls Tryz.prog 9 #[.agg own2.cells, .string s, .string t, .int .i64 nq] W (TakesP pl W)) := Lib.hid (fun W hW => by rw [← HPL.out]; exact HCO.out.naive own2 L s t nq W hW HNO.out HWN.out)
    have CNB : Hid (∀ W, HT h L W → Calls Tryz.prog 10 #[.agg h.cells, .string s, .string t, .int .i64 nq] W (TakesP pl W)) := Lib.hid (fun W hW => by rw [← HPL.out]; exact rnaive_any h L s t nq W hW (HN.out 4 (by decide)) HWN.out)
    have COA : Hid (∀ W, HT own2 L W → Calls Tryz.prog 11 #[.agg own2.cells, .string s, .string t] W fun e w' => e = .returned (.int .i64 zo) ∧ Below W.heap.size W w') := Lib.hid (fun W hW => by rw [← HZE.out]; exact HCO.out.opens own2 L s t W hW HNO.out)
    have COB : Hid (∀ W, HT h L W → Calls Tryz.prog 12 #[.agg h.cells, .string s, .string t] W fun e w' => e = .returned (.int .i64 zo) ∧ Below W.heap.size W w') := Lib.hid (fun W hW => by rw [← HZE.out]; exact ropen_any h L s t W hW)
    go_wp2_with (first
      | (refine wpList_store_row rfl 37 (.tmp 5) (.tmp 11) rfl w2.heap.size own2.cells rfl rfl _ _ HQ3.out (HSH.out _) rfl (H1C.out _) ?_; rw [← HW3.out])
      | fail)
    have HST : Hid (∀ X, Below w3.heap.size w3 X → X.rangeAt w2.heap.size 0 own2.cells.toList ∧ X.cell? ⟨(w.heap.size + 1), 0, none⟩ = some (.string s) ∧ X.cell? ⟨(w.heap.size + 1), 1, none⟩ = some (.string t) ∧ X.cell? ⟨(w.heap.size + 1), 2, none⟩ = some (.int .i64 nq) ∧ X.rangeAt w.heap.size 0 h.cells.toList) := Lib.hid (fun X hX => ⟨range_row0 ((hX.block _ (lt_of_block HO3.out)).trans HO3.out), (by rw [cell_of_block ((hX.block _ (lt_of_block HX3.out)).trans HX3.out)]; rfl), (by rw [cell_of_block ((hX.block _ (lt_of_block HX3.out)).trans HX3.out)]; rfl), (by rw [cell_of_block ((hX.block _ (lt_of_block HX3.out)).trans HX3.out)]; rfl), range_row0 ((hX.block _ (lt_of_block HH3.out)).trans HH3.out)⟩)
    have BN := Lib.hid (Below.refl w3.heap.size w3).drew
    have ST0 := HST.out _ BN.out
    refine wp_region_noPanic ?_
    refine wp_region_held_drew (S := (fun w' => w'.rangeAt w2.heap.size 0 own2.cells.toList ∧ w'.cell? ⟨(w.heap.size + 1), 0, none⟩ = some (.string s) ∧ w'.cell? ⟨(w.heap.size + 1), 1, none⟩ = some (.string t) ∧ w'.cell? ⟨(w.heap.size + 1), 2, none⟩ = some (.int .i64 nq) ∧ w'.rangeAt w.heap.size 0 h.cells.toList)) (by kernel_rfl) ST0 (fun dd0 => ?_)
    refine wpAnyH_take (i := 0) (v := .agg own2.cells) rfl (by kernel_rfl) (by kernel_rfl) (by kernel_rfl) (fun _ _ _ h => h.elim) (yieldsIf_load_mid (by kernel_rfl) 37 (.tmp 5) rfl w2.heap.size 0 rfl own2.cells.toList _ (fun w h => h.1) huh rfl (HSHL.out _)) (by assumption) ?_
    (try simp only [Act.put, List.getElem_toArray, List.getElem_cons_zero, List.setIfInBounds_toArray, List.set_cons_zero, List.set_cons_succ])
    refine wpAnyH_take (i := 1) (v := .pointer (some ⟨(w.heap.size + 1), 0, none⟩)) rfl (by kernel_rfl) (by kernel_rfl) (by kernel_rfl) (fun _ _ _ h => h.elim) (.inl ⟨by kernel_rfl, fun w hw => by clear hw; go_simp⟩) (by assumption) ?_
    (try simp only [Act.put, List.getElem_toArray, List.getElem_cons_succ, List.getElem_cons_zero, List.setIfInBounds_toArray, List.set_cons_zero, List.set_cons_succ])
    refine wpAnyH_take (i := 2) (v := .string s) rfl (by kernel_rfl) (by kernel_rfl) (by kernel_rfl) (fun _ _ _ h => h.elim) (.inl ⟨by kernel_rfl, fun w h => by have hw := h.2.1; clear h; go_simp⟩) (by assumption) ?_
    (try simp only [Act.put, List.getElem_toArray, List.getElem_cons_succ, List.getElem_cons_zero, List.setIfInBounds_toArray, List.set_cons_zero, List.set_cons_succ])
    refine wpAnyH_take (i := 3) (v := .pointer (some ⟨(w.heap.size + 1), 1, none⟩)) rfl (by kernel_rfl) (by kernel_rfl) (by kernel_rfl) (fun _ _ _ h => h.elim) (.inl ⟨by kernel_rfl, fun w hw => by clear hw; go_simp⟩) (by assumption) ?_
    (try simp only [Act.put, List.getElem_toArray, List.getElem_cons_succ, List.getElem_cons_zero, List.setIfInBounds_toArray, List.set_cons_zero, List.set_cons_succ])
    refine wpAnyH_take (i := 4) (v := .string t) rfl (by kernel_rfl) (by kernel_rfl) (by kernel_rfl) (fun _ _ _ h => h.elim) (.inl ⟨by kernel_rfl, fun w h => by have hw := h.2.2.1; clear h; go_simp⟩) (by assumption) ?_
    (try simp only [Act.put, List.getElem_toArray, List.getElem_cons_succ, List.getElem_cons_zero, List.setIfInBounds_toArray, List.set_cons_zero, List.set_cons_succ])
    refine wpAnyH_take (i := 5) (v := .pointer (some ⟨(w.heap.size + 1), 2, none⟩)) rfl (by kernel_rfl) (by kernel_rfl) (by kernel_rfl) (fun _ _ _ h => h.elim) (.inl ⟨by kernel_rfl, fun w hw => by clear hw; go_simp⟩) (by assumption) ?_
    (try simp only [Act.put, List.getElem_toArray, List.getElem_cons_succ, List.getElem_cons_zero, List.setIfInBounds_toArray, List.set_cons_zero, List.set_cons_succ])
    refine wpAnyH_take (i := 6) (v := .int .i64 nq) rfl (by kernel_rfl) (by kernel_rfl) (by kernel_rfl) (fun _ _ _ h => h.elim) (.inl ⟨by kernel_rfl, fun w h => by have hw := h.2.2.2.1; clear h; go_simp⟩) (by assumption) ?_
    (try simp only [Act.put, List.getElem_toArray, List.getElem_cons_succ, List.getElem_cons_zero, List.setIfInBounds_toArray, List.set_cons_zero, List.set_cons_succ])
    refine wpAnyH_take (i := 8) (v := .agg h.cells) rfl (by kernel_rfl) (by kernel_rfl) (by kernel_rfl) (fun _ _ _ h => h.elim) (yieldsIf_load_mid (by kernel_rfl) 37 (.tmp 2) rfl w.heap.size 0 rfl h.cells.toList _ (fun w h => h.2.2.2.2) huh rfl (HSHL.out _)) (by assumption) ?_
    (try simp only [Act.put, List.getElem_toArray, List.getElem_cons_succ, List.getElem_cons_zero, List.setIfInBounds_toArray, List.set_cons_zero, List.set_cons_succ])
    refine wpAnyH_take (i := 9) (v := .pointer (some ⟨(w.heap.size + 1), 0, none⟩)) rfl (by kernel_rfl) (by kernel_rfl) (by kernel_rfl) (fun _ _ _ h => h.elim) (.inl ⟨by kernel_rfl, fun w hw => by clear hw; go_simp⟩) (by assumption) ?_
    (try simp only [Act.put, List.getElem_toArray, List.getElem_cons_succ, List.getElem_cons_zero, List.setIfInBounds_toArray, List.set_cons_zero, List.set_cons_succ])
    refine wpAnyH_take (i := 10) (v := .string s) rfl (by kernel_rfl) (by kernel_rfl) (by kernel_rfl) (fun _ _ _ h => h.elim) (.inl ⟨by kernel_rfl, fun w h => by have hw := h.2.1; clear h; go_simp⟩) (by assumption) ?_
    (try simp only [Act.put, List.getElem_toArray, List.getElem_cons_succ, List.getElem_cons_zero, List.setIfInBounds_toArray, List.set_cons_zero, List.set_cons_succ])
    refine wpAnyH_take (i := 11) (v := .pointer (some ⟨(w.heap.size + 1), 1, none⟩)) rfl (by kernel_rfl) (by kernel_rfl) (by kernel_rfl) (fun _ _ _ h => h.elim) (.inl ⟨by kernel_rfl, fun w hw => by clear hw; go_simp⟩) (by assumption) ?_
    (try simp only [Act.put, List.getElem_toArray, List.getElem_cons_succ, List.getElem_cons_zero, List.setIfInBounds_toArray, List.set_cons_zero, List.set_cons_succ])
    refine wpAnyH_take (i := 12) (v := .string t) rfl (by kernel_rfl) (by kernel_rfl) (by kernel_rfl) (fun _ _ _ h => h.elim) (.inl ⟨by kernel_rfl, fun w h => by have hw := h.2.2.1; clear h; go_simp⟩) (by assumption) ?_
    (try simp only [Act.put, List.getElem_toArray, List.getElem_cons_succ, List.getElem_cons_zero, List.setIfInBounds_toArray, List.set_cons_zero, List.set_cons_succ])
    refine wpAnyH_take (i := 13) (v := .pointer (some ⟨(w.heap.size + 1), 2, none⟩)) rfl (by kernel_rfl) (by kernel_rfl) (by kernel_rfl) (fun _ _ _ h => h.elim) (.inl ⟨by kernel_rfl, fun w hw => by clear hw; go_simp⟩) (by assumption) ?_
    (try simp only [Act.put, List.getElem_toArray, List.getElem_cons_succ, List.getElem_cons_zero, List.setIfInBounds_toArray, List.set_cons_zero, List.set_cons_succ])
    refine wpAnyH_take (i := 14) (v := .int .i64 nq) rfl (by kernel_rfl) (by kernel_rfl) (by kernel_rfl) (fun _ _ _ h => h.elim) (.inl ⟨by kernel_rfl, fun w h => by have hw := h.2.2.2.1; clear h; go_simp⟩) (by assumption) ?_
    (try simp only [Act.put, List.getElem_toArray, List.getElem_cons_succ, List.getElem_cons_zero, List.setIfInBounds_toArray, List.set_cons_zero, List.set_cons_succ])
    refine wpAnyH_ready (rs := [7]) (by kernel_rfl) (by simp) ?_
    refine AllReadyH.cons rfl (fun K' hK => ?_) AllReadyH.nil
    go_simp
    refine (CNA.out _ (OWN3.out.below BN.out)).mono ?_
    rintro e wn ⟨hbn, A1, c1, rfl, ho⟩
    have HO1 := Lib.hid ho
    clear ho
    have BN := Lib.hid (BN.out.trans (hbn.mono BN.out.size))
    clear hbn
    refine hK.out _ _ (HST.out _ BN.out) (fun _ => ?_)
    clear hK K'
    (try simp only [Act.put, List.getElem_toArray, List.getElem_cons_succ, List.getElem_cons_zero, List.setIfInBounds_toArray, List.set_cons_zero, List.set_cons_succ])
    refine wpAnyH_ready (rs := [15]) (by kernel_rfl) (by simp) ?_
    refine AllReadyH.cons rfl (fun K' hK => ?_) AllReadyH.nil
    go_simp
    refine (CNB.out _ (HT3.out.below BN.out)).mono ?_
    rintro e wn ⟨hbn, A2, c2, rfl, ho⟩
    have HO2 := Lib.hid ho
    have HO1 := Lib.hid ((HO1.out.below hbn).mono hbn.size)
    clear ho
    have BN := Lib.hid (BN.out.trans (hbn.mono BN.out.size))
    clear hbn
    refine hK.out _ _ (HST.out _ BN.out) (fun _ => ?_)
    clear hK K'
    (try simp only [Act.put, List.getElem_toArray, List.getElem_cons_succ, List.getElem_cons_zero, List.setIfInBounds_toArray, List.set_cons_zero, List.set_cons_succ])
    refine wpAnyH_ready (rs := [16]) (by kernel_rfl) (by simp) ?_
    refine AllReadyH.cons rfl (fun K' hK => ?_) AllReadyH.nil
    go_simp
    refine (same_any A1 A2 pl.length c1 c2 pl _ rfl HPN.out HPT.out HO1.out HO2.out).mono ?_
    rintro e wn ⟨rfl, hbn⟩
    have BN := Lib.hid (BN.out.trans (hbn.mono BN.out.size))
    clear hbn
    refine hK.out _ _ (HST.out _ BN.out) (fun _ => ?_)
    clear hK K'
    (try simp only [Act.put, List.getElem_toArray, List.getElem_cons_succ, List.getElem_cons_zero, List.setIfInBounds_toArray, List.set_cons_zero, List.set_cons_succ])
    refine wpAnyH_take (i := 17) (v := .bool true) rfl (by kernel_rfl) (by kernel_rfl) (by kernel_rfl) (fun _ _ _ h => h.elim) (.inl ⟨by kernel_rfl, fun w hw => by clear hw; go_simp⟩) (by assumption) ?_
    (try simp only [Act.put, List.getElem_toArray, List.getElem_cons_succ, List.getElem_cons_zero, List.setIfInBounds_toArray, List.set_cons_zero, List.set_cons_succ])
    refine wpAnyH_take (i := 18) (v := .agg own2.cells) rfl (by kernel_rfl) (by kernel_rfl) (by kernel_rfl) (fun _ _ _ h => h.elim) (yieldsIf_load_mid (by kernel_rfl) 37 (.tmp 5) rfl w2.heap.size 0 rfl own2.cells.toList _ (fun w h => h.1) huh rfl (HSHL.out _)) (by assumption) ?_
    (try simp only [Act.put, List.getElem_toArray, List.getElem_cons_succ, List.getElem_cons_zero, List.setIfInBounds_toArray, List.set_cons_zero, List.set_cons_succ])
    refine wpAnyH_take (i := 19) (v := .pointer (some ⟨(w.heap.size + 1), 0, none⟩)) rfl (by kernel_rfl) (by kernel_rfl) (by kernel_rfl) (fun _ _ _ h => h.elim) (.inl ⟨by kernel_rfl, fun w hw => by clear hw; go_simp⟩) (by assumption) ?_
    (try simp only [Act.put, List.getElem_toArray, List.getElem_cons_succ, List.getElem_cons_zero, List.setIfInBounds_toArray, List.set_cons_zero, List.set_cons_succ])
    refine wpAnyH_take (i := 20) (v := .string s) rfl (by kernel_rfl) (by kernel_rfl) (by kernel_rfl) (fun _ _ _ h => h.elim) (.inl ⟨by kernel_rfl, fun w h => by have hw := h.2.1; clear h; go_simp⟩) (by assumption) ?_
    (try simp only [Act.put, List.getElem_toArray, List.getElem_cons_succ, List.getElem_cons_zero, List.setIfInBounds_toArray, List.set_cons_zero, List.set_cons_succ])
    refine wpAnyH_take (i := 21) (v := .pointer (some ⟨(w.heap.size + 1), 1, none⟩)) rfl (by kernel_rfl) (by kernel_rfl) (by kernel_rfl) (fun _ _ _ h => h.elim) (.inl ⟨by kernel_rfl, fun w hw => by clear hw; go_simp⟩) (by assumption) ?_
    (try simp only [Act.put, List.getElem_toArray, List.getElem_cons_succ, List.getElem_cons_zero, List.setIfInBounds_toArray, List.set_cons_zero, List.set_cons_succ])
    refine wpAnyH_take (i := 22) (v := .string t) rfl (by kernel_rfl) (by kernel_rfl) (by kernel_rfl) (fun _ _ _ h => h.elim) (.inl ⟨by kernel_rfl, fun w h => by have hw := h.2.2.1; clear h; go_simp⟩) (by assumption) ?_
    (try simp only [Act.put, List.getElem_toArray, List.getElem_cons_succ, List.getElem_cons_zero, List.setIfInBounds_toArray, List.set_cons_zero, List.set_cons_succ])
    refine wpAnyH_take (i := 24) (v := .agg h.cells) rfl (by kernel_rfl) (by kernel_rfl) (by kernel_rfl) (fun _ _ _ h => h.elim) (yieldsIf_load_mid (by kernel_rfl) 37 (.tmp 2) rfl w.heap.size 0 rfl h.cells.toList _ (fun w h => h.2.2.2.2) huh rfl (HSHL.out _)) (by assumption) ?_
    (try simp only [Act.put, List.getElem_toArray, List.getElem_cons_succ, List.getElem_cons_zero, List.setIfInBounds_toArray, List.set_cons_zero, List.set_cons_succ])
    refine wpAnyH_take (i := 25) (v := .pointer (some ⟨(w.heap.size + 1), 0, none⟩)) rfl (by kernel_rfl) (by kernel_rfl) (by kernel_rfl) (fun _ _ _ h => h.elim) (.inl ⟨by kernel_rfl, fun w hw => by clear hw; go_simp⟩) (by assumption) ?_
    (try simp only [Act.put, List.getElem_toArray, List.getElem_cons_succ, List.getElem_cons_zero, List.setIfInBounds_toArray, List.set_cons_zero, List.set_cons_succ])
    refine wpAnyH_take (i := 26) (v := .string s) rfl (by kernel_rfl) (by kernel_rfl) (by kernel_rfl) (fun _ _ _ h => h.elim) (.inl ⟨by kernel_rfl, fun w h => by have hw := h.2.1; clear h; go_simp⟩) (by assumption) ?_
    (try simp only [Act.put, List.getElem_toArray, List.getElem_cons_succ, List.getElem_cons_zero, List.setIfInBounds_toArray, List.set_cons_zero, List.set_cons_succ])
    refine wpAnyH_take (i := 27) (v := .pointer (some ⟨(w.heap.size + 1), 1, none⟩)) rfl (by kernel_rfl) (by kernel_rfl) (by kernel_rfl) (fun _ _ _ h => h.elim) (.inl ⟨by kernel_rfl, fun w hw => by clear hw; go_simp⟩) (by assumption) ?_
    (try simp only [Act.put, List.getElem_toArray, List.getElem_cons_succ, List.getElem_cons_zero, List.setIfInBounds_toArray, List.set_cons_zero, List.set_cons_succ])
    refine wpAnyH_take (i := 28) (v := .string t) rfl (by kernel_rfl) (by kernel_rfl) (by kernel_rfl) (fun _ _ _ h => h.elim) (.inl ⟨by kernel_rfl, fun w h => by have hw := h.2.2.1; clear h; go_simp⟩) (by assumption) ?_
    (try simp only [Act.put, List.getElem_toArray, List.getElem_cons_succ, List.getElem_cons_zero, List.setIfInBounds_toArray, List.set_cons_zero, List.set_cons_succ])
    refine wpAnyH_ready (rs := [23]) (by kernel_rfl) (by simp) ?_
    refine AllReadyH.cons rfl (fun K' hK => ?_) AllReadyH.nil
    go_simp
    refine (COA.out _ (OWN3.out.below BN.out)).mono ?_
    rintro e wn ⟨rfl, hbn⟩
    have BN := Lib.hid (BN.out.trans (hbn.mono BN.out.size))
    clear hbn
    refine hK.out _ _ (HST.out _ BN.out) (fun _ => ?_)
    clear hK K'
    (try simp only [Act.put, List.getElem_toArray, List.getElem_cons_succ, List.getElem_cons_zero, List.setIfInBounds_toArray, List.set_cons_zero, List.set_cons_succ])
    refine wpAnyH_ready (rs := [29]) (by kernel_rfl) (by simp) ?_
    refine AllReadyH.cons rfl (fun K' hK => ?_) AllReadyH.nil
    go_simp
    refine (COB.out _ (HT3.out.below BN.out)).mono ?_
    rintro e wn ⟨rfl, hbn⟩
    have BN := Lib.hid (BN.out.trans (hbn.mono BN.out.size))
    clear hbn
    refine hK.out _ _ (HST.out _ BN.out) (fun _ => ?_)
    clear hK K'
    (try simp only [Act.put, List.getElem_toArray, List.getElem_cons_succ, List.getElem_cons_zero, List.setIfInBounds_toArray, List.set_cons_zero, List.set_cons_succ])
    refine wpAnyH_take (i := 30) (v := .bool true) rfl (by kernel_rfl) (by kernel_rfl) (by kernel_rfl) (fun _ _ _ h => h.elim) (.inl ⟨by kernel_rfl, fun w hw => by clear hw; go_simp⟩) (by assumption) ?_
    (try simp only [Act.put, List.getElem_toArray, List.getElem_cons_succ, List.getElem_cons_zero, List.setIfInBounds_toArray, List.set_cons_zero, List.set_cons_succ])
    refine wpAnyH_take (i := 31) (v := .bool true) rfl (by kernel_rfl) (by kernel_rfl) (by kernel_rfl) (fun _ _ _ h => h.elim) (.inl ⟨by kernel_rfl, fun w hw => by clear hw; go_simp⟩) (by assumption) ?_
    (try simp only [Act.put, List.getElem_toArray, List.getElem_cons_succ, List.getElem_cons_zero, List.setIfInBounds_toArray, List.set_cons_zero, List.set_cons_succ])
    refine wpAnyH_take (i := 32) (v := .bool true) rfl (by kernel_rfl) (by kernel_rfl) (by kernel_rfl) (fun _ _ _ h => h.elim) (.inl ⟨by kernel_rfl, fun w hw => by clear hw; go_simp⟩) (by assumption) ?_
    (try simp only [Act.put, List.getElem_toArray, List.getElem_cons_succ, List.getElem_cons_zero, List.setIfInBounds_toArray, List.set_cons_zero, List.set_cons_succ])
    refine wpAnyH_take (i := 33) (v := .agg own2.cells) rfl (by kernel_rfl) (by kernel_rfl) (by kernel_rfl) (fun _ _ _ h => h.elim) (yieldsIf_load_mid (by kernel_rfl) 37 (.tmp 5) rfl w2.heap.size 0 rfl own2.cells.toList _ (fun w h => h.1) huh rfl (HSHL.out _)) (by assumption) ?_
    (try simp only [Act.put, List.getElem_toArray, List.getElem_cons_succ, List.getElem_cons_zero, List.setIfInBounds_toArray, List.set_cons_zero, List.set_cons_succ])
    refine wpAnyH_take (i := 34) (v := .agg h.cells) rfl (by kernel_rfl) (by kernel_rfl) (by kernel_rfl) (fun _ _ _ h => h.elim) (yieldsIf_load_mid (by kernel_rfl) 37 (.tmp 2) rfl w.heap.size 0 rfl h.cells.toList _ (fun w h => h.2.2.2.2) huh rfl (HSHL.out _)) (by assumption) ?_
    (try simp only [Act.put, List.getElem_toArray, List.getElem_cons_succ, List.getElem_cons_zero, List.setIfInBounds_toArray, List.set_cons_zero, List.set_cons_succ])
    refine wpAnyH_ready (rs := [35]) (by kernel_rfl) (by simp) ?_
    refine AllReadyH.cons rfl (fun K' hK => ?_) AllReadyH.nil
    go_simp
    refine (kept_true HOW.out HNN.out HCC.out HN6.out (HBH3.out.below BN.out) (OWN3.out.below BN.out) (HT3.out.below BN.out) (by rw [HOW.out]; exact HZZ.out)).mono ?_
    rintro e wn ⟨rfl, hbn⟩
    have BN := Lib.hid (BN.out.trans (hbn.mono BN.out.size))
    clear hbn
    refine hK.out _ _ (HST.out _ BN.out) (fun _ => ?_)
    clear hK K'
    (try simp only [Act.put, List.getElem_toArray, List.getElem_cons_succ, List.getElem_cons_zero, List.setIfInBounds_toArray, List.set_cons_zero, List.set_cons_succ])
    refine wpAnyH_take (i := 36) (v := .bool true) rfl (by kernel_rfl) (by kernel_rfl) (by kernel_rfl) (fun _ _ _ h => h.elim) (.inl ⟨by kernel_rfl, fun w hw => by clear hw; go_simp⟩) (by assumption) ?_
    (try simp only [Act.put, List.getElem_toArray, List.getElem_cons_succ, List.getElem_cons_zero, List.setIfInBounds_toArray, List.set_cons_zero, List.set_cons_succ])
    refine wpAnyH_take (i := 37) (v := .bool true) rfl (by kernel_rfl) (by kernel_rfl) (by kernel_rfl) (fun _ _ _ h => h.elim) (.inl ⟨by kernel_rfl, fun w hw => by clear hw; go_simp⟩) (by assumption) ?_
    (try simp only [Act.put, List.getElem_toArray, List.getElem_cons_succ, List.getElem_cons_zero, List.setIfInBounds_toArray, List.set_cons_zero, List.set_cons_succ])
    refine wpAnyH_ready (rs := [38]) (by kernel_rfl) (by simp) ?_
    refine AllReadyH.cons rfl (fun K' hK => ?_) AllReadyH.nil
    go_simp
    refine (HAW.out _).mono ?_
    rintro e wn ⟨rfl, hbn⟩
    have BN := Lib.hid (BN.out.trans (hbn.mono BN.out.size))
    clear hbn
    refine hK.out _ _ (HST.out _ BN.out) (fun _ => ?_)
    clear hK K'
    (try simp only [Act.put, List.getElem_toArray, List.getElem_cons_succ, List.getElem_cons_zero, List.setIfInBounds_toArray, List.set_cons_zero, List.set_cons_succ])
    refine wpAnyH_take (i := 39) (v := .bool true) rfl (by kernel_rfl) (by kernel_rfl) (by kernel_rfl) (fun _ _ _ h => h.elim) (.inl ⟨by kernel_rfl, fun w hw => by clear hw; go_simp⟩) (by assumption) ?_
    (try simp only [Act.put, List.getElem_toArray, List.getElem_cons_succ, List.getElem_cons_zero, List.setIfInBounds_toArray, List.set_cons_zero, List.set_cons_succ])
    refine wpAnyH_take (i := 40) (v := .bool true) rfl (by kernel_rfl) (by kernel_rfl) (by kernel_rfl) (fun _ _ _ h => h.elim) (.inl ⟨by kernel_rfl, fun w hw => by clear hw; go_simp⟩) (by assumption) ?_
    (try simp only [Act.put, List.getElem_toArray, List.getElem_cons_succ, List.getElem_cons_zero, List.setIfInBounds_toArray, List.set_cons_zero, List.set_cons_succ])
    refine wpAnyH_done (by kernel_rfl) ?_ _
    refine NoPanic.normal ?_
    clear ST0
    go_wp2_with fail
    go_ret
    exact ⟨rfl, B3.out.trans (BN.out.mono B3.out.size)⟩
theorem walk {IX : World → Nat → (Nat → Prop) → (Nat → List (List Value)) → Prop} (C : ConsX IX) (h : Hs) (L : Nat → List (List Value)) (cs : List Value) (w : World) (hin : HIn h L w) (fs : Fits kAsk cs) (ms : ∀ u ∈ cs, Mild u) :
    Calls Tryz.prog 3 #[.agg h.cells, .agg cs.toArray] w fun e w' => e = .returned (.bool true) ∧ Below w.heap.size w w' := by
  obtain ⟨s, t, n, rfl⟩ := ask_cells fs
  exact walk0 C h L s t n w hin (wf_of (ms (.int .i64 n) (by simp)))
end Go.Proofs.YtnkhnbpopdmkhaaGreat.indexNaive
