/-
  THE LAW LotsAdds, over the contracts. (By wip/tools/gen_adds9.py.)
-/
import Derived.Test.YthliomckpfeekaaLCon
import Derived.Test.YthliomckpfeekaaLRow
import Derived.Test.YthliomckpfeekaaLBoth
import Derived.Test.YthliomckpfeekaaHSmall
import Derived.Test.YthliomckpfeekaaHKept
import Derived.Test.YthliomckpfeekaaHA
namespace Go.Proofs.Ythliomckpfeekaa.lotsAdds
set_option linter.unusedVariables false
open Go.RowKit
open Pl (It)

set_option maxRecDepth 100000 in
set_option maxHeartbeats 6400000 in
theorem walk (C : Cons) (h : Hs) (L : Nat → List (List Value)) (cs : List Value) (nq : Int) (w : World) (hin : HIn h L w) (hf : Fits kLot cs) (hm : ∀ u ∈ cs, Mild u) (hnq : Wf nq) :
    Calls Try.prog 3 #[.agg h.cells, .agg cs.toArray, .int .i64 nq] w fun e w' => e = .returned (.bool true) ∧ Below w.heap.size w w' := by
  have hx3 := lot_cells hf
  have HML : Hid ((codeL cs).size ≤ maxLen) := Lib.hid (by
    have h2 : Value.string (codeL cs) ∈ [Value.string (itemL cs), .string (codeL cs), .int .i64 (expL cs)] := by simp
    rw [← hx3] at h2
    exact hm _ h2)
  have HFX := Lib.hid hf
  obtain ⟨s, hxi⟩ : ∃ s, itemL cs = s := ⟨_, rfl⟩
  obtain ⟨t, hxc⟩ : ∃ s, codeL cs = s := ⟨_, rfl⟩
  obtain ⟨z3, hxz⟩ : ∃ s, expL cs = s := ⟨_, rfl⟩
  rw [hxi, hxc, hxz] at hx3
  have HCSQ := Lib.hid hx3
  have HIN := Lib.hid hin
  have HNQ := Lib.hid hnq
  have HCO := Lib.hid C
  have HAW : Hid (∀ W, Calls Try.prog 9 #[] W fun e w' => e = .returned (.bool true) ∧ Below W.heap.size W w') := Lib.hid (fun W => awake_any C W)
  have huh := Try.underlying37
  have hui := Try.underlying39
  have HSH : Hid (∀ a : Hs, (Try.prog.info? 37).map (·.size) = some a.cells.size) := Lib.hid (fun a => by kernel_rfl)
  have HSHL : Hid (∀ a : Hs, (Try.prog.info? 37).map (·.size) = some a.cells.toList.length) := Lib.hid (fun a => by kernel_rfl)
  have H1C : Hid (∀ a : Hs, a.cells.all (·.oneCell') = true) := Lib.hid (fun a => by simp [Hs.cells, Value.oneCell'])
  have HSX : Hid ((Try.prog.info? 39).map (·.size) = some cs.toArray.size) := Lib.hid (by rw [show (Try.prog.info? 39).map (·.size) = some 3 from by kernel_rfl, List.size_toArray, HFX.out.length]; rfl)
  obtain ⟨W0, hW0⟩ : ∃ W0, W0 = (w.alloc (.cells h.cells 37)).alloc (.cells cs.toArray 39) := ⟨_, rfl⟩
  have B0 : Hid (Below w.heap.size w W0) := Lib.hid (by rw [hW0]; exact ((Below.refl _ _).alloc (Nat.le_refl _) _).alloc (by simp) _)
  have HH0 : Hid (W0.heap[w.heap.size]? = some (.cells h.cells 37 (0, 0))) := Lib.hid (by rw [hW0]; exact (Below.heap_alloc _ _ _ (by simp)).trans (heap_alloc_new _ _))
  have HX0 : Hid (W0.heap[w.heap.size + 1]? = some (.cells cs.toArray 39 (0, 0))) := Lib.hid (by
    rw [hW0]
    have := heap_alloc_new (w.alloc (.cells h.cells 37)) (.cells cs.toArray 39)
    simpa using this)
  obtain ⟨er, her⟩ : ∃ r : Int, ((addLE (L 0) (L 1) cs : Nat) : Int) = r := ⟨_, rfl⟩
  have HER := Lib.hid her
  clear hf hm hin hnq hx3 hxi hxc hxz her
  subst hW0
  go_enter Try.func3, Try.ntmps3
  go_wp2_with (first
    | (refine wpList_load_row rfl 37 (.tmp 3) rfl w.heap.size rfl _ _ _ _ HH0.out huh rfl (HSH.out _) ?_)
    | fail)
  refine (small_calls h _).mono ?_
  rintro e w1 ⟨⟨b, rfl, hb⟩, hb1⟩
  have HH1 := Lib.hid ((hb1.block _ (lt_of_block HH0.out)).trans HH0.out)
  have HX1 := Lib.hid ((hb1.block _ (lt_of_block HX0.out)).trans HX0.out)
  have B1 := Lib.hid (B0.out.trans (hb1.mono B0.out.size))
  clear hb1
  cases b with
  | false =>
    clear hb
    go_wp2_with fail
    refine (HAW.out _).mono ?_
    rintro e w2 ⟨rfl, hb2⟩
    have HB2 := Lib.hid (B1.out.trans (hb2.mono B1.out.size))
    clear hb2
    go_wp2_with fail
    go_ret
    exact ⟨rfl, HB2.out⟩
  | true =>
    have HSM := Lib.hid (hb.1 rfl)
    clear hb
    have HT1 : Hid (HT h L w1) := Lib.hid (HIN.out.ht HSM.out B1.out)
    go_wp2_with (first
      | (refine wpList_load_row rfl 37 (.tmp 3) rfl w.heap.size rfl _ _ _ _ HH1.out huh rfl (HSH.out _) ?_)
      | fail)
    refine (lents_calls h L _ HT1.out (fun i hi => Nat.le_trans (HSM.out i hi) (cap_le i hi))).mono ?_
    rintro e w2 ⟨own, rfl, hz, hlt, hb2⟩
    have HH2 := Lib.hid ((hb2.block _ (lt_of_block HH1.out)).trans HH1.out)
    have HX2 := Lib.hid ((hb2.block _ (lt_of_block HX1.out)).trans HX1.out)
    have B2 := Lib.hid (B1.out.trans (hb2.mono B1.out.size))
    have HT2 := Lib.hid (HT1.out.below hb2)
    obtain ⟨gg, n, c, z, hcell, hze, hn', hc', hnn, hbb, hot⟩ := lent_own hlt HT1.out (fun i hi => HSM.out i hi)
    have hzz : z = h.z := hze.trans hz
    obtain ⟨own2, how⟩ : ∃ o, o = Hs.mk (fun i => some ⟨gg i, 0, none⟩) n c z := ⟨_, rfl⟩
    rw [show own.val = .agg own2.cells from by rw [Hs.val_cells, hcell, how]]
    rw [← how] at hot
    have HOW := Lib.hid how
    have OWN2 := Lib.hid hot
    have HNN := Lib.hid hn'
    have HCC := Lib.hid hc'
    have HN6 := Lib.hid hnn
    have HBH2 : Hid (KB gg n w2) := Lib.hid hbb
    have HZZ := Lib.hid hzz
    clear hz hlt hb2 hn' hc' hnn hbb hot how hcell hze hzz own
    have HQ3 : Hid ((w2.alloc (.cells #[.slice none 0 0, .slice none 0 0, .slice none 0 0, .slice none 0 0, .slice none 0 0, .slice none 0 0, .slice none 0 0, .slice none 0 0, .slice none 0 0, .slice none 0 0, .slice none 0 0, .slice none 0 0, .slice none 0 0, .slice none 0 0, .int .i64 0] 37)).heap[w2.heap.size]? = some (.cells #[.slice none 0 0, .slice none 0 0, .slice none 0 0, .slice none 0 0, .slice none 0 0, .slice none 0 0, .slice none 0 0, .slice none 0 0, .slice none 0 0, .slice none 0 0, .slice none 0 0, .slice none 0 0, .slice none 0 0, .slice none 0 0, .int .i64 0] 37 (0, 0))) := Lib.hid (heap_alloc_new _ _)
    obtain ⟨w3, hw3⟩ : ∃ w', w' = (w2.alloc (.cells #[.slice none 0 0, .slice none 0 0, .slice none 0 0, .slice none 0 0, .slice none 0 0, .slice none 0 0, .slice none 0 0, .slice none 0 0, .slice none 0 0, .slice none 0 0, .slice none 0 0, .slice none 0 0, .slice none 0 0, .slice none 0 0, .int .i64 0] 37)).setRow w2.heap.size own2.cells := ⟨_, rfl⟩
    have hb3 : Below w2.heap.size w2 w3 := by rw [hw3]; exact setRow_below ((Below.refl _ _).alloc (Nat.le_refl _) _) (Nat.le_refl _) _
    have HH3 := Lib.hid ((hb3.block _ (lt_of_block HH2.out)).trans HH2.out)
    have HX3 := Lib.hid ((hb3.block _ (lt_of_block HX2.out)).trans HX2.out)
    have B3 := Lib.hid (B2.out.trans (hb3.mono B2.out.size))
    have HT3 := Lib.hid (HT2.out.below hb3)
    have HBH3 := Lib.hid (HBH2.out.below hb3)
    have OWN3 := Lib.hid (OWN2.out.below hb3)
    have HO3 : Hid (w3.heap[w2.heap.size]? = some (.cells own2.cells 37 (0, 0))) := Lib.hid (by rw [hw3]; exact setRow_heap _ _ _ _ _ _ HQ3.out)
    have HW3 := Lib.hid hw3
    clear hb3 hw3
    go_wp2_with (first
      | (refine wpList_store_row rfl 37 (.tmp 7) (.tmp 17) rfl w2.heap.size own2.cells rfl rfl _ _ HQ3.out (HSH.out _) rfl (H1C.out _) ?_; rw [← HW3.out])
      | (refine wpList_load_row rfl 37 (.tmp 7) rfl w2.heap.size rfl _ _ _ _ HO3.out huh rfl (HSH.out _) ?_)
      | (refine wpList_load_row rfl 39 (.tmp 4) rfl (w.heap.size + 1) rfl _ _ _ _ HX3.out hui rfl HSX.out ?_)
      | fail)
    have H6 : Hid (h.n 1 ≤ 1000) := Lib.hid (Nat.le_trans (HSM.out 1 (by decide)) (by decide))
    have HO6 : Hid (own2.n 1 ≤ 1000 ∧ own2.n 1 ≤ own2.c 1 ∧ own2.c 1 ≤ 9223372036854775807) := Lib.hid (by rw [HOW.out]; exact ⟨HN6.out 1 (by decide), Nat.le_of_succ_le (HCC.out 1 (by decide)).1, (HCC.out 1 (by decide)).2⟩)
    refine (HCO.out.add own2 L cs _ OWN3.out HO6.out.1 HO6.out.2 HFX.out HML.out).mono ?_
    intro e w4 ha
    obtain ⟨a, rfl, hat, haz, hb4, _, _⟩ := addsL_ht HFX.out OWN3.out HO6.out.1 ha
    rw [HER.out]
    have HH4 := Lib.hid ((hb4.block _ (lt_of_block HH3.out)).trans HH3.out)
    have HX4 := Lib.hid ((hb4.block _ (lt_of_block HX3.out)).trans HX3.out)
    have HO4 := Lib.hid ((hb4.block _ (lt_of_block HO3.out)).trans HO3.out)
    have B4 := Lib.hid (B3.out.trans (hb4.mono B3.out.size))
    have HT4 := Lib.hid (HT3.out.below hb4)
    have HBH4 := Lib.hid (HBH3.out.below hb4)
    have OWN4 := Lib.hid (OWN3.out.below hb4)
    have AT4 := Lib.hid hat
    have HAZ : Hid (a.z = addZL L cs h.z) := Lib.hid (by rw [haz, HOW.out]; rw [← HZZ.out])
    clear ha hat haz hb4
    have HQ5 : Hid ((w4.alloc (.cells #[.slice none 0 0, .slice none 0 0, .slice none 0 0, .slice none 0 0, .slice none 0 0, .slice none 0 0, .slice none 0 0, .slice none 0 0, .slice none 0 0, .slice none 0 0, .slice none 0 0, .slice none 0 0, .slice none 0 0, .slice none 0 0, .int .i64 0] 37)).heap[w4.heap.size]? = some (.cells #[.slice none 0 0, .slice none 0 0, .slice none 0 0, .slice none 0 0, .slice none 0 0, .slice none 0 0, .slice none 0 0, .slice none 0 0, .slice none 0 0, .slice none 0 0, .slice none 0 0, .slice none 0 0, .slice none 0 0, .slice none 0 0, .int .i64 0] 37 (0, 0))) := Lib.hid (heap_alloc_new _ _)
    obtain ⟨w5, hw5⟩ : ∃ w', w' = (w4.alloc (.cells #[.slice none 0 0, .slice none 0 0, .slice none 0 0, .slice none 0 0, .slice none 0 0, .slice none 0 0, .slice none 0 0, .slice none 0 0, .slice none 0 0, .slice none 0 0, .slice none 0 0, .slice none 0 0, .slice none 0 0, .slice none 0 0, .int .i64 0] 37)).setRow w4.heap.size a.cells := ⟨_, rfl⟩
    have hb5 : Below w4.heap.size w4 w5 := by rw [hw5]; exact setRow_below ((Below.refl _ _).alloc (Nat.le_refl _) _) (Nat.le_refl _) _
    have HH5 := Lib.hid ((hb5.block _ (lt_of_block HH4.out)).trans HH4.out)
    have HX5 := Lib.hid ((hb5.block _ (lt_of_block HX4.out)).trans HX4.out)
    have HO5 := Lib.hid ((hb5.block _ (lt_of_block HO4.out)).trans HO4.out)
    have B5 := Lib.hid (B4.out.trans (hb5.mono B4.out.size))
    have HT5 := Lib.hid (HT4.out.below hb5)
    have HBH5 := Lib.hid (HBH4.out.below hb5)
    have OWN5 := Lib.hid (OWN4.out.below hb5)
    have AT5 := Lib.hid (AT4.out.below hb5)
    have HA5 : Hid (w5.heap[w4.heap.size]? = some (.cells a.cells 37 (0, 0))) := Lib.hid (by rw [hw5]; exact setRow_heap _ _ _ _ _ _ HQ5.out)
    have HW5 := Lib.hid hw5
    clear hb5 hw5
    go_wp2_with (first
      | (refine wpList_store_row rfl 37 (.tmp 8) (.tmp 22) rfl w4.heap.size a.cells rfl rfl _ _ HQ5.out (HSH.out _) rfl (H1C.out _) ?_; rw [← HW5.out])
      | (refine wpList_load_row rfl 37 (.tmp 3) rfl w.heap.size rfl _ _ _ _ HH5.out huh rfl (HSH.out _) ?_)
      | (refine wpList_load_row rfl 39 (.tmp 4) rfl (w.heap.size + 1) rfl _ _ _ _ HX5.out hui rfl HSX.out ?_)
      | fail)
    refine (radd_any h L cs _ HT5.out H6.out HFX.out HML.out).mono ?_
    intro e w6 ha
    obtain ⟨b, rfl, hbt, hbz, hb6, _, _⟩ := addsL_ht HFX.out HT5.out H6.out ha
    rw [HER.out]
    have HH6 := Lib.hid ((hb6.block _ (lt_of_block HH5.out)).trans HH5.out)
    have HX6 := Lib.hid ((hb6.block _ (lt_of_block HX5.out)).trans HX5.out)
    have HO6 := Lib.hid ((hb6.block _ (lt_of_block HO5.out)).trans HO5.out)
    have HA6 := Lib.hid ((hb6.block _ (lt_of_block HA5.out)).trans HA5.out)
    have B6 := Lib.hid (B5.out.trans (hb6.mono B5.out.size))
    have HT6 := Lib.hid (HT5.out.below hb6)
    have HBH6 := Lib.hid (HBH5.out.below hb6)
    have OWN6 := Lib.hid (OWN5.out.below hb6)
    have AT6 := Lib.hid (AT5.out.below hb6)
    have BT6 := Lib.hid hbt
    have HBZ := Lib.hid hbz
    clear ha hbt hbz hb6
    have HQ7 : Hid ((w6.alloc (.cells #[.slice none 0 0, .slice none 0 0, .slice none 0 0, .slice none 0 0, .slice none 0 0, .slice none 0 0, .slice none 0 0, .slice none 0 0, .slice none 0 0, .slice none 0 0, .slice none 0 0, .slice none 0 0, .slice none 0 0, .slice none 0 0, .int .i64 0] 37)).heap[w6.heap.size]? = some (.cells #[.slice none 0 0, .slice none 0 0, .slice none 0 0, .slice none 0 0, .slice none 0 0, .slice none 0 0, .slice none 0 0, .slice none 0 0, .slice none 0 0, .slice none 0 0, .slice none 0 0, .slice none 0 0, .slice none 0 0, .slice none 0 0, .int .i64 0] 37 (0, 0))) := Lib.hid (heap_alloc_new _ _)
    obtain ⟨w7, hw7⟩ : ∃ w', w' = (w6.alloc (.cells #[.slice none 0 0, .slice none 0 0, .slice none 0 0, .slice none 0 0, .slice none 0 0, .slice none 0 0, .slice none 0 0, .slice none 0 0, .slice none 0 0, .slice none 0 0, .slice none 0 0, .slice none 0 0, .slice none 0 0, .slice none 0 0, .int .i64 0] 37)).setRow w6.heap.size b.cells := ⟨_, rfl⟩
    have hb7 : Below w6.heap.size w6 w7 := by rw [hw7]; exact setRow_below ((Below.refl _ _).alloc (Nat.le_refl _) _) (Nat.le_refl _) _
    have HH7 := Lib.hid ((hb7.block _ (lt_of_block HH6.out)).trans HH6.out)
    have HX7 := Lib.hid ((hb7.block _ (lt_of_block HX6.out)).trans HX6.out)
    have HO7 := Lib.hid ((hb7.block _ (lt_of_block HO6.out)).trans HO6.out)
    have HA7 := Lib.hid ((hb7.block _ (lt_of_block HA6.out)).trans HA6.out)
    have B7 := Lib.hid (B6.out.trans (hb7.mono B6.out.size))
    have HT7 := Lib.hid (HT6.out.below hb7)
    have HBH7 := Lib.hid (HBH6.out.below hb7)
    have OWN7 := Lib.hid (OWN6.out.below hb7)
    have AT7 := Lib.hid (AT6.out.below hb7)
    have BT7 := Lib.hid (BT6.out.below hb7)
    have HB7 : Hid (w7.heap[w6.heap.size]? = some (.cells b.cells 37 (0, 0))) := Lib.hid (by rw [hw7]; exact setRow_heap _ _ _ _ _ _ HQ7.out)
    have HW7 := Lib.hid hw7
    clear hb7 hw7
    go_wp2_with (first
      | (refine wpList_store_row rfl 37 (.tmp 10) (.tmp 28) rfl w6.heap.size b.cells rfl rfl _ _ HQ7.out (HSH.out _) rfl (H1C.out _) ?_; rw [← HW7.out])
      | fail)
    have RHH : Hid (∀ X : BW w7, X.W.heap[w.heap.size]? = some (.cells h.cells 37 (0, 0))) := Lib.hid (fun X => (X.h.block _ (lt_of_block HH7.out)).trans HH7.out)
    have RHX : Hid (∀ X : BW w7, X.W.heap[(w.heap.size + 1)]? = some (.cells cs.toArray 39 (0, 0))) := Lib.hid (fun X => (X.h.block _ (lt_of_block HX7.out)).trans HX7.out)
    have RHO : Hid (∀ X : BW w7, X.W.heap[w2.heap.size]? = some (.cells own2.cells 37 (0, 0))) := Lib.hid (fun X => (X.h.block _ (lt_of_block HO7.out)).trans HO7.out)
    have RHA : Hid (∀ X : BW w7, X.W.heap[w4.heap.size]? = some (.cells a.cells 37 (0, 0))) := Lib.hid (fun X => (X.h.block _ (lt_of_block HA7.out)).trans HA7.out)
    have RHB : Hid (∀ X : BW w7, X.W.heap[w6.heap.size]? = some (.cells b.cells 37 (0, 0))) := Lib.hid (fun X => (X.h.block _ (lt_of_block HB7.out)).trans HB7.out)
    obtain ⟨fr, hfr⟩ : ∃ r : Int, ((fitE (L 0) (L 1) (L 4) s t nq : Nat) : Int) = r := ⟨_, rfl⟩
    obtain ⟨dr, hdr⟩ : ∃ r : Int, dayZ (L 1) s t = r := ⟨_, rfl⟩
    have CF1 : Hid (∀ X : BW w7, Calls Try.prog 14 #[.agg own2.cells, .string s, .string t, .int .i64 nq] X.W fun e w' => e = .returned (.int .i64 fr) ∧ Below X.W.heap.size X.W w') := Lib.hid (fun X => by rw [← hfr]; exact HCO.out.fits own2 L s t nq X.W (OWN7.out.below X.h) HNQ.out)
    have CF2 : Hid (∀ X : BW w7, Calls Try.prog 15 #[.agg h.cells, .string s, .string t, .int .i64 nq] X.W fun e w' => e = .returned (.int .i64 fr) ∧ Below X.W.heap.size X.W w') := Lib.hid (fun X => by rw [← hfr]; exact rfits_any h L s t nq X.W (HT7.out.below X.h) HNQ.out)
    have CD1 : Hid (∀ X : BW w7, Calls Try.prog 16 #[.agg own2.cells, .string s, .string t] X.W fun e w' => e = .returned (.int .i64 dr) ∧ Below X.W.heap.size X.W w') := Lib.hid (fun X => by rw [← hdr]; exact HCO.out.day own2 L s t X.W (OWN7.out.below X.h))
    have CD2 : Hid (∀ X : BW w7, Calls Try.prog 17 #[.agg h.cells, .string s, .string t] X.W fun e w' => e = .returned (.int .i64 dr) ∧ Below X.W.heap.size X.W w') := Lib.hid (fun X => by rw [← hdr]; exact rday_any h L s t X.W (HT7.out.below X.h))
    have SA : Hid (∀ X : BW w7, Calls Try.prog 13 #[.agg a.cells, .agg b.cells] X.W fun e w' => e = .returned (.bool true) ∧ Below X.W.heap.size X.W w') := Lib.hid (fun X => same_true (AT7.out.below X.h) (BT7.out.below X.h) (HAZ.out.trans HBZ.out.symm))
    have SK : Hid (∀ X : BW w7, Calls Try.prog 18 #[.agg own2.cells, .agg h.cells] X.W fun e w' => e = .returned (.bool true) ∧ Below X.W.heap.size X.W w') := Lib.hid (fun X => kept_true HOW.out HNN.out HCC.out HN6.out (HBH7.out.below X.h) (OWN7.out.below X.h) (HT7.out.below X.h) (by rw [HOW.out]; exact HZZ.out))
    have hx0 : ∀ X : BW w7, X.W.cell? ⟨w.heap.size + 1, 0, none⟩ = some (.string s) := fun X => by rw [cell_of_block (RHX.out X), HCSQ.out]; rfl
    have hx1 : ∀ X : BW w7, X.W.cell? ⟨w.heap.size + 1, 1, none⟩ = some (.string t) := fun X => by rw [cell_of_block (RHX.out X), HCSQ.out]; rfl
    clear hfr hdr
    refine wp_grow w7 (by kernel_rfl) (by kernel_rfl) (Below.refl _ _) ?_
    simp only []
    iterate 4 go_big_quiet_step (fail)
    refine BigFrame.wpQuiet_want (by kernel_rfl) (fun K hK => quiet_load_mid 37 (.tmp 8) rfl w4.heap.size 0 rfl a.cells.toList _ (fun W ⟨X, hX⟩ => by rw [hX]; exact range_row0 (RHA.out X)) huh rfl (HSHL.out _) (hK _ ?_))
    simp only [Act.put, List.setIfInBounds_toArray, List.set_cons_zero, List.set_cons_succ, Array.toArray_toList]
    refine BigFrame.wpQuiet_want (by kernel_rfl) (fun K hK => quiet_load_mid 37 (.tmp 10) rfl w6.heap.size 0 rfl b.cells.toList _ (fun W ⟨X, hX⟩ => by rw [hX]; exact range_row0 (RHB.out X)) huh rfl (HSHL.out _) (hK _ ?_))
    simp only [Act.put, List.setIfInBounds_toArray, List.set_cons_zero, List.set_cons_succ, Array.toArray_toList]
    go_big_quiet_step (exact grow_call _ (SA.out _))
    iterate 2 go_big_quiet_step (fail)
    refine BigFrame.wpQuiet_want (by kernel_rfl) (fun K hK => quiet_load_mid 37 (.tmp 7) rfl w2.heap.size 0 rfl own2.cells.toList _ (fun W ⟨X, hX⟩ => by rw [hX]; exact range_row0 (RHO.out X)) huh rfl (HSHL.out _) (hK _ ?_))
    simp only [Act.put, List.setIfInBounds_toArray, List.set_cons_zero, List.set_cons_succ, Array.toArray_toList]
    iterate 5 go_big_quiet_step (fail)
    go_big_quiet_step (exact grow_call _ (CF1.out _))
    refine BigFrame.wpQuiet_want (by kernel_rfl) (fun K hK => quiet_load_mid 37 (.tmp 3) rfl w.heap.size 0 rfl h.cells.toList _ (fun W ⟨X, hX⟩ => by rw [hX]; exact range_row0 (RHH.out X)) huh rfl (HSHL.out _) (hK _ ?_))
    simp only [Act.put, List.setIfInBounds_toArray, List.set_cons_zero, List.set_cons_succ, Array.toArray_toList]
    iterate 5 go_big_quiet_step (fail)
    go_big_quiet_step (exact grow_call _ (CF2.out _))
    iterate 3 go_big_quiet_step (fail)
    refine BigFrame.wpQuiet_want (by kernel_rfl) (fun K hK => quiet_load_mid 37 (.tmp 7) rfl w2.heap.size 0 rfl own2.cells.toList _ (fun W ⟨X, hX⟩ => by rw [hX]; exact range_row0 (RHO.out X)) huh rfl (HSHL.out _) (hK _ ?_))
    simp only [Act.put, List.setIfInBounds_toArray, List.set_cons_zero, List.set_cons_succ, Array.toArray_toList]
    iterate 4 go_big_quiet_step (fail)
    go_big_quiet_step (exact grow_call _ (CD1.out _))
    refine BigFrame.wpQuiet_want (by kernel_rfl) (fun K hK => quiet_load_mid 37 (.tmp 3) rfl w.heap.size 0 rfl h.cells.toList _ (fun W ⟨X, hX⟩ => by rw [hX]; exact range_row0 (RHH.out X)) huh rfl (HSHL.out _) (hK _ ?_))
    simp only [Act.put, List.setIfInBounds_toArray, List.set_cons_zero, List.set_cons_succ, Array.toArray_toList]
    iterate 4 go_big_quiet_step (fail)
    go_big_quiet_step (exact grow_call _ (CD2.out _))
    iterate 3 go_big_quiet_step (fail)
    refine BigFrame.wpQuiet_want (by kernel_rfl) (fun K hK => quiet_load_mid 37 (.tmp 7) rfl w2.heap.size 0 rfl own2.cells.toList _ (fun W ⟨X, hX⟩ => by rw [hX]; exact range_row0 (RHO.out X)) huh rfl (HSHL.out _) (hK _ ?_))
    simp only [Act.put, List.setIfInBounds_toArray, List.set_cons_zero, List.set_cons_succ, Array.toArray_toList]
    refine BigFrame.wpQuiet_want (by kernel_rfl) (fun K hK => quiet_load_mid 37 (.tmp 3) rfl w.heap.size 0 rfl h.cells.toList _ (fun W ⟨X, hX⟩ => by rw [hX]; exact range_row0 (RHH.out X)) huh rfl (HSHL.out _) (hK _ ?_))
    simp only [Act.put, List.setIfInBounds_toArray, List.set_cons_zero, List.set_cons_succ, Array.toArray_toList]
    go_big_quiet_step (exact grow_call _ (SK.out _))
    iterate 2 go_big_quiet_step (fail)
    go_big_quiet_step (exact grow_call _ (HAW.out _))
    iterate 2 go_big_quiet_step (fail)
    refine wpQuiet_nil ?_
    intro X
    go_wp2_with fail
    go_ret
    exact ⟨rfl, B7.out.trans (X.h.mono B7.out.size)⟩
end Go.Proofs.Ythliomckpfeekaa.lotsAdds
