/-
  THE LAW ItemsAdds, over the contracts. (By wip/tools/gen_adds7.py.)
-/
import Derived.Test.YtcihibmapbigdaaIAwake
import Derived.Test.YtcihibmapbigdaaIRAdd
import Derived.Test.YtcihibmapbigdaaIRow
import Derived.Test.YtcihibmapbigdaaHSmall
import Derived.Test.YtcihibmapbigdaaHKept
import Derived.Test.YtcihibmapbigdaaHEqs
import Derived.Test.YtcihibmapbigdaaIBoth
namespace Go.Proofs.Ytcihibmapbigdaa.itemsAdds
set_option linter.unusedVariables false
open Go.RowKit
open Pl (It)

set_option maxRecDepth 100000 in
set_option maxHeartbeats 6400000 in
theorem walk (h : Hs) (L : Nat → List (List Value)) (cs : List Value) (s : ByteArray) (w : World) (hin : HIn h L w) (hf : Fits kItem cs) (hm : ∀ u ∈ cs, Mild u) (hs : s.size ≤ 140737488351232) :
    Calls Try.prog 3 #[.agg h.cells, .agg cs.toArray, .string s] w fun e w' => e = .returned (.bool true) ∧ Below w.heap.size w w' := by
  obtain ⟨x, rfl⟩ := It.of hf
  have HOK := Lib.hid (It.ok_of hm)
  obtain ⟨cs, hcs⟩ : ∃ cs, cs = x.cells := ⟨_, rfl⟩
  have HFX : Hid (Fits kItem cs) := Lib.hid (by rw [hcs]; exact x.fits)
  have HIN := Lib.hid hin
  have huh := Try.underlying37
  have hui := Try.underlying42
  have HSH : Hid (∀ a : Hs, (Try.prog.info? 37).map (·.size) = some a.cells.size) := Lib.hid (fun a => by kernel_rfl)
  have HSHL : Hid (∀ a : Hs, (Try.prog.info? 37).map (·.size) = some a.cells.toList.length) := Lib.hid (fun a => by kernel_rfl)
  have H1C : Hid (∀ a : Hs, a.cells.all (·.oneCell') = true) := Lib.hid (fun a => by simp [Hs.cells, Value.oneCell'])
  have HSX : Hid ((Try.prog.info? 42).map (·.size) = some cs.toArray.size) := Lib.hid (by rw [show (Try.prog.info? 42).map (·.size) = some 14 from by kernel_rfl, List.size_toArray, HFX.out.length]; rfl)
  obtain ⟨W0, hW0⟩ : ∃ W0, W0 = (w.alloc (.cells h.cells 37)).alloc (.cells cs.toArray 42) := ⟨_, rfl⟩
  have B0 : Hid (Below w.heap.size w W0) := Lib.hid (by rw [hW0]; exact ((Below.refl _ _).alloc (Nat.le_refl _) _).alloc (by simp) _)
  have HH0 : Hid (W0.heap[w.heap.size]? = some (.cells h.cells 37 (0, 0))) := Lib.hid (by rw [hW0]; exact (Below.heap_alloc _ _ _ (by simp)).trans (heap_alloc_new _ _))
  have HX0 : Hid (W0.heap[w.heap.size + 1]? = some (.cells cs.toArray 42 (0, 0))) := Lib.hid (by
    rw [hW0]
    have := heap_alloc_new (w.alloc (.cells h.cells 37)) (.cells cs.toArray 42)
    simpa using this)
  obtain ⟨k, hk⟩ : ∃ k, Pl.chE x = k := ⟨_, rfl⟩
  have HCK1 : Hid (∀ W, Calls Try.prog 16 #[.agg cs.toArray] W fun e w' => e = .returned (.int .i64 k) ∧ Below W.heap.size W w') := Lib.hid (fun W => by rw [← hk, hcs]; exact check_any x HOK.out W)
  have HCK2 : Hid (∀ W, Calls Try.prog 17 #[.agg cs.toArray] W fun e w' => e = .returned (.int .i64 k) ∧ Below W.heap.size W w') := Lib.hid (fun W => by rw [← hk, hcs]; exact rcheck_any x HOK.out W)
  have HRA : Hid (∀ W, h.n 0 ≤ 1000 → HT h L W → Calls Try.prog 12 #[.agg h.cells, .agg cs.toArray] W (AddP h (L 0) cs k W)) := Lib.hid (fun W h6 hW => by
    have := radds_any h x (L 0) W HOK.out (hW 0 (by decide)).1 h6 (hW 0 (by decide)).2.2.1 (hW 0 (by decide)).2.2.2
    rw [hk, ← hcs] at this; exact this)
  have HFI : Hid (∀ (a : Hs) W, HT a L W → Calls Try.prog 13 #[.agg a.cells, .string s] W fun e w' => e = .returned (.tuple #[.agg (gotI (L 0) s).toArray, .bool (atI (L 0) s).isSome]) ∧ Below W.heap.size W w') := Lib.hid (fun a W hW =>
    finds_any a (L 0) s W (hW 0 (by decide)).1 (hW 0 (by decide)).2.1 (hW 0 (by decide)).2.2.1 (hW 0 (by decide)).2.2.2)
  have HFR : Hid (∀ (a : Hs) W, HT a L W → Calls Try.prog 14 #[.agg a.cells, .string s] W fun e w' => e = .returned (.tuple #[.agg (gotI (L 0) s).toArray, .bool (atI (L 0) s).isSome]) ∧ Below W.heap.size W w') := Lib.hid (fun a W hW =>
    rfinds_any a (L 0) s W (hW 0 (by decide)).1 (hW 0 (by decide)).2.1 (hW 0 (by decide)).2.2.1 (hW 0 (by decide)).2.2.2)
  clear hf hm hin hs hk
  rw [← hcs]
  have HCS := Lib.hid hcs
  clear hcs
  subst hW0
  go_enter Try.func3, Try.ntmps3
  go_wp2_with (first
    | (refine wpList_load_row rfl 37 (.tmp 3) rfl w.heap.size rfl _ _ _ _ HH0.out huh rfl (HSH.out _) ?_)
    | fail)
  refine (small_calls h _).mono ?_
  rintro e w1 ⟨⟨b, rfl, hb⟩, hb1⟩
  have HH1 := Lib.hid ((hb1.block _ (lt_of_block HH0.out)).trans HH0.out)
  have HX1 := Lib.hid ((hb1.block _ (lt_of_block HX0.out)).trans HX0.out)
  have B1 := Lib.hid (B0.out.trans (hb1.mono B0.out.size))
  clear hb1
  cases b with
  | false =>
    clear hb
    go_wp2_with fail
    refine (awake_any _).mono ?_
    rintro e w2 ⟨rfl, hb2⟩
    have HB2 := Lib.hid (B1.out.trans (hb2.mono B1.out.size))
    clear hb2
    go_wp2_with fail
    go_ret
    exact ⟨rfl, HB2.out⟩
  | true =>
    have HSM := Lib.hid (hb.1 rfl)
    clear hb
    have HT1 : Hid (HT h L w1) := Lib.hid (HIN.out.ht HSM.out B1.out)
    have HSG : Hid ((Try.prog.info? 42).map (·.size) = some (gotI (L 0) s).toArray.size) := Lib.hid (by rw [show (Try.prog.info? 42).map (·.size) = some 14 from by kernel_rfl, List.size_toArray, (gotI_fits (HIN.out.t 0 (by decide)) s).length]; rfl)
    have HOG : Hid ((#[.string ⟨#[]⟩, .string ⟨#[]⟩, .int .i64 0, .string ⟨#[]⟩, .int .i64 0, .string ⟨#[]⟩, .int .i64 0, .string ⟨#[]⟩, .int .i64 0, .int .i64 0, .int .i64 0, .bool false, .bool false, .bool false] : Array Value).size = (gotI (L 0) s).toArray.size) := Lib.hid (by rw [List.size_toArray, List.size_toArray, (gotI_fits (HIN.out.t 0 (by decide)) s).length]; rfl)
    have HCG : Hid ((gotI (L 0) s).toArray.all (·.oneCell') = true) := Lib.hid (all_oneCell_toArray (fits_one (gotI_fits (HIN.out.t 0 (by decide)) s)))
    go_wp2_with (first
      | (refine wpList_load_row rfl 37 (.tmp 3) rfl w.heap.size rfl _ _ _ _ HH1.out huh rfl (HSH.out _) ?_)
      | fail)
    refine (lents_calls h L _ HT1.out (fun i hi => Nat.le_trans (HSM.out i hi) (cap_le i hi))).mono ?_
    rintro e w2 ⟨own, rfl, hz, hlt, hb2⟩
    have HH2 := Lib.hid ((hb2.block _ (lt_of_block HH1.out)).trans HH1.out)
    have HX2 := Lib.hid ((hb2.block _ (lt_of_block HX1.out)).trans HX1.out)
    have B2 := Lib.hid (B1.out.trans (hb2.mono B1.out.size))
    have HT2 := Lib.hid (HT1.out.below hb2)
    obtain ⟨gg, n, c, z, hcell, hze, hn', hc', hnn, hbb, hot⟩ := lent_own hlt HT1.out (fun i hi => HSM.out i hi)
    have hzz : z = h.z := hze.trans hz
    obtain ⟨own2, how⟩ : ∃ o, o = Hs.mk (fun i => some ⟨gg i, 0, none⟩) n c z := ⟨_, rfl⟩
    rw [show own.val = .agg own2.cells from by rw [Hs.val_cells, hcell, how]]
    rw [← how] at hot
    have HOW := Lib.hid how
    have OWN2 := Lib.hid hot
    have HNN := Lib.hid hn'
    have HCC := Lib.hid hc'
    have HN6 := Lib.hid hnn
    have HBH2 : Hid (KB gg n w2) := Lib.hid hbb
    have HZZ := Lib.hid hzz
    clear hz hlt hb2 hn' hc' hnn hbb hot how hcell hze hzz own
    have HQ3 : Hid ((w2.alloc (.cells #[.slice none 0 0, .slice none 0 0, .slice none 0 0, .slice none 0 0, .slice none 0 0, .slice none 0 0, .slice none 0 0, .slice none 0 0, .slice none 0 0, .slice none 0 0, .slice none 0 0, .slice none 0 0, .slice none 0 0, .slice none 0 0, .int .i64 0] 37)).heap[w2.heap.size]? = some (.cells #[.slice none 0 0, .slice none 0 0, .slice none 0 0, .slice none 0 0, .slice none 0 0, .slice none 0 0, .slice none 0 0, .slice none 0 0, .slice none 0 0, .slice none 0 0, .slice none 0 0, .slice none 0 0, .slice none 0 0, .slice none 0 0, .int .i64 0] 37 (0, 0))) := Lib.hid (heap_alloc_new _ _)
    obtain ⟨w3, hw3⟩ : ∃ w', w' = (w2.alloc (.cells #[.slice none 0 0, .slice none 0 0, .slice none 0 0, .slice none 0 0, .slice none 0 0, .slice none 0 0, .slice none 0 0, .slice none 0 0, .slice none 0 0, .slice none 0 0, .slice none 0 0, .slice none 0 0, .slice none 0 0, .slice none 0 0, .int .i64 0] 37)).setRow w2.heap.size own2.cells := ⟨_, rfl⟩
    have hb3 : Below w2.heap.size w2 w3 := by rw [hw3]; exact setRow_below ((Below.refl _ _).alloc (Nat.le_refl _) _) (Nat.le_refl _) _
    have HH3 := Lib.hid ((hb3.block _ (lt_of_block HH2.out)).trans HH2.out)
    have HX3 := Lib.hid ((hb3.block _ (lt_of_block HX2.out)).trans HX2.out)
    have B3 := Lib.hid (B2.out.trans (hb3.mono B2.out.size))
    have HT3 := Lib.hid (HT2.out.below hb3)
    have HBH3 := Lib.hid (HBH2.out.below hb3)
    have OWN3 := Lib.hid (OWN2.out.below hb3)
    have HO3 : Hid (w3.heap[w2.heap.size]? = some (.cells own2.cells 37 (0, 0))) := Lib.hid (by rw [hw3]; exact setRow_heap _ _ _ _ _ _ HQ3.out)
    have HW3 := Lib.hid hw3
    clear hb3 hw3
    go_wp2_with (first
      | (refine wpList_store_row rfl 37 (.tmp 7) (.tmp 21) rfl w2.heap.size own2.cells rfl rfl _ _ HQ3.out (HSH.out _) rfl (H1C.out _) ?_; rw [← HW3.out])
      | (refine wpList_load_row rfl 37 (.tmp 7) rfl w2.heap.size rfl _ _ _ _ HO3.out huh rfl (HSH.out _) ?_)
      | (refine wpList_load_row rfl 42 (.tmp 4) rfl (w.heap.size + 1) rfl _ _ _ _ HX3.out hui rfl HSX.out ?_)
      | fail)
    have H6 : Hid (h.n 0 ≤ 1000) := Lib.hid (Nat.le_trans (HSM.out 0 (by decide)) (by decide))
    have HO6 : Hid (own2.n 0 ≤ 1000 ∧ own2.n 0 ≤ own2.c 0 ∧ own2.c 0 ≤ 9223372036854775807) := Lib.hid (by rw [HOW.out]; exact ⟨HN6.out 0 (by decide), Nat.le_of_succ_le (HCC.out 0 (by decide)).1, (HCC.out 0 (by decide)).2⟩)
    refine (adds_any own2 cs k (L 0) _ HFX.out HCK1.out (OWN3.out 0 (by decide)).1 HO6.out.1 HO6.out.2.1 HO6.out.2.2 (OWN3.out 0 (by decide)).2.2.1 (OWN3.out 0 (by decide)).2.2.2).mono ?_
    intro e w4 ha
    obtain ⟨a, rfl, hat, haz, hb4⟩ := adds_ht HFX.out OWN3.out HO6.out.1 ha
    have HH4 := Lib.hid ((hb4.block _ (lt_of_block HH3.out)).trans HH3.out)
    have HX4 := Lib.hid ((hb4.block _ (lt_of_block HX3.out)).trans HX3.out)
    have HO4 := Lib.hid ((hb4.block _ (lt_of_block HO3.out)).trans HO3.out)
    have B4 := Lib.hid (B3.out.trans (hb4.mono B3.out.size))
    have HT4 := Lib.hid (HT3.out.below hb4)
    have HBH4 := Lib.hid (HBH3.out.below hb4)
    have OWN4 := Lib.hid (OWN3.out.below hb4)
    have AT4 := Lib.hid hat
    have HAZ : Hid (a.z = addZ L cs k h.z) := Lib.hid (by rw [haz, HOW.out]; rw [← HZZ.out])
    clear ha hat haz hb4
    have HQ5 : Hid ((w4.alloc (.cells #[.slice none 0 0, .slice none 0 0, .slice none 0 0, .slice none 0 0, .slice none 0 0, .slice none 0 0, .slice none 0 0, .slice none 0 0, .slice none 0 0, .slice none 0 0, .slice none 0 0, .slice none 0 0, .slice none 0 0, .slice none 0 0, .int .i64 0] 37)).heap[w4.heap.size]? = some (.cells #[.slice none 0 0, .slice none 0 0, .slice none 0 0, .slice none 0 0, .slice none 0 0, .slice none 0 0, .slice none 0 0, .slice none 0 0, .slice none 0 0, .slice none 0 0, .slice none 0 0, .slice none 0 0, .slice none 0 0, .slice none 0 0, .int .i64 0] 37 (0, 0))) := Lib.hid (heap_alloc_new _ _)
    obtain ⟨w5, hw5⟩ : ∃ w', w' = (w4.alloc (.cells #[.slice none 0 0, .slice none 0 0, .slice none 0 0, .slice none 0 0, .slice none 0 0, .slice none 0 0, .slice none 0 0, .slice none 0 0, .slice none 0 0, .slice none 0 0, .slice none 0 0, .slice none 0 0, .slice none 0 0, .slice none 0 0, .int .i64 0] 37)).setRow w4.heap.size a.cells := ⟨_, rfl⟩
    have hb5 : Below w4.heap.size w4 w5 := by rw [hw5]; exact setRow_below ((Below.refl _ _).alloc (Nat.le_refl _) _) (Nat.le_refl _) _
    have HH5 := Lib.hid ((hb5.block _ (lt_of_block HH4.out)).trans HH4.out)
    have HX5 := Lib.hid ((hb5.block _ (lt_of_block HX4.out)).trans HX4.out)
    have HO5 := Lib.hid ((hb5.block _ (lt_of_block HO4.out)).trans HO4.out)
    have B5 := Lib.hid (B4.out.trans (hb5.mono B4.out.size))
    have HT5 := Lib.hid (HT4.out.below hb5)
    have HBH5 := Lib.hid (HBH4.out.below hb5)
    have OWN5 := Lib.hid (OWN4.out.below hb5)
    have AT5 := Lib.hid (AT4.out.below hb5)
    have HA5 : Hid (w5.heap[w4.heap.size]? = some (.cells a.cells 37 (0, 0))) := Lib.hid (by rw [hw5]; exact setRow_heap _ _ _ _ _ _ HQ5.out)
    have HW5 := Lib.hid hw5
    clear hb5 hw5
    go_wp2_with (first
      | (refine wpList_store_row rfl 37 (.tmp 8) (.tmp 26) rfl w4.heap.size a.cells rfl rfl _ _ HQ5.out (HSH.out _) rfl (H1C.out _) ?_; rw [← HW5.out])
      | (refine wpList_load_row rfl 37 (.tmp 3) rfl w.heap.size rfl _ _ _ _ HH5.out huh rfl (HSH.out _) ?_)
      | (refine wpList_load_row rfl 42 (.tmp 4) rfl (w.heap.size + 1) rfl _ _ _ _ HX5.out hui rfl HSX.out ?_)
      | fail)
    refine (HRA.out _ H6.out HT5.out).mono ?_
    intro e w6 ha
    obtain ⟨b, rfl, hbt, hbz, hb6⟩ := adds_ht HFX.out HT5.out H6.out ha
    have HH6 := Lib.hid ((hb6.block _ (lt_of_block HH5.out)).trans HH5.out)
    have HX6 := Lib.hid ((hb6.block _ (lt_of_block HX5.out)).trans HX5.out)
    have HO6 := Lib.hid ((hb6.block _ (lt_of_block HO5.out)).trans HO5.out)
    have HA6 := Lib.hid ((hb6.block _ (lt_of_block HA5.out)).trans HA5.out)
    have B6 := Lib.hid (B5.out.trans (hb6.mono B5.out.size))
    have HT6 := Lib.hid (HT5.out.below hb6)
    have HBH6 := Lib.hid (HBH5.out.below hb6)
    have OWN6 := Lib.hid (OWN5.out.below hb6)
    have AT6 := Lib.hid (AT5.out.below hb6)
    have BT6 := Lib.hid hbt
    have HBZ := Lib.hid hbz
    clear ha hbt hbz hb6
    have HQ7 : Hid ((w6.alloc (.cells #[.slice none 0 0, .slice none 0 0, .slice none 0 0, .slice none 0 0, .slice none 0 0, .slice none 0 0, .slice none 0 0, .slice none 0 0, .slice none 0 0, .slice none 0 0, .slice none 0 0, .slice none 0 0, .slice none 0 0, .slice none 0 0, .int .i64 0] 37)).heap[w6.heap.size]? = some (.cells #[.slice none 0 0, .slice none 0 0, .slice none 0 0, .slice none 0 0, .slice none 0 0, .slice none 0 0, .slice none 0 0, .slice none 0 0, .slice none 0 0, .slice none 0 0, .slice none 0 0, .slice none 0 0, .slice none 0 0, .slice none 0 0, .int .i64 0] 37 (0, 0))) := Lib.hid (heap_alloc_new _ _)
    obtain ⟨w7, hw7⟩ : ∃ w', w' = (w6.alloc (.cells #[.slice none 0 0, .slice none 0 0, .slice none 0 0, .slice none 0 0, .slice none 0 0, .slice none 0 0, .slice none 0 0, .slice none 0 0, .slice none 0 0, .slice none 0 0, .slice none 0 0, .slice none 0 0, .slice none 0 0, .slice none 0 0, .int .i64 0] 37)).setRow w6.heap.size b.cells := ⟨_, rfl⟩
    have hb7 : Below w6.heap.size w6 w7 := by rw [hw7]; exact setRow_below ((Below.refl _ _).alloc (Nat.le_refl _) _) (Nat.le_refl _) _
    have HH7 := Lib.hid ((hb7.block _ (lt_of_block HH6.out)).trans HH6.out)
    have HX7 := Lib.hid ((hb7.block _ (lt_of_block HX6.out)).trans HX6.out)
    have HO7 := Lib.hid ((hb7.block _ (lt_of_block HO6.out)).trans HO6.out)
    have HA7 := Lib.hid ((hb7.block _ (lt_of_block HA6.out)).trans HA6.out)
    have B7 := Lib.hid (B6.out.trans (hb7.mono B6.out.size))
    have HT7 := Lib.hid (HT6.out.below hb7)
    have HBH7 := Lib.hid (HBH6.out.below hb7)
    have OWN7 := Lib.hid (OWN6.out.below hb7)
    have AT7 := Lib.hid (AT6.out.below hb7)
    have BT7 := Lib.hid (BT6.out.below hb7)
    have HB7 : Hid (w7.heap[w6.heap.size]? = some (.cells b.cells 37 (0, 0))) := Lib.hid (by rw [hw7]; exact setRow_heap _ _ _ _ _ _ HQ7.out)
    have HW7 := Lib.hid hw7
    clear hb7 hw7
    go_wp2_with (first
      | (refine wpList_store_row rfl 37 (.tmp 10) (.tmp 32) rfl w6.heap.size b.cells rfl rfl _ _ HQ7.out (HSH.out _) rfl (H1C.out _) ?_; rw [← HW7.out])
      | (refine wpList_load_row rfl 37 (.tmp 7) rfl w2.heap.size rfl _ _ _ _ HO7.out huh rfl (HSH.out _) ?_)
      | fail)
    refine (HFI.out own2 _ OWN7.out).mono ?_
    rintro e w8 ⟨rfl, hb8⟩
    have HH8 := Lib.hid ((hb8.block _ (lt_of_block HH7.out)).trans HH7.out)
    have HX8 := Lib.hid ((hb8.block _ (lt_of_block HX7.out)).trans HX7.out)
    have HO8 := Lib.hid ((hb8.block _ (lt_of_block HO7.out)).trans HO7.out)
    have HA8 := Lib.hid ((hb8.block _ (lt_of_block HA7.out)).trans HA7.out)
    have HB8 := Lib.hid ((hb8.block _ (lt_of_block HB7.out)).trans HB7.out)
    have B8 := Lib.hid (B7.out.trans (hb8.mono B7.out.size))
    have HT8 := Lib.hid (HT7.out.below hb8)
    have HBH8 := Lib.hid (HBH7.out.below hb8)
    have OWN8 := Lib.hid (OWN7.out.below hb8)
    have AT8 := Lib.hid (AT7.out.below hb8)
    have BT8 := Lib.hid (BT7.out.below hb8)
    clear hb8
    have HQ9 : Hid ((w8.alloc (.cells #[.string ⟨#[]⟩, .string ⟨#[]⟩, .int .i64 0, .string ⟨#[]⟩, .int .i64 0, .string ⟨#[]⟩, .int .i64 0, .string ⟨#[]⟩, .int .i64 0, .int .i64 0, .int .i64 0, .bool false, .bool false, .bool false] 42)).heap[w8.heap.size]? = some (.cells #[.string ⟨#[]⟩, .string ⟨#[]⟩, .int .i64 0, .string ⟨#[]⟩, .int .i64 0, .string ⟨#[]⟩, .int .i64 0, .string ⟨#[]⟩, .int .i64 0, .int .i64 0, .int .i64 0, .bool false, .bool false, .bool false] 42 (0, 0))) := Lib.hid (heap_alloc_new _ _)
    obtain ⟨w9, hw9⟩ : ∃ w', w' = (w8.alloc (.cells #[.string ⟨#[]⟩, .string ⟨#[]⟩, .int .i64 0, .string ⟨#[]⟩, .int .i64 0, .string ⟨#[]⟩, .int .i64 0, .string ⟨#[]⟩, .int .i64 0, .int .i64 0, .int .i64 0, .bool false, .bool false, .bool false] 42)).setRow w8.heap.size (gotI (L 0) s).toArray := ⟨_, rfl⟩
    have hb9 : Below w8.heap.size w8 w9 := by rw [hw9]; exact setRow_below ((Below.refl _ _).alloc (Nat.le_refl _) _) (Nat.le_refl _) _
    have HH9 := Lib.hid ((hb9.block _ (lt_of_block HH8.out)).trans HH8.out)
    have HX9 := Lib.hid ((hb9.block _ (lt_of_block HX8.out)).trans HX8.out)
    have HO9 := Lib.hid ((hb9.block _ (lt_of_block HO8.out)).trans HO8.out)
    have HA9 := Lib.hid ((hb9.block _ (lt_of_block HA8.out)).trans HA8.out)
    have HB9 := Lib.hid ((hb9.block _ (lt_of_block HB8.out)).trans HB8.out)
    have B9 := Lib.hid (B8.out.trans (hb9.mono B8.out.size))
    have HT9 := Lib.hid (HT8.out.below hb9)
    have HBH9 := Lib.hid (HBH8.out.below hb9)
    have OWN9 := Lib.hid (OWN8.out.below hb9)
    have AT9 := Lib.hid (AT8.out.below hb9)
    have BT9 := Lib.hid (BT8.out.below hb9)
    have HY9 : Hid (w9.heap[w8.heap.size]? = some (.cells (gotI (L 0) s).toArray 42 (0, 0))) := Lib.hid (by rw [hw9]; exact setRow_heap _ _ _ _ _ _ HQ9.out)
    have HW9 := Lib.hid hw9
    clear hb9 hw9
    go_wp2_with (first
      | (refine wpList_store_row rfl 42 (.tmp 12) (.tmp 38) rfl w8.heap.size (gotI (L 0) s).toArray rfl rfl _ _ HQ9.out HSG.out HOG.out HCG.out ?_; rw [← HW9.out])
      | (refine wpList_load_row rfl 37 (.tmp 3) rfl w.heap.size rfl _ _ _ _ HH9.out huh rfl (HSH.out _) ?_)
      | fail)
    refine (HFR.out h _ HT9.out).mono ?_
    rintro e w10 ⟨rfl, hb10⟩
    have HH10 := Lib.hid ((hb10.block _ (lt_of_block HH9.out)).trans HH9.out)
    have HX10 := Lib.hid ((hb10.block _ (lt_of_block HX9.out)).trans HX9.out)
    have HO10 := Lib.hid ((hb10.block _ (lt_of_block HO9.out)).trans HO9.out)
    have HA10 := Lib.hid ((hb10.block _ (lt_of_block HA9.out)).trans HA9.out)
    have HB10 := Lib.hid ((hb10.block _ (lt_of_block HB9.out)).trans HB9.out)
    have HY10 := Lib.hid ((hb10.block _ (lt_of_block HY9.out)).trans HY9.out)
    have B10 := Lib.hid (B9.out.trans (hb10.mono B9.out.size))
    have HT10 := Lib.hid (HT9.out.below hb10)
    have HBH10 := Lib.hid (HBH9.out.below hb10)
    have OWN10 := Lib.hid (OWN9.out.below hb10)
    have AT10 := Lib.hid (AT9.out.below hb10)
    have BT10 := Lib.hid (BT9.out.below hb10)
    clear hb10
    have HQ11 : Hid ((w10.alloc (.cells #[.string ⟨#[]⟩, .string ⟨#[]⟩, .int .i64 0, .string ⟨#[]⟩, .int .i64 0, .string ⟨#[]⟩, .int .i64 0, .string ⟨#[]⟩, .int .i64 0, .int .i64 0, .int .i64 0, .bool false, .bool false, .bool false] 42)).heap[w10.heap.size]? = some (.cells #[.string ⟨#[]⟩, .string ⟨#[]⟩, .int .i64 0, .string ⟨#[]⟩, .int .i64 0, .string ⟨#[]⟩, .int .i64 0, .string ⟨#[]⟩, .int .i64 0, .int .i64 0, .int .i64 0, .bool false, .bool false, .bool false] 42 (0, 0))) := Lib.hid (heap_alloc_new _ _)
    obtain ⟨w11, hw11⟩ : ∃ w', w' = (w10.alloc (.cells #[.string ⟨#[]⟩, .string ⟨#[]⟩, .int .i64 0, .string ⟨#[]⟩, .int .i64 0, .string ⟨#[]⟩, .int .i64 0, .string ⟨#[]⟩, .int .i64 0, .int .i64 0, .int .i64 0, .bool false, .bool false, .bool false] 42)).setRow w10.heap.size (gotI (L 0) s).toArray := ⟨_, rfl⟩
    have hb11 : Below w10.heap.size w10 w11 := by rw [hw11]; exact setRow_below ((Below.refl _ _).alloc (Nat.le_refl _) _) (Nat.le_refl _) _
    have HH11 := Lib.hid ((hb11.block _ (lt_of_block HH10.out)).trans HH10.out)
    have HX11 := Lib.hid ((hb11.block _ (lt_of_block HX10.out)).trans HX10.out)
    have HO11 := Lib.hid ((hb11.block _ (lt_of_block HO10.out)).trans HO10.out)
    have HA11 := Lib.hid ((hb11.block _ (lt_of_block HA10.out)).trans HA10.out)
    have HB11 := Lib.hid ((hb11.block _ (lt_of_block HB10.out)).trans HB10.out)
    have HY11 := Lib.hid ((hb11.block _ (lt_of_block HY10.out)).trans HY10.out)
    have B11 := Lib.hid (B10.out.trans (hb11.mono B10.out.size))
    have HT11 := Lib.hid (HT10.out.below hb11)
    have HBH11 := Lib.hid (HBH10.out.below hb11)
    have OWN11 := Lib.hid (OWN10.out.below hb11)
    have AT11 := Lib.hid (AT10.out.below hb11)
    have BT11 := Lib.hid (BT10.out.below hb11)
    have HZ11 : Hid (w11.heap[w10.heap.size]? = some (.cells (gotI (L 0) s).toArray 42 (0, 0))) := Lib.hid (by rw [hw11]; exact setRow_heap _ _ _ _ _ _ HQ11.out)
    have HW11 := Lib.hid hw11
    clear hb11 hw11
    go_wp2_with (first
      | (refine wpList_store_row rfl 42 (.tmp 14) (.tmp 44) rfl w10.heap.size (gotI (L 0) s).toArray rfl rfl _ _ HQ11.out HSG.out HOG.out HCG.out ?_; rw [← HW11.out])
      | fail)
    have RHH : Hid (∀ X : BW w11, X.W.heap[w.heap.size]? = some (.cells h.cells 37 (0, 0))) := Lib.hid (fun X => (X.h.block _ (lt_of_block HH11.out)).trans HH11.out)
    have RHX : Hid (∀ X : BW w11, X.W.heap[(w.heap.size + 1)]? = some (.cells cs.toArray 42 (0, 0))) := Lib.hid (fun X => (X.h.block _ (lt_of_block HX11.out)).trans HX11.out)
    have RHO : Hid (∀ X : BW w11, X.W.heap[w2.heap.size]? = some (.cells own2.cells 37 (0, 0))) := Lib.hid (fun X => (X.h.block _ (lt_of_block HO11.out)).trans HO11.out)
    have RHA : Hid (∀ X : BW w11, X.W.heap[w4.heap.size]? = some (.cells a.cells 37 (0, 0))) := Lib.hid (fun X => (X.h.block _ (lt_of_block HA11.out)).trans HA11.out)
    have RHB : Hid (∀ X : BW w11, X.W.heap[w6.heap.size]? = some (.cells b.cells 37 (0, 0))) := Lib.hid (fun X => (X.h.block _ (lt_of_block HB11.out)).trans HB11.out)
    have RHY : Hid (∀ X : BW w11, X.W.heap[w8.heap.size]? = some (.cells (gotI (L 0) s).toArray 42 (0, 0))) := Lib.hid (fun X => (X.h.block _ (lt_of_block HY11.out)).trans HY11.out)
    have RHZ : Hid (∀ X : BW w11, X.W.heap[w10.heap.size]? = some (.cells (gotI (L 0) s).toArray 42 (0, 0))) := Lib.hid (fun X => (X.h.block _ (lt_of_block HZ11.out)).trans HZ11.out)
    have SA : Hid (∀ X : BW w11, Calls Try.prog 15 #[.agg a.cells, .agg b.cells] X.W fun e w' => e = .returned (.bool true) ∧ Below X.W.heap.size X.W w') := Lib.hid (fun X => same_true (AT11.out.below X.h) (BT11.out.below X.h) (HAZ.out.trans HBZ.out.symm))
    have SK : Hid (∀ X : BW w11, Calls Try.prog 18 #[.agg own2.cells, .agg h.cells] X.W fun e w' => e = .returned (.bool true) ∧ Below X.W.heap.size X.W w') := Lib.hid (fun X => kept_true HOW.out HNN.out HCC.out HN6.out (HBH11.out.below X.h) (OWN11.out.below X.h) (HT11.out.below X.h) (by rw [HOW.out]; exact HZZ.out))
    have heq := fun W => eql_same (P := Try.prog) eqItem (by decide) (gotI (L 0) s) W (gotI_fits (HIN.out.t 0 (by decide)) s)
    have HSXL : Hid ((Try.prog.info? 42).map (·.size) = some cs.length) := Lib.hid (by have := HSX.out; rwa [List.size_toArray] at this)
    have HSGL : Hid ((Try.prog.info? 42).map (·.size) = some (gotI (L 0) s).length) := Lib.hid (by have := HSG.out; rwa [List.size_toArray] at this)
    refine wp_grow w11 (by kernel_rfl) (by kernel_rfl) (Below.refl _ _) ?_
    simp only []
    iterate 4 go_big_quiet_step (fail)
    refine BigFrame.wpQuiet_want (by kernel_rfl) (fun K hK => quiet_load_mid 37 (.tmp 8) rfl w4.heap.size 0 rfl a.cells.toList _ (fun W ⟨X, hX⟩ => by rw [hX]; exact range_row0 (RHA.out X)) huh rfl (HSHL.out _) (hK _ ?_))
    simp only [Act.put, List.setIfInBounds_toArray, List.set_cons_zero, List.set_cons_succ, Array.toArray_toList]
    refine BigFrame.wpQuiet_want (by kernel_rfl) (fun K hK => quiet_load_mid 37 (.tmp 10) rfl w6.heap.size 0 rfl b.cells.toList _ (fun W ⟨X, hX⟩ => by rw [hX]; exact range_row0 (RHB.out X)) huh rfl (HSHL.out _) (hK _ ?_))
    simp only [Act.put, List.setIfInBounds_toArray, List.set_cons_zero, List.set_cons_succ, Array.toArray_toList]
    go_big_quiet_step (exact grow_call _ (SA.out _))
    iterate 2 go_big_quiet_step (fail)
    refine BigFrame.wpQuiet_want (by kernel_rfl) (fun K hK => quiet_load_mid 42 (.tmp 4) rfl (w.heap.size + 1) 0 rfl cs _ (fun W ⟨X, hX⟩ => by rw [hX]; exact range_row (RHX.out X)) hui rfl HSXL.out (hK _ ?_))
    simp only [Act.put, List.setIfInBounds_toArray, List.set_cons_zero, List.set_cons_succ]
    go_big_quiet_step (exact grow_call _ (HCK1.out _))
    refine BigFrame.wpQuiet_want (by kernel_rfl) (fun K hK => quiet_load_mid 42 (.tmp 4) rfl (w.heap.size + 1) 0 rfl cs _ (fun W ⟨X, hX⟩ => by rw [hX]; exact range_row (RHX.out X)) hui rfl HSXL.out (hK _ ?_))
    simp only [Act.put, List.setIfInBounds_toArray, List.set_cons_zero, List.set_cons_succ]
    go_big_quiet_step (exact grow_call _ (HCK2.out _))
    iterate 3 go_big_quiet_step (fail)
    refine BigFrame.wpQuiet_want (by kernel_rfl) (fun K hK => quiet_load_mid 42 (.tmp 12) rfl w8.heap.size 0 rfl (gotI (L 0) s) _ (fun W ⟨X, hX⟩ => by rw [hX]; exact range_row (RHY.out X)) hui rfl HSGL.out (hK _ ?_))
    simp only [Act.put, List.setIfInBounds_toArray, List.set_cons_zero, List.set_cons_succ]
    refine BigFrame.wpQuiet_want (by kernel_rfl) (fun K hK => quiet_load_mid 42 (.tmp 14) rfl w10.heap.size 0 rfl (gotI (L 0) s) _ (fun W ⟨X, hX⟩ => by rw [hX]; exact range_row (RHZ.out X)) hui rfl HSGL.out (hK _ ?_))
    simp only [Act.put, List.setIfInBounds_toArray, List.set_cons_zero, List.set_cons_succ]
    iterate 3 go_big_quiet_step (fail)
    iterate 5 go_big_quiet_step (fail)
    refine BigFrame.wpQuiet_want (by kernel_rfl) (fun K hK => quiet_load_mid 37 (.tmp 7) rfl w2.heap.size 0 rfl own2.cells.toList _ (fun W ⟨X, hX⟩ => by rw [hX]; exact range_row0 (RHO.out X)) huh rfl (HSHL.out _) (hK _ ?_))
    simp only [Act.put, List.setIfInBounds_toArray, List.set_cons_zero, List.set_cons_succ, Array.toArray_toList]
    refine BigFrame.wpQuiet_want (by kernel_rfl) (fun K hK => quiet_load_mid 37 (.tmp 3) rfl w.heap.size 0 rfl h.cells.toList _ (fun W ⟨X, hX⟩ => by rw [hX]; exact range_row0 (RHH.out X)) huh rfl (HSHL.out _) (hK _ ?_))
    simp only [Act.put, List.setIfInBounds_toArray, List.set_cons_zero, List.set_cons_succ, Array.toArray_toList]
    go_big_quiet_step (exact grow_call _ (SK.out _))
    iterate 2 go_big_quiet_step (fail)
    go_big_quiet_step (exact grow_call _ (awake_any _))
    iterate 2 go_big_quiet_step (fail)
    refine wpQuiet_nil ?_
    intro X
    go_wp2_with fail
    go_ret
    exact ⟨rfl, B11.out.trans (X.h.mono B11.out.size)⟩
end Go.Proofs.Ytcihibmapbigdaa.itemsAdds
