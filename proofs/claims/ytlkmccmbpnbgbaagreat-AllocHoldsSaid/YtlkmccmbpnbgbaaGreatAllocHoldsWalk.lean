/-
 THE LAW AllocHolds, over the contracts. (By wip/tools/gen_laws16.py.)
-/
import Derived.Test.YtlkmccmbpnbgbaaGreatARow
import Derived.Test.YtlkmccmbpnbgbaaGreatRDrop
import Derived.Test.YtlkmccmbpnbgbaaGreatRAlloc
import Derived.Test.YtlkmccmbpnbgbaaGreatHSmall
import Derived.Test.YtlkmccmbpnbgbaaGreatHKept
import Derived.Test.YtlkmccmbpnbgbaaGreatHA
import Derived.Deep.RegionHeld3
namespace Go.Proofs.YtlkmccmbpnbgbaaGreat.allocHolds
set_option linter.unusedVariables false
open Go.RowKit
open Pl (firstG findG putG It)

set_option maxRecDepth 100000 in
set_option maxHeartbeats 6400000 in
theorem walk0 (h : Hs) (L : HL) (s : ByteArray) (w : World) (hin : HIn h L w) :
 Calls Tryz.prog 4 #[.agg h.cells, .string s] w fun e w' => e = .returned (.bool true) ∧ Below w.heap.size w w' := by
 have HIN := Lib.hid hin
 have HAW : Hid (∀ W, Calls Tryz.prog 9 #[] W fun e w' => e = .returned (.bool true) ∧ Below W.heap.size W w') := Lib.hid (fun W => awake_any W)
 obtain ⟨ea, hea⟩ : ∃ r : Int, ((allE L s : Nat) : Int) = r := ⟨_, rfl⟩
 have HEA := Lib.hid hea
 obtain ⟨ed, hed⟩ : ∃ r : Int, ((dropE L s : Nat) : Int) = r := ⟨_, rfl⟩
 have HED := Lib.hid hed
 obtain ⟨W0, hW0⟩ : ∃ W0, W0 = (w.alloc (.cells h.cells 37)) := ⟨_, rfl⟩
 have B0 : Hid (Below w.heap.size w W0) := Lib.hid (by rw [hW0]; exact (Below.refl _ _).alloc (Nat.le_refl _) _)
 have HH0 : Hid (W0.heap[w.heap.size]? = some (.cells h.cells 37 (0, 0))) := Lib.hid (by
  rw [hW0]
  have hq := heap_alloc_new w (.cells h.cells 37)
  exact by simpa using hq)
 have huh := Tryz.underlying37
 have HSH : Hid (∀ a : Hs, (Tryz.prog.info? 37).map (·.size) = some a.cells.size) := Lib.hid (fun a => by kernel_rfl)
 have HSHL : Hid (∀ a : Hs, (Tryz.prog.info? 37).map (·.size) = some a.cells.toList.length) := Lib.hid (fun a => by kernel_rfl)
 have H1C : Hid (∀ a : Hs, a.cells.all (·.oneCell') = true) := Lib.hid (fun a => by simp [Hs.cells, Value.oneCell'])
 have huClaim := Tryz.underlying46
 have HSClaim : Hid ((Tryz.prog.info? 46).map (·.size) = some 8) := Lib.hid (by kernel_rfl)
 clear hin hea hed
 subst hW0
 go_enter Tryz.func4, Tryz.ntmps4
 go_wp2_with (first
  | (refine wpList_load_row rfl 37 (.tmp 2) rfl w.heap.size rfl _ _ _ _ HH0.out huh rfl (HSH.out _) ?_)
  | fail)
 refine (small_calls h _).mono ?_
 rintro e w1 ⟨⟨b, rfl, hb⟩, hb1⟩
 have HH1 := Lib.hid ((hb1.block _ (lt_of_block HH0.out)).trans HH0.out)
 have B1 := Lib.hid (B0.out.trans (hb1.mono B0.out.size))
 clear hb1
 cases b with
 | false =>
  clear hb
  go_wp2_with fail
  refine (HAW.out _).mono ?_
  rintro e w2 ⟨rfl, hb2⟩
  have HB2 := Lib.hid (B1.out.trans (hb2.mono B1.out.size))
  clear hb2
  go_wp2_with fail
  go_ret
  exact ⟨rfl, HB2.out⟩
 | true =>
  have HSM := Lib.hid (hb.1 rfl)
  clear hb
  have HT1 : Hid (HT h L w1) := Lib.hid (HIN.out.ht HSM.out B1.out)
  have HN : Hid (∀ i, i < 14 → h.n i ≤ 1000) := Lib.hid (fun i hi => Nat.le_trans (HSM.out i hi) (cap_le i hi))
  go_wp2_with (first
   | (refine wpList_load_row rfl 37 (.tmp 2) rfl w.heap.size rfl _ _ _ _ HH1.out huh rfl (HSH.out _) ?_)
   | fail)
  refine (lents_calls h L _ HT1.out HN.out).mono ?_
  rintro e w2 ⟨own, rfl, hz, hlt, hb2⟩
  obtain ⟨gg, n, c, z, hcell, hze, hn', hc', hnn, hbb, hot⟩ := lent_own hlt HT1.out (fun i hi => HSM.out i hi)
  have HH2 := Lib.hid ((hb2.block _ (lt_of_block HH1.out)).trans HH1.out)
  have B2 := Lib.hid (B1.out.trans (hb2.mono B1.out.size))
  have HT2 := Lib.hid (HT1.out.below hb2)
  have hzz : z = h.z := hze.trans hz
  obtain ⟨own2, how⟩ : ∃ o, o = Hs.mk (fun i => some ⟨gg i, 0, none⟩) n c z := ⟨_, rfl⟩
  rw [show own.val = .agg own2.cells from by rw [Hs.val_cells, hcell, how]]
  rw [← how] at hot
  have HOW := Lib.hid how
  have OWN2 := Lib.hid hot
  have HNN := Lib.hid hn'
  have HCC := Lib.hid hc'
  have HN6 := Lib.hid hnn
  have HBH2 : Hid (KB gg n w2) := Lib.hid hbb
  have HZZ := Lib.hid hzz
  have HZO : Hid (own2.z = h.z) := Lib.hid (by rw [how]; exact hzz)
  have HNO : Hid (∀ i, i < 14 → own2.n i ≤ 1000) := Lib.hid (by rw [how]; exact hnn)
  have HCP : Hid (Caps own2) := Lib.hid (by rw [how]; exact fun i hi => ⟨Nat.le_of_succ_le (hc' i hi).1, (hc' i hi).2⟩)
  clear hz hlt hb2 hn' hc' hnn hbb hot how hcell hze hzz own
  have HQ3 : Hid ((w2.alloc (.cells #[.slice none 0 0, .slice none 0 0, .slice none 0 0, .slice none 0 0, .slice none 0 0, .slice none 0 0, .slice none 0 0, .slice none 0 0, .slice none 0 0, .slice none 0 0, .slice none 0 0, .slice none 0 0, .slice none 0 0, .slice none 0 0, .int .i64 0] 37)).heap[w2.heap.size]? = some (.cells #[.slice none 0 0, .slice none 0 0, .slice none 0 0, .slice none 0 0, .slice none 0 0, .slice none 0 0, .slice none 0 0, .slice none 0 0, .slice none 0 0, .slice none 0 0, .slice none 0 0, .slice none 0 0, .slice none 0 0, .slice none 0 0, .int .i64 0] 37 (0, 0))) := Lib.hid (heap_alloc_new _ _)
  obtain ⟨w3, hw3⟩ : ∃ w', w' = (w2.alloc (.cells #[.slice none 0 0, .slice none 0 0, .slice none 0 0, .slice none 0 0, .slice none 0 0, .slice none 0 0, .slice none 0 0, .slice none 0 0, .slice none 0 0, .slice none 0 0, .slice none 0 0, .slice none 0 0, .slice none 0 0, .slice none 0 0, .int .i64 0] 37)).setRow w2.heap.size own2.cells := ⟨_, rfl⟩
  have hb3 : Below w2.heap.size w2 w3 := by rw [hw3]; exact setRow_below ((Below.refl _ _).alloc (Nat.le_refl _) _) (Nat.le_refl _) _
  have HH3 := Lib.hid ((hb3.block _ (lt_of_block HH2.out)).trans HH2.out)
  have B3 := Lib.hid (B2.out.trans (hb3.mono B2.out.size))
  have HT3 := Lib.hid (HT2.out.below hb3)
  have OWN3 := Lib.hid (OWN2.out.below hb3)
  have HBH3 := Lib.hid (HBH2.out.below hb3)
  have HO3 : Hid (w3.heap[w2.heap.size]? = some (.cells own2.cells 37 (0, 0))) := Lib.hid (by rw [hw3]; exact setRow_heap _ _ _ _ _ _ HQ3.out)
  have HW3 := Lib.hid hw3
  clear hb3 hw3
  go_wp2_with (first
   | (refine wpList_store_row rfl 37 (.tmp 5) (.tmp 19) rfl w2.heap.size own2.cells rfl rfl _ _ HQ3.out (HSH.out _) rfl (H1C.out _) ?_; rw [← HW3.out])
   | (refine wpList_load_row rfl 37 (.tmp 5) rfl w2.heap.size rfl _ _ _ _ HO3.out huh rfl (HSH.out _) ?_)
   | fail)
  refine (calloc own2 L s _ OWN3.out HNO.out HCP.out).mono ?_
  rintro e w4 ⟨hb4, a, rfl, hat, haz, hac, _⟩
  rw [HEA.out]
  have HH4 := Lib.hid ((hb4.block _ (lt_of_block HH3.out)).trans HH3.out)
  have HO4 := Lib.hid ((hb4.block _ (lt_of_block HO3.out)).trans HO3.out)
  have B4 := Lib.hid (B3.out.trans (hb4.mono B3.out.size))
  have HT4 := Lib.hid (HT3.out.below hb4)
  have OWN4 := Lib.hid (OWN3.out.below hb4)
  have HBH4 := Lib.hid (HBH3.out.below hb4)
  have HTa4 := Lib.hid hat
  have HZa := Lib.hid (haz.trans (congrArg _ HZO.out))
  clear hat haz hac hb4
  have HQ5 : Hid ((w4.alloc (.cells #[.slice none 0 0, .slice none 0 0, .slice none 0 0, .slice none 0 0, .slice none 0 0, .slice none 0 0, .slice none 0 0, .slice none 0 0, .slice none 0 0, .slice none 0 0, .slice none 0 0, .slice none 0 0, .slice none 0 0, .slice none 0 0, .int .i64 0] 37)).heap[w4.heap.size]? = some (.cells #[.slice none 0 0, .slice none 0 0, .slice none 0 0, .slice none 0 0, .slice none 0 0, .slice none 0 0, .slice none 0 0, .slice none 0 0, .slice none 0 0, .slice none 0 0, .slice none 0 0, .slice none 0 0, .slice none 0 0, .slice none 0 0, .int .i64 0] 37 (0, 0))) := Lib.hid (heap_alloc_new _ _)
  obtain ⟨w5, hw5⟩ : ∃ w', w' = (w4.alloc (.cells #[.slice none 0 0, .slice none 0 0, .slice none 0 0, .slice none 0 0, .slice none 0 0, .slice none 0 0, .slice none 0 0, .slice none 0 0, .slice none 0 0, .slice none 0 0, .slice none 0 0, .slice none 0 0, .slice none 0 0, .slice none 0 0, .int .i64 0] 37)).setRow w4.heap.size a.cells := ⟨_, rfl⟩
  have hb5 : Below w4.heap.size w4 w5 := by rw [hw5]; exact setRow_below ((Below.refl _ _).alloc (Nat.le_refl _) _) (Nat.le_refl _) _
  have HH5 := Lib.hid ((hb5.block _ (lt_of_block HH4.out)).trans HH4.out)
  have HO5 := Lib.hid ((hb5.block _ (lt_of_block HO4.out)).trans HO4.out)
  have B5 := Lib.hid (B4.out.trans (hb5.mono B4.out.size))
  have HT5 := Lib.hid (HT4.out.below hb5)
  have OWN5 := Lib.hid (OWN4.out.below hb5)
  have HBH5 := Lib.hid (HBH4.out.below hb5)
  have HTa5 := Lib.hid (HTa4.out.below hb5)
  have HA5 : Hid (w5.heap[w4.heap.size]? = some (.cells a.cells 37 (0, 0))) := Lib.hid (by rw [hw5]; exact setRow_heap _ _ _ _ _ _ HQ5.out)
  have HW5 := Lib.hid hw5
  clear hb5 hw5
  go_wp2_with (first
   | (refine wpList_store_row rfl 37 (.tmp 6) (.tmp 24) rfl w4.heap.size a.cells rfl rfl _ _ HQ5.out (HSH.out _) rfl (H1C.out _) ?_; rw [← HW5.out])
   | (refine wpList_load_row rfl 37 (.tmp 2) rfl w.heap.size rfl _ _ _ _ HH5.out huh rfl (HSH.out _) ?_)
   | fail)
  refine (ralloc h L s _ HT5.out HN.out HIN.out.c).mono ?_
  rintro e w6 ⟨hb6, b, rfl, hat, haz, hac, _⟩
  rw [HEA.out]
  have HH6 := Lib.hid ((hb6.block _ (lt_of_block HH5.out)).trans HH5.out)
  have HO6 := Lib.hid ((hb6.block _ (lt_of_block HO5.out)).trans HO5.out)
  have HA6 := Lib.hid ((hb6.block _ (lt_of_block HA5.out)).trans HA5.out)
  have B6 := Lib.hid (B5.out.trans (hb6.mono B5.out.size))
  have HT6 := Lib.hid (HT5.out.below hb6)
  have OWN6 := Lib.hid (OWN5.out.below hb6)
  have HBH6 := Lib.hid (HBH5.out.below hb6)
  have HTa6 := Lib.hid (HTa5.out.below hb6)
  have HTb6 := Lib.hid hat
  have HZb := Lib.hid (haz)
  clear hat haz hac hb6
  have HQ7 : Hid ((w6.alloc (.cells #[.slice none 0 0, .slice none 0 0, .slice none 0 0, .slice none 0 0, .slice none 0 0, .slice none 0 0, .slice none 0 0, .slice none 0 0, .slice none 0 0, .slice none 0 0, .slice none 0 0, .slice none 0 0, .slice none 0 0, .slice none 0 0, .int .i64 0] 37)).heap[w6.heap.size]? = some (.cells #[.slice none 0 0, .slice none 0 0, .slice none 0 0, .slice none 0 0, .slice none 0 0, .slice none 0 0, .slice none 0 0, .slice none 0 0, .slice none 0 0, .slice none 0 0, .slice none 0 0, .slice none 0 0, .slice none 0 0, .slice none 0 0, .int .i64 0] 37 (0, 0))) := Lib.hid (heap_alloc_new _ _)
  obtain ⟨w7, hw7⟩ : ∃ w', w' = (w6.alloc (.cells #[.slice none 0 0, .slice none 0 0, .slice none 0 0, .slice none 0 0, .slice none 0 0, .slice none 0 0, .slice none 0 0, .slice none 0 0, .slice none 0 0, .slice none 0 0, .slice none 0 0, .slice none 0 0, .slice none 0 0, .slice none 0 0, .int .i64 0] 37)).setRow w6.heap.size b.cells := ⟨_, rfl⟩
  have hb7 : Below w6.heap.size w6 w7 := by rw [hw7]; exact setRow_below ((Below.refl _ _).alloc (Nat.le_refl _) _) (Nat.le_refl _) _
  have HH7 := Lib.hid ((hb7.block _ (lt_of_block HH6.out)).trans HH6.out)
  have HO7 := Lib.hid ((hb7.block _ (lt_of_block HO6.out)).trans HO6.out)
  have HA7 := Lib.hid ((hb7.block _ (lt_of_block HA6.out)).trans HA6.out)
  have B7 := Lib.hid (B6.out.trans (hb7.mono B6.out.size))
  have HT7 := Lib.hid (HT6.out.below hb7)
  have OWN7 := Lib.hid (OWN6.out.below hb7)
  have HBH7 := Lib.hid (HBH6.out.below hb7)
  have HTa7 := Lib.hid (HTa6.out.below hb7)
  have HTb7 := Lib.hid (HTb6.out.below hb7)
  have HB7 : Hid (w7.heap[w6.heap.size]? = some (.cells b.cells 37 (0, 0))) := Lib.hid (by rw [hw7]; exact setRow_heap _ _ _ _ _ _ HQ7.out)
  have HW7 := Lib.hid hw7
  clear hb7 hw7
  go_wp2_with (first
   | (refine wpList_store_row rfl 37 (.tmp 8) (.tmp 30) rfl w6.heap.size b.cells rfl rfl _ _ HQ7.out (HSH.out _) rfl (H1C.out _) ?_; rw [← HW7.out])
   | (refine wpList_load_row rfl 37 (.tmp 5) rfl w2.heap.size rfl _ _ _ _ HO7.out huh rfl (HSH.out _) ?_)
   | fail)
  refine (cdrop own2 L s _ OWN7.out (HNO.out 4 (by decide)) (HNO.out 8 (by decide)) HCP.out).mono ?_
  rintro e w8 ⟨hb8, c, rfl, hat, haz, hac, _⟩
  rw [HED.out]
  have HH8 := Lib.hid ((hb8.block _ (lt_of_block HH7.out)).trans HH7.out)
  have HO8 := Lib.hid ((hb8.block _ (lt_of_block HO7.out)).trans HO7.out)
  have HA8 := Lib.hid ((hb8.block _ (lt_of_block HA7.out)).trans HA7.out)
  have HB8 := Lib.hid ((hb8.block _ (lt_of_block HB7.out)).trans HB7.out)
  have B8 := Lib.hid (B7.out.trans (hb8.mono B7.out.size))
  have HT8 := Lib.hid (HT7.out.below hb8)
  have OWN8 := Lib.hid (OWN7.out.below hb8)
  have HBH8 := Lib.hid (HBH7.out.below hb8)
  have HTa8 := Lib.hid (HTa7.out.below hb8)
  have HTb8 := Lib.hid (HTb7.out.below hb8)
  have HTc8 := Lib.hid hat
  have HZc := Lib.hid (haz.trans (congrArg _ HZO.out))
  clear hat haz hac hb8
  have HQ9 : Hid ((w8.alloc (.cells #[.slice none 0 0, .slice none 0 0, .slice none 0 0, .slice none 0 0, .slice none 0 0, .slice none 0 0, .slice none 0 0, .slice none 0 0, .slice none 0 0, .slice none 0 0, .slice none 0 0, .slice none 0 0, .slice none 0 0, .slice none 0 0, .int .i64 0] 37)).heap[w8.heap.size]? = some (.cells #[.slice none 0 0, .slice none 0 0, .slice none 0 0, .slice none 0 0, .slice none 0 0, .slice none 0 0, .slice none 0 0, .slice none 0 0, .slice none 0 0, .slice none 0 0, .slice none 0 0, .slice none 0 0, .slice none 0 0, .slice none 0 0, .int .i64 0] 37 (0, 0))) := Lib.hid (heap_alloc_new _ _)
  obtain ⟨w9, hw9⟩ : ∃ w', w' = (w8.alloc (.cells #[.slice none 0 0, .slice none 0 0, .slice none 0 0, .slice none 0 0, .slice none 0 0, .slice none 0 0, .slice none 0 0, .slice none 0 0, .slice none 0 0, .slice none 0 0, .slice none 0 0, .slice none 0 0, .slice none 0 0, .slice none 0 0, .int .i64 0] 37)).setRow w8.heap.size c.cells := ⟨_, rfl⟩
  have hb9 : Below w8.heap.size w8 w9 := by rw [hw9]; exact setRow_below ((Below.refl _ _).alloc (Nat.le_refl _) _) (Nat.le_refl _) _
  have HH9 := Lib.hid ((hb9.block _ (lt_of_block HH8.out)).trans HH8.out)
  have HO9 := Lib.hid ((hb9.block _ (lt_of_block HO8.out)).trans HO8.out)
  have HA9 := Lib.hid ((hb9.block _ (lt_of_block HA8.out)).trans HA8.out)
  have HB9 := Lib.hid ((hb9.block _ (lt_of_block HB8.out)).trans HB8.out)
  have B9 := Lib.hid (B8.out.trans (hb9.mono B8.out.size))
  have HT9 := Lib.hid (HT8.out.below hb9)
  have OWN9 := Lib.hid (OWN8.out.below hb9)
  have HBH9 := Lib.hid (HBH8.out.below hb9)
  have HTa9 := Lib.hid (HTa8.out.below hb9)
  have HTb9 := Lib.hid (HTb8.out.below hb9)
  have HTc9 := Lib.hid (HTc8.out.below hb9)
  have HCC_9 : Hid (w9.heap[w8.heap.size]? = some (.cells c.cells 37 (0, 0))) := Lib.hid (by rw [hw9]; exact setRow_heap _ _ _ _ _ _ HQ9.out)
  have HW9 := Lib.hid hw9
  clear hb9 hw9
  go_wp2_with (first
   | (refine wpList_store_row rfl 37 (.tmp 10) (.tmp 36) rfl w8.heap.size c.cells rfl rfl _ _ HQ9.out (HSH.out _) rfl (H1C.out _) ?_; rw [← HW9.out])
   | (refine wpList_load_row rfl 37 (.tmp 2) rfl w.heap.size rfl _ _ _ _ HH9.out huh rfl (HSH.out _) ?_)
   | fail)
  refine (rdrop h L s _ HT9.out HN.out HIN.out.c).mono ?_
  rintro e w10 ⟨hb10, d, rfl, hat, haz, hac, _⟩
  rw [HED.out]
  have HH10 := Lib.hid ((hb10.block _ (lt_of_block HH9.out)).trans HH9.out)
  have HO10 := Lib.hid ((hb10.block _ (lt_of_block HO9.out)).trans HO9.out)
  have HA10 := Lib.hid ((hb10.block _ (lt_of_block HA9.out)).trans HA9.out)
  have HB10 := Lib.hid ((hb10.block _ (lt_of_block HB9.out)).trans HB9.out)
  have HCC_10 := Lib.hid ((hb10.block _ (lt_of_block HCC_9.out)).trans HCC_9.out)
  have B10 := Lib.hid (B9.out.trans (hb10.mono B9.out.size))
  have HT10 := Lib.hid (HT9.out.below hb10)
  have OWN10 := Lib.hid (OWN9.out.below hb10)
  have HBH10 := Lib.hid (HBH9.out.below hb10)
  have HTa10 := Lib.hid (HTa9.out.below hb10)
  have HTb10 := Lib.hid (HTb9.out.below hb10)
  have HTc10 := Lib.hid (HTc9.out.below hb10)
  have HTd10 := Lib.hid hat
  have HZd := Lib.hid (haz)
  clear hat haz hac hb10
  have HQ11 : Hid ((w10.alloc (.cells #[.slice none 0 0, .slice none 0 0, .slice none 0 0, .slice none 0 0, .slice none 0 0, .slice none 0 0, .slice none 0 0, .slice none 0 0, .slice none 0 0, .slice none 0 0, .slice none 0 0, .slice none 0 0, .slice none 0 0, .slice none 0 0, .int .i64 0] 37)).heap[w10.heap.size]? = some (.cells #[.slice none 0 0, .slice none 0 0, .slice none 0 0, .slice none 0 0, .slice none 0 0, .slice none 0 0, .slice none 0 0, .slice none 0 0, .slice none 0 0, .slice none 0 0, .slice none 0 0, .slice none 0 0, .slice none 0 0, .slice none 0 0, .int .i64 0] 37 (0, 0))) := Lib.hid (heap_alloc_new _ _)
  obtain ⟨w11, hw11⟩ : ∃ w', w' = (w10.alloc (.cells #[.slice none 0 0, .slice none 0 0, .slice none 0 0, .slice none 0 0, .slice none 0 0, .slice none 0 0, .slice none 0 0, .slice none 0 0, .slice none 0 0, .slice none 0 0, .slice none 0 0, .slice none 0 0, .slice none 0 0, .slice none 0 0, .int .i64 0] 37)).setRow w10.heap.size d.cells := ⟨_, rfl⟩
  have hb11 : Below w10.heap.size w10 w11 := by rw [hw11]; exact setRow_below ((Below.refl _ _).alloc (Nat.le_refl _) _) (Nat.le_refl _) _
  have HH11 := Lib.hid ((hb11.block _ (lt_of_block HH10.out)).trans HH10.out)
  have HO11 := Lib.hid ((hb11.block _ (lt_of_block HO10.out)).trans HO10.out)
  have HA11 := Lib.hid ((hb11.block _ (lt_of_block HA10.out)).trans HA10.out)
  have HB11 := Lib.hid ((hb11.block _ (lt_of_block HB10.out)).trans HB10.out)
  have HCC_11 := Lib.hid ((hb11.block _ (lt_of_block HCC_10.out)).trans HCC_10.out)
  have B11 := Lib.hid (B10.out.trans (hb11.mono B10.out.size))
  have HT11 := Lib.hid (HT10.out.below hb11)
  have OWN11 := Lib.hid (OWN10.out.below hb11)
  have HBH11 := Lib.hid (HBH10.out.below hb11)
  have HTa11 := Lib.hid (HTa10.out.below hb11)
  have HTb11 := Lib.hid (HTb10.out.below hb11)
  have HTc11 := Lib.hid (HTc10.out.below hb11)
  have HTd11 := Lib.hid (HTd10.out.below hb11)
  have HD11 : Hid (w11.heap[w10.heap.size]? = some (.cells d.cells 37 (0, 0))) := Lib.hid (by rw [hw11]; exact setRow_heap _ _ _ _ _ _ HQ11.out)
  have HW11 := Lib.hid hw11
  clear hb11 hw11
  go_wp2_with (first
   | (refine wpList_store_row rfl 37 (.tmp 12) (.tmp 42) rfl w10.heap.size d.cells rfl rfl _ _ HQ11.out (HSH.out _) rfl (H1C.out _) ?_; rw [← HW11.out])
   | (refine BigFrame.wpList_want (by kernel_rfl) (fun K hK => Go.wp_load_mid 37 (.tmp 6) rfl w4.heap.size 0 rfl a.cells.toList _ (range_row0 HA11.out) huh rfl (HSHL.out _) (hK _ _ ?_)); clear hK K)
   | (refine BigFrame.wpList_want (by kernel_rfl) (fun K hK => Go.wp_load_mid 37 (.tmp 8) rfl w6.heap.size 0 rfl b.cells.toList _ (range_row0 HB11.out) huh rfl (HSHL.out _) (hK _ _ ?_)); clear hK K)
   | fail)
  refine (same_true HTa11.out HTb11.out (HZa.out.trans HZb.out.symm)).mono ?_
  rintro e w12 ⟨rfl, hb12⟩
  have HH12 := Lib.hid ((hb12.block _ (lt_of_block HH11.out)).trans HH11.out)
  have HO12 := Lib.hid ((hb12.block _ (lt_of_block HO11.out)).trans HO11.out)
  have HA12 := Lib.hid ((hb12.block _ (lt_of_block HA11.out)).trans HA11.out)
  have HB12 := Lib.hid ((hb12.block _ (lt_of_block HB11.out)).trans HB11.out)
  have HCC_12 := Lib.hid ((hb12.block _ (lt_of_block HCC_11.out)).trans HCC_11.out)
  have HD12 := Lib.hid ((hb12.block _ (lt_of_block HD11.out)).trans HD11.out)
  have B12 := Lib.hid (B11.out.trans (hb12.mono B11.out.size))
  have HT12 := Lib.hid (HT11.out.below hb12)
  have OWN12 := Lib.hid (OWN11.out.below hb12)
  have HBH12 := Lib.hid (HBH11.out.below hb12)
  have HTa12 := Lib.hid (HTa11.out.below hb12)
  have HTb12 := Lib.hid (HTb11.out.below hb12)
  have HTc12 := Lib.hid (HTc11.out.below hb12)
  have HTd12 := Lib.hid (HTd11.out.below hb12)
  clear hb12
  go_wp2_with (first
   | (refine BigFrame.wpList_want (by kernel_rfl) (fun K hK => Go.wp_load_mid 37 (.tmp 10) rfl w8.heap.size 0 rfl c.cells.toList _ (range_row0 HCC_12.out) huh rfl (HSHL.out _) (hK _ _ ?_)); clear hK K)
   | (refine BigFrame.wpList_want (by kernel_rfl) (fun K hK => Go.wp_load_mid 37 (.tmp 12) rfl w10.heap.size 0 rfl d.cells.toList _ (range_row0 HD12.out) huh rfl (HSHL.out _) (hK _ _ ?_)); clear hK K)
   | fail)
  refine (same_true HTc12.out HTd12.out (HZc.out.trans HZd.out.symm)).mono ?_
  rintro e w13 ⟨rfl, hb13⟩
  have HH13 := Lib.hid ((hb13.block _ (lt_of_block HH12.out)).trans HH12.out)
  have HO13 := Lib.hid ((hb13.block _ (lt_of_block HO12.out)).trans HO12.out)
  have HA13 := Lib.hid ((hb13.block _ (lt_of_block HA12.out)).trans HA12.out)
  have HB13 := Lib.hid ((hb13.block _ (lt_of_block HB12.out)).trans HB12.out)
  have HCC_13 := Lib.hid ((hb13.block _ (lt_of_block HCC_12.out)).trans HCC_12.out)
  have HD13 := Lib.hid ((hb13.block _ (lt_of_block HD12.out)).trans HD12.out)
  have B13 := Lib.hid (B12.out.trans (hb13.mono B12.out.size))
  have HT13 := Lib.hid (HT12.out.below hb13)
  have OWN13 := Lib.hid (OWN12.out.below hb13)
  have HBH13 := Lib.hid (HBH12.out.below hb13)
  have HTa13 := Lib.hid (HTa12.out.below hb13)
  have HTb13 := Lib.hid (HTb12.out.below hb13)
  have HTc13 := Lib.hid (HTc12.out.below hb13)
  have HTd13 := Lib.hid (HTd12.out.below hb13)
  clear hb13
  go_wp2_with (first
   | (refine BigFrame.wpList_want (by kernel_rfl) (fun K hK => Go.wp_load_mid 37 (.tmp 5) rfl w2.heap.size 0 rfl own2.cells.toList _ (range_row0 HO13.out) huh rfl (HSHL.out _) (hK _ _ ?_)); clear hK K)
   | (refine BigFrame.wpList_want (by kernel_rfl) (fun K hK => Go.wp_load_mid 37 (.tmp 2) rfl w.heap.size 0 rfl h.cells.toList _ (range_row0 HH13.out) huh rfl (HSHL.out _) (hK _ _ ?_)); clear hK K)
   | fail)
  refine (kept_true HOW.out HNN.out HCC.out HN6.out HBH13.out OWN13.out HT13.out (by rw [HOW.out]; exact HZZ.out)).mono ?_
  rintro e w14 ⟨rfl, hb14⟩
  have HH14 := Lib.hid ((hb14.block _ (lt_of_block HH13.out)).trans HH13.out)
  have HO14 := Lib.hid ((hb14.block _ (lt_of_block HO13.out)).trans HO13.out)
  have HA14 := Lib.hid ((hb14.block _ (lt_of_block HA13.out)).trans HA13.out)
  have HB14 := Lib.hid ((hb14.block _ (lt_of_block HB13.out)).trans HB13.out)
  have HCC_14 := Lib.hid ((hb14.block _ (lt_of_block HCC_13.out)).trans HCC_13.out)
  have HD14 := Lib.hid ((hb14.block _ (lt_of_block HD13.out)).trans HD13.out)
  have B14 := Lib.hid (B13.out.trans (hb14.mono B13.out.size))
  have HT14 := Lib.hid (HT13.out.below hb14)
  have OWN14 := Lib.hid (OWN13.out.below hb14)
  have HBH14 := Lib.hid (HBH13.out.below hb14)
  have HTa14 := Lib.hid (HTa13.out.below hb14)
  have HTb14 := Lib.hid (HTb13.out.below hb14)
  have HTc14 := Lib.hid (HTc13.out.below hb14)
  have HTd14 := Lib.hid (HTd13.out.below hb14)
  clear hb14
  go_wp2_with fail
  refine (HAW.out _).mono ?_
  rintro e w15 ⟨rfl, hb15⟩
  have HH15 := Lib.hid ((hb15.block _ (lt_of_block HH14.out)).trans HH14.out)
  have HO15 := Lib.hid ((hb15.block _ (lt_of_block HO14.out)).trans HO14.out)
  have HA15 := Lib.hid ((hb15.block _ (lt_of_block HA14.out)).trans HA14.out)
  have HB15 := Lib.hid ((hb15.block _ (lt_of_block HB14.out)).trans HB14.out)
  have HCC_15 := Lib.hid ((hb15.block _ (lt_of_block HCC_14.out)).trans HCC_14.out)
  have HD15 := Lib.hid ((hb15.block _ (lt_of_block HD14.out)).trans HD14.out)
  have B15 := Lib.hid (B14.out.trans (hb15.mono B14.out.size))
  have HT15 := Lib.hid (HT14.out.below hb15)
  have OWN15 := Lib.hid (OWN14.out.below hb15)
  have HBH15 := Lib.hid (HBH14.out.below hb15)
  have HTa15 := Lib.hid (HTa14.out.below hb15)
  have HTb15 := Lib.hid (HTb14.out.below hb15)
  have HTc15 := Lib.hid (HTc14.out.below hb15)
  have HTd15 := Lib.hid (HTd14.out.below hb15)
  clear hb15
  go_wp2_with fail
  go_ret
  exact ⟨rfl, B15.out⟩
theorem walk (C : ConsA) (h : Hs) (L : HL) (s : ByteArray) (w : World) (hin : HIn h L w) (hs : s.size ≤ 140737488351232) :
 Calls Tryz.prog 4 #[.agg h.cells, .string s] w fun e w' => e = .returned (.bool true) ∧ Below w.heap.size w w' := walk0 h L s w hin
end Go.Proofs.YtlkmccmbpnbgbaaGreat.allocHolds
