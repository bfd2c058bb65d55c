/-
 THE LAW AllocClaims, over the contracts. (By wip/tools/gen_laws16.py.)
-/
import Derived.Test.YtlkmccmbpnbgbaaGreatARow
import Derived.Test.YtlkmccmbpnbgbaaGreatRClaim
import Derived.Test.YtlkmccmbpnbgbaaGreatHSmall
import Derived.Test.YtlkmccmbpnbgbaaGreatHKept
import Derived.Test.YtlkmccmbpnbgbaaGreatHA
import Derived.Deep.RegionHeld3
namespace Go.Proofs.YtlkmccmbpnbgbaaGreat.allocClaims
set_option linter.unusedVariables false
open Go.RowKit
open Pl (firstG findG putG It)

set_option maxRecDepth 100000 in
set_option maxHeartbeats 6400000 in
theorem walk0 (h : Hs) (L : HL) (co : ByteArray) (cn : Int) (cb ci cl : ByteArray) (cs cq ct : Int) (w : World) (hin : HIn h L w) :
 Calls Tryz.prog 6 #[.agg h.cells, .agg #[.string co, .int .i64 cn, .string cb, .string ci, .string cl, .int .i64 cs, .int .i64 cq, .int .i64 ct]] w fun e w' => e = .returned (.bool true) ∧ Below w.heap.size w w' := by
 have HIN := Lib.hid hin
 have HAW : Hid (∀ W, Calls Tryz.prog 9 #[] W fun e w' => e = .returned (.bool true) ∧ Below W.heap.size W w') := Lib.hid (fun W => awake_any W)
 obtain ⟨ec, hec⟩ : ∃ r : Int, ((claimE (L 8) (Cl.mk co cn cb ci cl cs cq ct) : Nat) : Int) = r := ⟨_, rfl⟩
 have HEC := Lib.hid hec
 obtain ⟨W0, hW0⟩ : ∃ W0, W0 = ((w.alloc (.cells h.cells 37)).alloc (.cells #[.string co, .int .i64 cn, .string cb, .string ci, .string cl, .int .i64 cs, .int .i64 cq, .int .i64 ct] 46)) := ⟨_, rfl⟩
 have B0 : Hid (Below w.heap.size w W0) := Lib.hid (by rw [hW0]; exact ((Below.refl _ _).alloc (Nat.le_refl _) _).alloc (by simp <;> omega) _)
 have HH0 : Hid (W0.heap[w.heap.size]? = some (.cells h.cells 37 (0, 0))) := Lib.hid (by
  rw [hW0]
  have hq := heap_alloc_new w (.cells h.cells 37)
  exact (Below.heap_alloc _ _ _ (by simp <;> omega)).trans (by simpa using hq))
 have HC0 : Hid (W0.heap[w.heap.size + 1]? = some (.cells #[.string co, .int .i64 cn, .string cb, .string ci, .string cl, .int .i64 cs, .int .i64 cq, .int .i64 ct] 46 (0, 0))) := Lib.hid (by
  rw [hW0]
  have hq := heap_alloc_new (w.alloc (.cells h.cells 37)) (.cells #[.string co, .int .i64 cn, .string cb, .string ci, .string cl, .int .i64 cs, .int .i64 cq, .int .i64 ct] 46)
  exact by simpa using hq)
 have huh := Tryz.underlying37
 have HSH : Hid (∀ a : Hs, (Tryz.prog.info? 37).map (·.size) = some a.cells.size) := Lib.hid (fun a => by kernel_rfl)
 have HSHL : Hid (∀ a : Hs, (Tryz.prog.info? 37).map (·.size) = some a.cells.toList.length) := Lib.hid (fun a => by kernel_rfl)
 have H1C : Hid (∀ a : Hs, a.cells.all (·.oneCell') = true) := Lib.hid (fun a => by simp [Hs.cells, Value.oneCell'])
 have huClaim := Tryz.underlying46
 have HSClaim : Hid ((Tryz.prog.info? 46).map (·.size) = some 8) := Lib.hid (by kernel_rfl)
 clear hin hec
 subst hW0
 go_enter Tryz.func6, Tryz.ntmps6
 go_wp2_with (first
  | (refine wpList_load_row rfl 37 (.tmp 2) rfl w.heap.size rfl _ _ _ _ HH0.out huh rfl (HSH.out _) ?_)
  | fail)
 refine (small_calls h _).mono ?_
 rintro e w1 ⟨⟨b, rfl, hb⟩, hb1⟩
 have HH1 := Lib.hid ((hb1.block _ (lt_of_block HH0.out)).trans HH0.out)
 have HC1 := Lib.hid ((hb1.block _ (lt_of_block HC0.out)).trans HC0.out)
 have B1 := Lib.hid (B0.out.trans (hb1.mono B0.out.size))
 clear hb1
 cases b with
 | false =>
  clear hb
  go_wp2_with fail
  refine (HAW.out _).mono ?_
  rintro e w2 ⟨rfl, hb2⟩
  have HB2 := Lib.hid (B1.out.trans (hb2.mono B1.out.size))
  clear hb2
  go_wp2_with fail
  go_ret
  exact ⟨rfl, HB2.out⟩
 | true =>
  have HSM := Lib.hid (hb.1 rfl)
  clear hb
  have HT1 : Hid (HT h L w1) := Lib.hid (HIN.out.ht HSM.out B1.out)
  have HN : Hid (∀ i, i < 14 → h.n i ≤ 1000) := Lib.hid (fun i hi => Nat.le_trans (HSM.out i hi) (cap_le i hi))
  go_wp2_with (first
   | (refine wpList_load_row rfl 37 (.tmp 2) rfl w.heap.size rfl _ _ _ _ HH1.out huh rfl (HSH.out _) ?_)
   | fail)
  refine (lents_calls h L _ HT1.out HN.out).mono ?_
  rintro e w2 ⟨own, rfl, hz, hlt, hb2⟩
  obtain ⟨gg, n, c, z, hcell, hze, hn', hc', hnn, hbb, hot⟩ := lent_own hlt HT1.out (fun i hi => HSM.out i hi)
  have HH2 := Lib.hid ((hb2.block _ (lt_of_block HH1.out)).trans HH1.out)
  have HC2 := Lib.hid ((hb2.block _ (lt_of_block HC1.out)).trans HC1.out)
  have B2 := Lib.hid (B1.out.trans (hb2.mono B1.out.size))
  have HT2 := Lib.hid (HT1.out.below hb2)
  have hzz : z = h.z := hze.trans hz
  obtain ⟨own2, how⟩ : ∃ o, o = Hs.mk (fun i => some ⟨gg i, 0, none⟩) n c z := ⟨_, rfl⟩
  rw [show own.val = .agg own2.cells from by rw [Hs.val_cells, hcell, how]]
  rw [← how] at hot
  have HOW := Lib.hid how
  have OWN2 := Lib.hid hot
  have HNN := Lib.hid hn'
  have HCC := Lib.hid hc'
  have HN6 := Lib.hid hnn
  have HBH2 : Hid (KB gg n w2) := Lib.hid hbb
  have HZZ := Lib.hid hzz
  have HZO : Hid (own2.z = h.z) := Lib.hid (by rw [how]; exact hzz)
  have HNO : Hid (∀ i, i < 14 → own2.n i ≤ 1000) := Lib.hid (by rw [how]; exact hnn)
  have HCP : Hid (Caps own2) := Lib.hid (by rw [how]; exact fun i hi => ⟨Nat.le_of_succ_le (hc' i hi).1, (hc' i hi).2⟩)
  clear hz hlt hb2 hn' hc' hnn hbb hot how hcell hze hzz own
  have HQ3 : Hid ((w2.alloc (.cells #[.slice none 0 0, .slice none 0 0, .slice none 0 0, .slice none 0 0, .slice none 0 0, .slice none 0 0, .slice none 0 0, .slice none 0 0, .slice none 0 0, .slice none 0 0, .slice none 0 0, .slice none 0 0, .slice none 0 0, .slice none 0 0, .int .i64 0] 37)).heap[w2.heap.size]? = some (.cells #[.slice none 0 0, .slice none 0 0, .slice none 0 0, .slice none 0 0, .slice none 0 0, .slice none 0 0, .slice none 0 0, .slice none 0 0, .slice none 0 0, .slice none 0 0, .slice none 0 0, .slice none 0 0, .slice none 0 0, .slice none 0 0, .int .i64 0] 37 (0, 0))) := Lib.hid (heap_alloc_new _ _)
  obtain ⟨w3, hw3⟩ : ∃ w', w' = (w2.alloc (.cells #[.slice none 0 0, .slice none 0 0, .slice none 0 0, .slice none 0 0, .slice none 0 0, .slice none 0 0, .slice none 0 0, .slice none 0 0, .slice none 0 0, .slice none 0 0, .slice none 0 0, .slice none 0 0, .slice none 0 0, .slice none 0 0, .int .i64 0] 37)).setRow w2.heap.size own2.cells := ⟨_, rfl⟩
  have hb3 : Below w2.heap.size w2 w3 := by rw [hw3]; exact setRow_below ((Below.refl _ _).alloc (Nat.le_refl _) _) (Nat.le_refl _) _
  have HH3 := Lib.hid ((hb3.block _ (lt_of_block HH2.out)).trans HH2.out)
  have HC3 := Lib.hid ((hb3.block _ (lt_of_block HC2.out)).trans HC2.out)
  have B3 := Lib.hid (B2.out.trans (hb3.mono B2.out.size))
  have HT3 := Lib.hid (HT2.out.below hb3)
  have OWN3 := Lib.hid (OWN2.out.below hb3)
  have HBH3 := Lib.hid (HBH2.out.below hb3)
  have HO3 : Hid (w3.heap[w2.heap.size]? = some (.cells own2.cells 37 (0, 0))) := Lib.hid (by rw [hw3]; exact setRow_heap _ _ _ _ _ _ HQ3.out)
  have HW3 := Lib.hid hw3
  clear hb3 hw3
  go_wp2_with (first
   | (refine wpList_store_row rfl 37 (.tmp 5) (.tmp 15) rfl w2.heap.size own2.cells rfl rfl _ _ HQ3.out (HSH.out _) rfl (H1C.out _) ?_; rw [← HW3.out])
   | (refine wpList_load_row rfl 37 (.tmp 5) rfl w2.heap.size rfl _ _ _ _ HO3.out huh rfl (HSH.out _) ?_)
   | (refine wpList_load_row rfl 46 (.tmp 3) rfl (w.heap.size + 1) rfl _ _ _ _ HC3.out huClaim rfl HSClaim.out ?_)
   | fail)
  refine (hclaim own2 L co cn cb ci cl cs cq ct _ OWN3.out (HNO.out 8 (by decide)) HCP.out).mono ?_
  rintro e w4 ⟨hb4, a, rfl, hat, haz, hac, _⟩
  rw [HEC.out]
  have HH4 := Lib.hid ((hb4.block _ (lt_of_block HH3.out)).trans HH3.out)
  have HC4 := Lib.hid ((hb4.block _ (lt_of_block HC3.out)).trans HC3.out)
  have HO4 := Lib.hid ((hb4.block _ (lt_of_block HO3.out)).trans HO3.out)
  have B4 := Lib.hid (B3.out.trans (hb4.mono B3.out.size))
  have HT4 := Lib.hid (HT3.out.below hb4)
  have OWN4 := Lib.hid (OWN3.out.below hb4)
  have HBH4 := Lib.hid (HBH3.out.below hb4)
  have HTa4 := Lib.hid hat
  have HZa := Lib.hid (haz.trans (congrArg _ HZO.out))
  clear hat haz hac hb4
  have HQ5 : Hid ((w4.alloc (.cells #[.slice none 0 0, .slice none 0 0, .slice none 0 0, .slice none 0 0, .slice none 0 0, .slice none 0 0, .slice none 0 0, .slice none 0 0, .slice none 0 0, .slice none 0 0, .slice none 0 0, .slice none 0 0, .slice none 0 0, .slice none 0 0, .int .i64 0] 37)).heap[w4.heap.size]? = some (.cells #[.slice none 0 0, .slice none 0 0, .slice none 0 0, .slice none 0 0, .slice none 0 0, .slice none 0 0, .slice none 0 0, .slice none 0 0, .slice none 0 0, .slice none 0 0, .slice none 0 0, .slice none 0 0, .slice none 0 0, .slice none 0 0, .int .i64 0] 37 (0, 0))) := Lib.hid (heap_alloc_new _ _)
  obtain ⟨w5, hw5⟩ : ∃ w', w' = (w4.alloc (.cells #[.slice none 0 0, .slice none 0 0, .slice none 0 0, .slice none 0 0, .slice none 0 0, .slice none 0 0, .slice none 0 0, .slice none 0 0, .slice none 0 0, .slice none 0 0, .slice none 0 0, .slice none 0 0, .slice none 0 0, .slice none 0 0, .int .i64 0] 37)).setRow w4.heap.size a.cells := ⟨_, rfl⟩
  have hb5 : Below w4.heap.size w4 w5 := by rw [hw5]; exact setRow_below ((Below.refl _ _).alloc (Nat.le_refl _) _) (Nat.le_refl _) _
  have HH5 := Lib.hid ((hb5.block _ (lt_of_block HH4.out)).trans HH4.out)
  have HC5 := Lib.hid ((hb5.block _ (lt_of_block HC4.out)).trans HC4.out)
  have HO5 := Lib.hid ((hb5.block _ (lt_of_block HO4.out)).trans HO4.out)
  have B5 := Lib.hid (B4.out.trans (hb5.mono B4.out.size))
  have HT5 := Lib.hid (HT4.out.below hb5)
  have OWN5 := Lib.hid (OWN4.out.below hb5)
  have HBH5 := Lib.hid (HBH4.out.below hb5)
  have HTa5 := Lib.hid (HTa4.out.below hb5)
  have HA5 : Hid (w5.heap[w4.heap.size]? = some (.cells a.cells 37 (0, 0))) := Lib.hid (by rw [hw5]; exact setRow_heap _ _ _ _ _ _ HQ5.out)
  have HW5 := Lib.hid hw5
  clear hb5 hw5
  go_wp2_with (first
   | (refine wpList_store_row rfl 37 (.tmp 6) (.tmp 20) rfl w4.heap.size a.cells rfl rfl _ _ HQ5.out (HSH.out _) rfl (H1C.out _) ?_; rw [← HW5.out])
   | (refine wpList_load_row rfl 37 (.tmp 2) rfl w.heap.size rfl _ _ _ _ HH5.out huh rfl (HSH.out _) ?_)
   | (refine wpList_load_row rfl 46 (.tmp 3) rfl (w.heap.size + 1) rfl _ _ _ _ HC5.out huClaim rfl HSClaim.out ?_)
   | fail)
  refine (rclaim h L co cn cb ci cl cs cq ct _ HT5.out (Nat.le_trans (HN.out 8 (by decide)) (by decide))).mono ?_
  rintro e w6 ⟨hb6, b, rfl, hat, haz, hac, _⟩
  rw [HEC.out]
  have HH6 := Lib.hid ((hb6.block _ (lt_of_block HH5.out)).trans HH5.out)
  have HC6 := Lib.hid ((hb6.block _ (lt_of_block HC5.out)).trans HC5.out)
  have HO6 := Lib.hid ((hb6.block _ (lt_of_block HO5.out)).trans HO5.out)
  have HA6 := Lib.hid ((hb6.block _ (lt_of_block HA5.out)).trans HA5.out)
  have B6 := Lib.hid (B5.out.trans (hb6.mono B5.out.size))
  have HT6 := Lib.hid (HT5.out.below hb6)
  have OWN6 := Lib.hid (OWN5.out.below hb6)
  have HBH6 := Lib.hid (HBH5.out.below hb6)
  have HTa6 := Lib.hid (HTa5.out.below hb6)
  have HTb6 := Lib.hid hat
  have HZb := Lib.hid (haz)
  clear hat haz hac hb6
  have HQ7 : Hid ((w6.alloc (.cells #[.slice none 0 0, .slice none 0 0, .slice none 0 0, .slice none 0 0, .slice none 0 0, .slice none 0 0, .slice none 0 0, .slice none 0 0, .slice none 0 0, .slice none 0 0, .slice none 0 0, .slice none 0 0, .slice none 0 0, .slice none 0 0, .int .i64 0] 37)).heap[w6.heap.size]? = some (.cells #[.slice none 0 0, .slice none 0 0, .slice none 0 0, .slice none 0 0, .slice none 0 0, .slice none 0 0, .slice none 0 0, .slice none 0 0, .slice none 0 0, .slice none 0 0, .slice none 0 0, .slice none 0 0, .slice none 0 0, .slice none 0 0, .int .i64 0] 37 (0, 0))) := Lib.hid (heap_alloc_new _ _)
  obtain ⟨w7, hw7⟩ : ∃ w', w' = (w6.alloc (.cells #[.slice none 0 0, .slice none 0 0, .slice none 0 0, .slice none 0 0, .slice none 0 0, .slice none 0 0, .slice none 0 0, .slice none 0 0, .slice none 0 0, .slice none 0 0, .slice none 0 0, .slice none 0 0, .slice none 0 0, .slice none 0 0, .int .i64 0] 37)).setRow w6.heap.size b.cells := ⟨_, rfl⟩
  have hb7 : Below w6.heap.size w6 w7 := by rw [hw7]; exact setRow_below ((Below.refl _ _).alloc (Nat.le_refl _) _) (Nat.le_refl _) _
  have HH7 := Lib.hid ((hb7.block _ (lt_of_block HH6.out)).trans HH6.out)
  have HC7 := Lib.hid ((hb7.block _ (lt_of_block HC6.out)).trans HC6.out)
  have HO7 := Lib.hid ((hb7.block _ (lt_of_block HO6.out)).trans HO6.out)
  have HA7 := Lib.hid ((hb7.block _ (lt_of_block HA6.out)).trans HA6.out)
  have B7 := Lib.hid (B6.out.trans (hb7.mono B6.out.size))
  have HT7 := Lib.hid (HT6.out.below hb7)
  have OWN7 := Lib.hid (OWN6.out.below hb7)
  have HBH7 := Lib.hid (HBH6.out.below hb7)
  have HTa7 := Lib.hid (HTa6.out.below hb7)
  have HTb7 := Lib.hid (HTb6.out.below hb7)
  have HB7 : Hid (w7.heap[w6.heap.size]? = some (.cells b.cells 37 (0, 0))) := Lib.hid (by rw [hw7]; exact setRow_heap _ _ _ _ _ _ HQ7.out)
  have HW7 := Lib.hid hw7
  clear hb7 hw7
  go_wp2_with (first
   | (refine wpList_store_row rfl 37 (.tmp 8) (.tmp 26) rfl w6.heap.size b.cells rfl rfl _ _ HQ7.out (HSH.out _) rfl (H1C.out _) ?_; rw [← HW7.out])
   | (refine BigFrame.wpList_want (by kernel_rfl) (fun K hK => Go.wp_load_mid 37 (.tmp 6) rfl w4.heap.size 0 rfl a.cells.toList _ (range_row0 HA7.out) huh rfl (HSHL.out _) (hK _ _ ?_)); clear hK K)
   | (refine BigFrame.wpList_want (by kernel_rfl) (fun K hK => Go.wp_load_mid 37 (.tmp 8) rfl w6.heap.size 0 rfl b.cells.toList _ (range_row0 HB7.out) huh rfl (HSHL.out _) (hK _ _ ?_)); clear hK K)
   | fail)
  refine (same_true HTa7.out HTb7.out (HZa.out.trans HZb.out.symm)).mono ?_
  rintro e w8 ⟨rfl, hb8⟩
  have HH8 := Lib.hid ((hb8.block _ (lt_of_block HH7.out)).trans HH7.out)
  have HC8 := Lib.hid ((hb8.block _ (lt_of_block HC7.out)).trans HC7.out)
  have HO8 := Lib.hid ((hb8.block _ (lt_of_block HO7.out)).trans HO7.out)
  have HA8 := Lib.hid ((hb8.block _ (lt_of_block HA7.out)).trans HA7.out)
  have HB8 := Lib.hid ((hb8.block _ (lt_of_block HB7.out)).trans HB7.out)
  have B8 := Lib.hid (B7.out.trans (hb8.mono B7.out.size))
  have HT8 := Lib.hid (HT7.out.below hb8)
  have OWN8 := Lib.hid (OWN7.out.below hb8)
  have HBH8 := Lib.hid (HBH7.out.below hb8)
  have HTa8 := Lib.hid (HTa7.out.below hb8)
  have HTb8 := Lib.hid (HTb7.out.below hb8)
  clear hb8
  go_wp2_with (first
   | (refine BigFrame.wpList_want (by kernel_rfl) (fun K hK => Go.wp_load_mid 37 (.tmp 5) rfl w2.heap.size 0 rfl own2.cells.toList _ (range_row0 HO8.out) huh rfl (HSHL.out _) (hK _ _ ?_)); clear hK K)
   | (refine BigFrame.wpList_want (by kernel_rfl) (fun K hK => Go.wp_load_mid 37 (.tmp 2) rfl w.heap.size 0 rfl h.cells.toList _ (range_row0 HH8.out) huh rfl (HSHL.out _) (hK _ _ ?_)); clear hK K)
   | fail)
  refine (kept_true HOW.out HNN.out HCC.out HN6.out HBH8.out OWN8.out HT8.out (by rw [HOW.out]; exact HZZ.out)).mono ?_
  rintro e w9 ⟨rfl, hb9⟩
  have HH9 := Lib.hid ((hb9.block _ (lt_of_block HH8.out)).trans HH8.out)
  have HC9 := Lib.hid ((hb9.block _ (lt_of_block HC8.out)).trans HC8.out)
  have HO9 := Lib.hid ((hb9.block _ (lt_of_block HO8.out)).trans HO8.out)
  have HA9 := Lib.hid ((hb9.block _ (lt_of_block HA8.out)).trans HA8.out)
  have HB9 := Lib.hid ((hb9.block _ (lt_of_block HB8.out)).trans HB8.out)
  have B9 := Lib.hid (B8.out.trans (hb9.mono B8.out.size))
  have HT9 := Lib.hid (HT8.out.below hb9)
  have OWN9 := Lib.hid (OWN8.out.below hb9)
  have HBH9 := Lib.hid (HBH8.out.below hb9)
  have HTa9 := Lib.hid (HTa8.out.below hb9)
  have HTb9 := Lib.hid (HTb8.out.below hb9)
  clear hb9
  go_wp2_with fail
  refine (HAW.out _).mono ?_
  rintro e w10 ⟨rfl, hb10⟩
  have HH10 := Lib.hid ((hb10.block _ (lt_of_block HH9.out)).trans HH9.out)
  have HC10 := Lib.hid ((hb10.block _ (lt_of_block HC9.out)).trans HC9.out)
  have HO10 := Lib.hid ((hb10.block _ (lt_of_block HO9.out)).trans HO9.out)
  have HA10 := Lib.hid ((hb10.block _ (lt_of_block HA9.out)).trans HA9.out)
  have HB10 := Lib.hid ((hb10.block _ (lt_of_block HB9.out)).trans HB9.out)
  have B10 := Lib.hid (B9.out.trans (hb10.mono B9.out.size))
  have HT10 := Lib.hid (HT9.out.below hb10)
  have OWN10 := Lib.hid (OWN9.out.below hb10)
  have HBH10 := Lib.hid (HBH9.out.below hb10)
  have HTa10 := Lib.hid (HTa9.out.below hb10)
  have HTb10 := Lib.hid (HTb9.out.below hb10)
  clear hb10
  go_wp2_with fail
  go_ret
  exact ⟨rfl, B10.out⟩
theorem walk (C : ConsA) (h : Hs) (L : HL) (xs : List Value) (w : World) (hin : HIn h L w) (fx : Fits kClaim xs) (mx : ∀ u ∈ xs, Mild u) :
 Calls Tryz.prog 6 #[.agg h.cells, .agg xs.toArray] w fun e w' => e = .returned (.bool true) ∧ Below w.heap.size w w' := by
 have ex := cl_cells fx
 rw [ex]
 exact walk0 h L _ _ _ _ _ _ _ _ w hin
end Go.Proofs.YtlkmccmbpnbgbaaGreat.allocClaims
