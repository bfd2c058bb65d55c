/-
 THE LAW InboundStows, over the contracts. (By wip/tools/gen_laws14.py.)
-/
import Derived.Test.YtgbilfkjfeheaaaGreatJConA
import Derived.Test.YtgbilfkjfeheaaaGreatJCame
import Derived.Test.YtgbilfkjfeheaaaGreatOPl
import Derived.Test.YtgbilfkjfeheaaaGreatJStow
import Derived.Test.YtgbilfkjfeheaaaGreatJSum
import Derived.Test.YtgbilfkjfeheaaaGreatHSmall
import Derived.Test.YtgbilfkjfeheaaaGreatHKept
import Derived.Test.YtgbilfkjfeheaaaGreatHA
import Derived.Deep.RegionHeld3
namespace Go.Proofs.YtgbilfkjfeheaaaGreat.inboundStows
set_option linter.unusedVariables false
open Go.RowKit
open Pl (firstG findG putG It)

set_option maxRecDepth 100000 in
set_option maxHeartbeats 6400000 in
theorem walk0 (C : ConsS) (h : Hs) (L : Nat → List (List Value)) (kb ki kl : ByteArray) (ks nq : Int) (w : World) (hin : HIn h L w) (hwk : Wf ks) (hwn : Wf nq) :
 Calls Tryz.prog 5 #[.agg h.cells, .agg #[.string kb, .string ki, .string kl, .int .i64 ks], .int .i64 nq] w fun e w' => e = .returned (.bool true) ∧ Below w.heap.size w w' := by
 have HIN := Lib.hid hin
 have HCO := Lib.hid C
 have HWN := Lib.hid hwn
 have HWK := Lib.hid hwk
 have HAW : Hid (∀ W, Calls Tryz.prog 10 #[] W fun e w' => e = .returned (.bool true) ∧ Below W.heap.size W w') := Lib.hid (fun W => awake_any C.base W)
 obtain ⟨se, hse⟩ : ∃ r, stowE L (Ky.mk kb ki kl ks) nq = r := ⟨_, rfl⟩
 obtain ⟨es, hes⟩ : ∃ r : Int, ((se : Nat) : Int) = r := ⟨_, rfl⟩
 obtain ⟨ts, hts⟩ : ∃ z, (if se = 0 then stowT L (Ky.mk kb ki kl ks) nq else ⟨#[]⟩) = z := ⟨_, rfl⟩
 obtain ⟨lx, hlx⟩ : ∃ z, stowL L (Ky.mk kb ki kl ks) nq = z := ⟨_, rfl⟩
 obtain ⟨tq, htq⟩ : ∃ z, stockQ (L 4) ki kl = z := ⟨_, rfl⟩
 have HFA : Hid (se = 0 → (atBin (L 3) ts).isSome = true ∧ Pl.eqv ts kb = false ∧ stockQ lx ki kl = tq) := Lib.hid (fun h0 => by
  have := stow_facts (hse.trans h0)
  rw [if_pos h0] at hts
  rw [hts, hlx] at this
  rw [← htq]; exact this)
 have HSE := Lib.hid hse
 have HES := Lib.hid hes
 have HTS := Lib.hid hts
 have HLX := Lib.hid hlx
 have HTQ := Lib.hid htq
 obtain ⟨W0, hW0⟩ : ∃ W0, W0 = ((w.alloc (.cells h.cells 37)).alloc (.cells #[.string kb, .string ki, .string kl, .int .i64 ks] 60)) := ⟨_, rfl⟩
 have B0 : Hid (Below w.heap.size w W0) := Lib.hid (by rw [hW0]; exact ((Below.refl _ _).alloc (Nat.le_refl _) _).alloc (by simp <;> omega) _)
 have HH0 : Hid (W0.heap[w.heap.size]? = some (.cells h.cells 37 (0, 0))) := Lib.hid (by
  rw [hW0]
  have hq := heap_alloc_new w (.cells h.cells 37)
  exact (Below.heap_alloc _ _ _ (by simp <;> omega)).trans (by simpa using hq))
 have HK0 : Hid (W0.heap[w.heap.size + 1]? = some (.cells #[.string kb, .string ki, .string kl, .int .i64 ks] 60 (0, 0))) := Lib.hid (by
  rw [hW0]
  have hq := heap_alloc_new (w.alloc (.cells h.cells 37)) (.cells #[.string kb, .string ki, .string kl, .int .i64 ks] 60)
  exact by simpa using hq)
 have huh := Tryz.underlying37
 have HSH : Hid (∀ a : Hs, (Tryz.prog.info? 37).map (·.size) = some a.cells.size) := Lib.hid (fun a => by kernel_rfl)
 have HSHL : Hid (∀ a : Hs, (Tryz.prog.info? 37).map (·.size) = some a.cells.toList.length) := Lib.hid (fun a => by kernel_rfl)
 have H1C : Hid (∀ a : Hs, a.cells.all (·.oneCell') = true) := Lib.hid (fun a => by simp [Hs.cells, Value.oneCell'])
 have huKey := Tryz.underlying60
 have HSKey : Hid ((Tryz.prog.info? 60).map (·.size) = some 4) := Lib.hid (by kernel_rfl)
 have huBin := Tryz.underlying64
 have HSBin : Hid ((Tryz.prog.info? 64).map (·.size) = some 8) := Lib.hid (by kernel_rfl)
 clear hin hwn hwk hse hes hts hlx htq
 subst hW0
 go_enter Tryz.func5, Tryz.ntmps5
 go_wp2_with (first
  | (refine wpList_load_row rfl 37 (.tmp 3) rfl w.heap.size rfl _ _ _ _ HH0.out huh rfl (HSH.out _) ?_)
  | fail)
 refine (small_calls h _).mono ?_
 rintro e w1 ⟨⟨b, rfl, hb⟩, hb1⟩
 have HH1 := Lib.hid ((hb1.block _ (lt_of_block HH0.out)).trans HH0.out)
 have HK1 := Lib.hid ((hb1.block _ (lt_of_block HK0.out)).trans HK0.out)
 have B1 := Lib.hid (B0.out.trans (hb1.mono B0.out.size))
 clear hb1
 cases b with
 | false =>
  clear hb
  go_wp2_with fail
  refine (HAW.out _).mono ?_
  rintro e w2 ⟨rfl, hb2⟩
  have HB2 := Lib.hid (B1.out.trans (hb2.mono B1.out.size))
  clear hb2
  go_wp2_with fail
  go_ret
  exact ⟨rfl, HB2.out⟩
 | true =>
  have HSM := Lib.hid (hb.1 rfl)
  clear hb
  have HT1 : Hid (HT h L w1) := Lib.hid (HIN.out.ht HSM.out B1.out)
  have HN : Hid (∀ i, i < 14 → h.n i ≤ 1000) := Lib.hid (fun i hi => Nat.le_trans (HSM.out i hi) (cap_le i hi))
  go_wp2_with (first
   | (refine wpList_load_row rfl 37 (.tmp 3) rfl w.heap.size rfl _ _ _ _ HH1.out huh rfl (HSH.out _) ?_)
   | fail)
  refine (lents_calls h L _ HT1.out HN.out).mono ?_
  rintro e w2 ⟨own, rfl, hz, hlt, hb2⟩
  obtain ⟨gg, n, c, z, hcell, hze, hn', hc', hnn, hbb, hot⟩ := lent_own hlt HT1.out (fun i hi => HSM.out i hi)
  have HH2 := Lib.hid ((hb2.block _ (lt_of_block HH1.out)).trans HH1.out)
  have HK2 := Lib.hid ((hb2.block _ (lt_of_block HK1.out)).trans HK1.out)
  have B2 := Lib.hid (B1.out.trans (hb2.mono B1.out.size))
  have HT2 := Lib.hid (HT1.out.below hb2)
  have hzz : z = h.z := hze.trans hz
  obtain ⟨own2, how⟩ : ∃ o, o = Hs.mk (fun i => some ⟨gg i, 0, none⟩) n c z := ⟨_, rfl⟩
  rw [show own.val = .agg own2.cells from by rw [Hs.val_cells, hcell, how]]
  rw [← how] at hot
  have HOW := Lib.hid how
  have OWN2 := Lib.hid hot
  have HNN := Lib.hid hn'
  have HCC := Lib.hid hc'
  have HN6 := Lib.hid hnn
  have HBH2 : Hid (KB gg n w2) := Lib.hid hbb
  have HZZ := Lib.hid hzz
  have HZO : Hid (own2.z = h.z) := Lib.hid (by rw [how]; exact hzz)
  have HNO : Hid (∀ i, i < 14 → own2.n i ≤ 1000) := Lib.hid (by rw [how]; exact hnn)
  have HCP : Hid (Caps own2) := Lib.hid (by rw [how]; exact fun i hi => ⟨Nat.le_of_succ_le (hc' i hi).1, (hc' i hi).2⟩)
  clear hz hlt hb2 hn' hc' hnn hbb hot how hcell hze hzz own
  have HQ3 : Hid ((w2.alloc (.cells #[.slice none 0 0, .slice none 0 0, .slice none 0 0, .slice none 0 0, .slice none 0 0, .slice none 0 0, .slice none 0 0, .slice none 0 0, .slice none 0 0, .slice none 0 0, .slice none 0 0, .slice none 0 0, .slice none 0 0, .slice none 0 0, .int .i64 0] 37)).heap[w2.heap.size]? = some (.cells #[.slice none 0 0, .slice none 0 0, .slice none 0 0, .slice none 0 0, .slice none 0 0, .slice none 0 0, .slice none 0 0, .slice none 0 0, .slice none 0 0, .slice none 0 0, .slice none 0 0, .slice none 0 0, .slice none 0 0, .slice none 0 0, .int .i64 0] 37 (0, 0))) := Lib.hid (heap_alloc_new _ _)
  obtain ⟨w3, hw3⟩ : ∃ w', w' = (w2.alloc (.cells #[.slice none 0 0, .slice none 0 0, .slice none 0 0, .slice none 0 0, .slice none 0 0, .slice none 0 0, .slice none 0 0, .slice none 0 0, .slice none 0 0, .slice none 0 0, .slice none 0 0, .slice none 0 0, .slice none 0 0, .slice none 0 0, .int .i64 0] 37)).setRow w2.heap.size own2.cells := ⟨_, rfl⟩
  have hb3 : Below w2.heap.size w2 w3 := by rw [hw3]; exact setRow_below ((Below.refl _ _).alloc (Nat.le_refl _) _) (Nat.le_refl _) _
  have HH3 := Lib.hid ((hb3.block _ (lt_of_block HH2.out)).trans HH2.out)
  have HK3 := Lib.hid ((hb3.block _ (lt_of_block HK2.out)).trans HK2.out)
  have B3 := Lib.hid (B2.out.trans (hb3.mono B2.out.size))
  have HT3 := Lib.hid (HT2.out.below hb3)
  have OWN3 := Lib.hid (OWN2.out.below hb3)
  have HBH3 := Lib.hid (HBH2.out.below hb3)
  have HO3 : Hid (w3.heap[w2.heap.size]? = some (.cells own2.cells 37 (0, 0))) := Lib.hid (by rw [hw3]; exact setRow_heap _ _ _ _ _ _ HQ3.out)
  have HW3 := Lib.hid hw3
  clear hb3 hw3
  go_wp2_with (first
   | (refine wpList_store_row rfl 37 (.tmp 7) (.tmp 21) rfl w2.heap.size own2.cells rfl rfl _ _ HQ3.out (HSH.out _) rfl (H1C.out _) ?_; rw [← HW3.out])
   | (refine wpList_load_row rfl 37 (.tmp 7) rfl w2.heap.size rfl _ _ _ _ HO3.out huh rfl (HSH.out _) ?_)
   | (refine wpList_load_row rfl 60 (.tmp 4) rfl (w.heap.size + 1) rfl _ _ _ _ HK3.out huKey rfl HSKey.out ?_)
   | fail)
  refine (HCO.out.stow own2 L kb ki kl ks nq _ OWN3.out HNO.out HCP.out HWK.out HWN.out).mono ?_
  rintro e w4 ⟨hb4, a, rfl, hat, haz, hac, _⟩
  rw [HSE.out] at hat haz ⊢
  rw [HLX.out] at hat
  rw [HTS.out, HES.out]
  have HH4 := Lib.hid ((hb4.block _ (lt_of_block HH3.out)).trans HH3.out)
  have HK4 := Lib.hid ((hb4.block _ (lt_of_block HK3.out)).trans HK3.out)
  have HO4 := Lib.hid ((hb4.block _ (lt_of_block HO3.out)).trans HO3.out)
  have B4 := Lib.hid (B3.out.trans (hb4.mono B3.out.size))
  have HT4 := Lib.hid (HT3.out.below hb4)
  have OWN4 := Lib.hid (OWN3.out.below hb4)
  have HBH4 := Lib.hid (HBH3.out.below hb4)
  have HTa4 := Lib.hid hat
  have HZa := Lib.hid (haz.trans (congrArg _ HZO.out))
  clear hat haz hb4 hac
  have HQ5 : Hid ((w4.alloc (.cells #[.slice none 0 0, .slice none 0 0, .slice none 0 0, .slice none 0 0, .slice none 0 0, .slice none 0 0, .slice none 0 0, .slice none 0 0, .slice none 0 0, .slice none 0 0, .slice none 0 0, .slice none 0 0, .slice none 0 0, .slice none 0 0, .int .i64 0] 37)).heap[w4.heap.size]? = some (.cells #[.slice none 0 0, .slice none 0 0, .slice none 0 0, .slice none 0 0, .slice none 0 0, .slice none 0 0, .slice none 0 0, .slice none 0 0, .slice none 0 0, .slice none 0 0, .slice none 0 0, .slice none 0 0, .slice none 0 0, .slice none 0 0, .int .i64 0] 37 (0, 0))) := Lib.hid (heap_alloc_new _ _)
  obtain ⟨w5, hw5⟩ : ∃ w', w' = (w4.alloc (.cells #[.slice none 0 0, .slice none 0 0, .slice none 0 0, .slice none 0 0, .slice none 0 0, .slice none 0 0, .slice none 0 0, .slice none 0 0, .slice none 0 0, .slice none 0 0, .slice none 0 0, .slice none 0 0, .slice none 0 0, .slice none 0 0, .int .i64 0] 37)).setRow w4.heap.size a.cells := ⟨_, rfl⟩
  have hb5 : Below w4.heap.size w4 w5 := by rw [hw5]; exact setRow_below ((Below.refl _ _).alloc (Nat.le_refl _) _) (Nat.le_refl _) _
  have HH5 := Lib.hid ((hb5.block _ (lt_of_block HH4.out)).trans HH4.out)
  have HK5 := Lib.hid ((hb5.block _ (lt_of_block HK4.out)).trans HK4.out)
  have HO5 := Lib.hid ((hb5.block _ (lt_of_block HO4.out)).trans HO4.out)
  have B5 := Lib.hid (B4.out.trans (hb5.mono B4.out.size))
  have HT5 := Lib.hid (HT4.out.below hb5)
  have OWN5 := Lib.hid (OWN4.out.below hb5)
  have HBH5 := Lib.hid (HBH4.out.below hb5)
  have HTa5 := Lib.hid (HTa4.out.below hb5)
  have HA5 : Hid (w5.heap[w4.heap.size]? = some (.cells a.cells 37 (0, 0))) := Lib.hid (by rw [hw5]; exact setRow_heap _ _ _ _ _ _ HQ5.out)
  have HW5 := Lib.hid hw5
  clear hb5 hw5
  go_wp2_with (first
   | (refine wpList_store_row rfl 37 (.tmp 8) (.tmp 27) rfl w4.heap.size a.cells rfl rfl _ _ HQ5.out (HSH.out _) rfl (H1C.out _) ?_; rw [← HW5.out])
   | (refine wpList_load_row rfl 37 (.tmp 3) rfl w.heap.size rfl _ _ _ _ HH5.out huh rfl (HSH.out _) ?_)
   | (refine wpList_load_row rfl 60 (.tmp 4) rfl (w.heap.size + 1) rfl _ _ _ _ HK5.out huKey rfl HSKey.out ?_)
   | fail)
  refine (rstow_any h L kb ki kl ks nq _ HT5.out (HN.out 4 (by decide)) (HN.out 5 (by decide))).mono ?_
  rintro e w6 ⟨hb6, c, rfl, hat, haz, hac, _⟩
  rw [HSE.out] at hat haz ⊢
  rw [HLX.out] at hat
  rw [HTS.out, HES.out]
  have HH6 := Lib.hid ((hb6.block _ (lt_of_block HH5.out)).trans HH5.out)
  have HK6 := Lib.hid ((hb6.block _ (lt_of_block HK5.out)).trans HK5.out)
  have HO6 := Lib.hid ((hb6.block _ (lt_of_block HO5.out)).trans HO5.out)
  have HA6 := Lib.hid ((hb6.block _ (lt_of_block HA5.out)).trans HA5.out)
  have B6 := Lib.hid (B5.out.trans (hb6.mono B5.out.size))
  have HT6 := Lib.hid (HT5.out.below hb6)
  have OWN6 := Lib.hid (OWN5.out.below hb6)
  have HBH6 := Lib.hid (HBH5.out.below hb6)
  have HTa6 := Lib.hid (HTa5.out.below hb6)
  have HTc6 := Lib.hid hat
  have HZc := Lib.hid (haz)
  clear hat haz hb6 hac
  have HQ7 : Hid ((w6.alloc (.cells #[.slice none 0 0, .slice none 0 0, .slice none 0 0, .slice none 0 0, .slice none 0 0, .slice none 0 0, .slice none 0 0, .slice none 0 0, .slice none 0 0, .slice none 0 0, .slice none 0 0, .slice none 0 0, .slice none 0 0, .slice none 0 0, .int .i64 0] 37)).heap[w6.heap.size]? = some (.cells #[.slice none 0 0, .slice none 0 0, .slice none 0 0, .slice none 0 0, .slice none 0 0, .slice none 0 0, .slice none 0 0, .slice none 0 0, .slice none 0 0, .slice none 0 0, .slice none 0 0, .slice none 0 0, .slice none 0 0, .slice none 0 0, .int .i64 0] 37 (0, 0))) := Lib.hid (heap_alloc_new _ _)
  obtain ⟨w7, hw7⟩ : ∃ w', w' = (w6.alloc (.cells #[.slice none 0 0, .slice none 0 0, .slice none 0 0, .slice none 0 0, .slice none 0 0, .slice none 0 0, .slice none 0 0, .slice none 0 0, .slice none 0 0, .slice none 0 0, .slice none 0 0, .slice none 0 0, .slice none 0 0, .slice none 0 0, .int .i64 0] 37)).setRow w6.heap.size c.cells := ⟨_, rfl⟩
  have hb7 : Below w6.heap.size w6 w7 := by rw [hw7]; exact setRow_below ((Below.refl _ _).alloc (Nat.le_refl _) _) (Nat.le_refl _) _
  have HH7 := Lib.hid ((hb7.block _ (lt_of_block HH6.out)).trans HH6.out)
  have HK7 := Lib.hid ((hb7.block _ (lt_of_block HK6.out)).trans HK6.out)
  have HO7 := Lib.hid ((hb7.block _ (lt_of_block HO6.out)).trans HO6.out)
  have HA7 := Lib.hid ((hb7.block _ (lt_of_block HA6.out)).trans HA6.out)
  have B7 := Lib.hid (B6.out.trans (hb7.mono B6.out.size))
  have HT7 := Lib.hid (HT6.out.below hb7)
  have OWN7 := Lib.hid (OWN6.out.below hb7)
  have HBH7 := Lib.hid (HBH6.out.below hb7)
  have HTa7 := Lib.hid (HTa6.out.below hb7)
  have HTc7 := Lib.hid (HTc6.out.below hb7)
  have HC7 : Hid (w7.heap[w6.heap.size]? = some (.cells c.cells 37 (0, 0))) := Lib.hid (by rw [hw7]; exact setRow_heap _ _ _ _ _ _ HQ7.out)
  have HW7 := Lib.hid hw7
  clear hb7 hw7
  go_wp2_with (first
   | (refine wpList_store_row rfl 37 (.tmp 11) (.tmp 35) rfl w6.heap.size c.cells rfl rfl _ _ HQ7.out (HSH.out _) rfl (H1C.out _) ?_; rw [← HW7.out])
   | (refine BigFrame.wpList_want (by kernel_rfl) (fun K hK => Go.wp_load_mid 37 (.tmp 8) rfl w4.heap.size 0 rfl a.cells.toList _ (range_row0 HA7.out) huh rfl (HSHL.out _) (hK _ _ ?_)); clear hK K)
   | (refine BigFrame.wpList_want (by kernel_rfl) (fun K hK => Go.wp_load_mid 37 (.tmp 11) rfl w6.heap.size 0 rfl c.cells.toList _ (range_row0 HC7.out) huh rfl (HSHL.out _) (hK _ _ ?_)); clear hK K)
   | fail)
  refine (same_true HTa7.out HTc7.out (HZa.out.trans HZc.out.symm)).mono ?_
  rintro e w8 ⟨rfl, hb8⟩
  have HH8 := Lib.hid ((hb8.block _ (lt_of_block HH7.out)).trans HH7.out)
  have HK8 := Lib.hid ((hb8.block _ (lt_of_block HK7.out)).trans HK7.out)
  have HO8 := Lib.hid ((hb8.block _ (lt_of_block HO7.out)).trans HO7.out)
  have HA8 := Lib.hid ((hb8.block _ (lt_of_block HA7.out)).trans HA7.out)
  have HC8 := Lib.hid ((hb8.block _ (lt_of_block HC7.out)).trans HC7.out)
  have B8 := Lib.hid (B7.out.trans (hb8.mono B7.out.size))
  have HT8 := Lib.hid (HT7.out.below hb8)
  have OWN8 := Lib.hid (OWN7.out.below hb8)
  have HBH8 := Lib.hid (HBH7.out.below hb8)
  have HTa8 := Lib.hid (HTa7.out.below hb8)
  have HTc8 := Lib.hid (HTc7.out.below hb8)
  clear hb8
  go_wp2_with (first
   | (refine BigFrame.wpList_want (by kernel_rfl) (fun K hK => Go.wp_load_mid 37 (.tmp 7) rfl w2.heap.size 0 rfl own2.cells.toList _ (range_row0 HO8.out) huh rfl (HSHL.out _) (hK _ _ ?_)); clear hK K)
   | (refine BigFrame.wpList_want (by kernel_rfl) (fun K hK => Go.wp_load_mid 37 (.tmp 3) rfl w.heap.size 0 rfl h.cells.toList _ (range_row0 HH8.out) huh rfl (HSHL.out _) (hK _ _ ?_)); clear hK K)
   | fail)
  refine (kept_true HOW.out HNN.out HCC.out HN6.out HBH8.out OWN8.out HT8.out (by rw [HOW.out]; exact HZZ.out)).mono ?_
  rintro e w9 ⟨rfl, hb9⟩
  have HH9 := Lib.hid ((hb9.block _ (lt_of_block HH8.out)).trans HH8.out)
  have HK9 := Lib.hid ((hb9.block _ (lt_of_block HK8.out)).trans HK8.out)
  have HO9 := Lib.hid ((hb9.block _ (lt_of_block HO8.out)).trans HO8.out)
  have HA9 := Lib.hid ((hb9.block _ (lt_of_block HA8.out)).trans HA8.out)
  have HC9 := Lib.hid ((hb9.block _ (lt_of_block HC8.out)).trans HC8.out)
  have B9 := Lib.hid (B8.out.trans (hb9.mono B8.out.size))
  have HT9 := Lib.hid (HT8.out.below hb9)
  have OWN9 := Lib.hid (OWN8.out.below hb9)
  have HBH9 := Lib.hid (HBH8.out.below hb9)
  have HTa9 := Lib.hid (HTa8.out.below hb9)
  have HTc9 := Lib.hid (HTc8.out.below hb9)
  clear hb9
  by_cases h0 : es = 0
  · have hs0 : se = 0 := by have := HES.out; omega
    obtain ⟨hf1, hf2, hf3⟩ := HFA.out hs0
    obtain ⟨⟨yc, yz, kd, ai, pl, vo, we, fz⟩, hy, _⟩ := bin_eight HT9.out ts
    unfold Bn.cells at hy
    have HS0 := Lib.hid hs0
    have HF3 := Lib.hid hf3
    have he' : (ts.toList == kb.toList) = false := hf2
    have CFB : Hid (∀ W, HT h L W → Calls Tryz.prog 24 #[.agg h.cells, .string ts] W fun e w' => e = .returned (.tuple #[.agg #[.string yc, .string yz, .int .i64 kd, .int .i64 ai, .int .i64 pl, .int .i64 vo, .int .i64 we, .bool fz], .bool true]) ∧ Below W.heap.size W w') := Lib.hid (fun W hW => by have := HCO.out.find h L ts W hW; rw [hy, hf1] at this; exact this)
    subst h0
    clear hf1 hf2 hf3 hy hs0
    go_wp2_with (first
     | (refine wpList_load_row rfl 37 (.tmp 3) rfl w.heap.size rfl _ _ _ _ HH9.out huh rfl (HSH.out _) ?_)
     | fail)
    refine (CFB.out _ HT9.out).mono ?_
    rintro e w10 ⟨rfl, hb10⟩
    have HH10 := Lib.hid ((hb10.block _ (lt_of_block HH9.out)).trans HH9.out)
    have HK10 := Lib.hid ((hb10.block _ (lt_of_block HK9.out)).trans HK9.out)
    have HO10 := Lib.hid ((hb10.block _ (lt_of_block HO9.out)).trans HO9.out)
    have HA10 := Lib.hid ((hb10.block _ (lt_of_block HA9.out)).trans HA9.out)
    have HC10 := Lib.hid ((hb10.block _ (lt_of_block HC9.out)).trans HC9.out)
    have B10 := Lib.hid (B9.out.trans (hb10.mono B9.out.size))
    have HT10 := Lib.hid (HT9.out.below hb10)
    have OWN10 := Lib.hid (OWN9.out.below hb10)
    have HBH10 := Lib.hid (HBH9.out.below hb10)
    have HTa10 := Lib.hid (HTa9.out.below hb10)
    have HTc10 := Lib.hid (HTc9.out.below hb10)
    clear hb10
    obtain ⟨w11, hw11⟩ : ∃ w', w' = w10.alloc (.cells #[.string yc, .string yz, .int .i64 kd, .int .i64 ai, .int .i64 pl, .int .i64 vo, .int .i64 we, .bool fz] 64) := ⟨_, rfl⟩
    have hb11 : Below w10.heap.size w10 w11 := by rw [hw11]; exact (Below.refl _ _).alloc (Nat.le_refl _) _
    have HH11 := Lib.hid ((hb11.block _ (lt_of_block HH10.out)).trans HH10.out)
    have HK11 := Lib.hid ((hb11.block _ (lt_of_block HK10.out)).trans HK10.out)
    have HO11 := Lib.hid ((hb11.block _ (lt_of_block HO10.out)).trans HO10.out)
    have HA11 := Lib.hid ((hb11.block _ (lt_of_block HA10.out)).trans HA10.out)
    have HC11 := Lib.hid ((hb11.block _ (lt_of_block HC10.out)).trans HC10.out)
    have B11 := Lib.hid (B10.out.trans (hb11.mono B10.out.size))
    have HT11 := Lib.hid (HT10.out.below hb11)
    have OWN11 := Lib.hid (OWN10.out.below hb11)
    have HBH11 := Lib.hid (HBH10.out.below hb11)
    have HTa11 := Lib.hid (HTa10.out.below hb11)
    have HTc11 := Lib.hid (HTc10.out.below hb11)
    have HB11 : Hid (w11.heap[w10.heap.size]? = some (.cells #[.string yc, .string yz, .int .i64 kd, .int .i64 ai, .int .i64 pl, .int .i64 vo, .int .i64 we, .bool fz] 64 (0, 0))) := Lib.hid (by rw [hw11]; exact heap_alloc_new _ _)
    have HW11 := Lib.hid hw11
    clear hb11 hw11
    go_upto_region 10 with fail
    rw [← HW11.out]
    have RHH : Hid (∀ X : BW w11, X.W.heap[w.heap.size]? = some (.cells h.cells 37 (0, 0))) := Lib.hid (fun X => (X.h.block _ (lt_of_block HH11.out)).trans HH11.out)
    have RHK : Hid (∀ X : BW w11, X.W.heap[w.heap.size + 1]? = some (.cells #[.string kb, .string ki, .string kl, .int .i64 ks] 60 (0, 0))) := Lib.hid (fun X => (X.h.block _ (lt_of_block HK11.out)).trans HK11.out)
    have RHO : Hid (∀ X : BW w11, X.W.heap[w2.heap.size]? = some (.cells own2.cells 37 (0, 0))) := Lib.hid (fun X => (X.h.block _ (lt_of_block HO11.out)).trans HO11.out)
    have RHA : Hid (∀ X : BW w11, X.W.heap[w4.heap.size]? = some (.cells a.cells 37 (0, 0))) := Lib.hid (fun X => (X.h.block _ (lt_of_block HA11.out)).trans HA11.out)
    have RHC : Hid (∀ X : BW w11, X.W.heap[w6.heap.size]? = some (.cells c.cells 37 (0, 0))) := Lib.hid (fun X => (X.h.block _ (lt_of_block HC11.out)).trans HC11.out)
    have RHB : Hid (∀ X : BW w11, X.W.heap[w10.heap.size]? = some (.cells #[.string yc, .string yz, .int .i64 kd, .int .i64 ai, .int .i64 pl, .int .i64 vo, .int .i64 we, .bool fz] 64 (0, 0))) := Lib.hid (fun X => (X.h.block _ (lt_of_block HB11.out)).trans HB11.out)
    have k0 : ∀ X : BW w11, X.W.cell? ⟨w.heap.size + 1, 0, none⟩ = some (.string kb) := fun X => by rw [cell_of_block ((X.h.block _ (lt_of_block HK11.out)).trans HK11.out)]; rfl
    have k1 : ∀ X : BW w11, X.W.cell? ⟨w.heap.size + 1, 1, none⟩ = some (.string ki) := fun X => by rw [cell_of_block ((X.h.block _ (lt_of_block HK11.out)).trans HK11.out)]; rfl
    have k2 : ∀ X : BW w11, X.W.cell? ⟨w.heap.size + 1, 2, none⟩ = some (.string kl) := fun X => by rw [cell_of_block ((X.h.block _ (lt_of_block HK11.out)).trans HK11.out)]; rfl
    have CTA : Hid (∀ X : BW w11, Calls Tryz.prog 25 #[.agg a.cells, .string ki, .string kl] X.W fun e w' => e = .returned (.int .i64 tq) ∧ Below X.W.heap.size X.W w') := Lib.hid (fun X => by have := HCO.out.base.total a _ ki kl X.W (HTa11.out.below X.h); rw [HS0.out] at this; rw [show setE 0 L 4 lx 4 = lx from rfl, HF3.out] at this; exact this)
    have CTH : Hid (∀ X : BW w11, Calls Tryz.prog 25 #[.agg h.cells, .string ki, .string kl] X.W fun e w' => e = .returned (.int .i64 tq) ∧ Below X.W.heap.size X.W w') := Lib.hid (fun X => by have := HCO.out.base.total h L ki kl X.W (HT11.out.below X.h); rwa [HTQ.out] at this)
    refine wp_grow w11 (by kernel_rfl) (by kernel_rfl) (Below.refl _ _) ?_
    simp only []
    iterate 9 go_big_quiet_step (fail)
    refine BigFrame.wpQuiet_want (by kernel_rfl) (fun K hK => quiet_load_mid 37 (.tmp 8) rfl w4.heap.size 0 rfl a.cells.toList _ (fun W ⟨X, hX⟩ => by rw [hX]; exact range_row0 (RHA.out X)) huh rfl (HSHL.out _) (hK _ ?_))
    simp only [ax, Array.toArray_toList]
    iterate 4 go_big_quiet_step (fail)
    go_big_quiet_step (exact grow_call _ (CTA.out _))
    refine BigFrame.wpQuiet_want (by kernel_rfl) (fun K hK => quiet_load_mid 37 (.tmp 3) rfl w.heap.size 0 rfl h.cells.toList _ (fun W ⟨X, hX⟩ => by rw [hX]; exact range_row0 (RHH.out X)) huh rfl (HSHL.out _) (hK _ ?_))
    simp only [ax, Array.toArray_toList]
    iterate 4 go_big_quiet_step (fail)
    go_big_quiet_step (exact grow_call _ (CTH.out _))
    iterate 2 go_big_quiet_step (fail)
    refine wpQuiet_nil ?_
    intro X
    obtain ⟨w12, hb12⟩ := X
    simp only []
    have HH12 := Lib.hid ((hb12.block _ (lt_of_block HH11.out)).trans HH11.out)
    have HK12 := Lib.hid ((hb12.block _ (lt_of_block HK11.out)).trans HK11.out)
    have HO12 := Lib.hid ((hb12.block _ (lt_of_block HO11.out)).trans HO11.out)
    have HA12 := Lib.hid ((hb12.block _ (lt_of_block HA11.out)).trans HA11.out)
    have HC12 := Lib.hid ((hb12.block _ (lt_of_block HC11.out)).trans HC11.out)
    have HB12 := Lib.hid ((hb12.block _ (lt_of_block HB11.out)).trans HB11.out)
    have B12 := Lib.hid (B11.out.trans (hb12.mono B11.out.size))
    have HT12 := Lib.hid (HT11.out.below hb12)
    have OWN12 := Lib.hid (OWN11.out.below hb12)
    have HBH12 := Lib.hid (HBH11.out.below hb12)
    have HTa12 := Lib.hid (HTa11.out.below hb12)
    have HTc12 := Lib.hid (HTc11.out.below hb12)
    clear hb12
    clear k0 k1 k2
    go_wp2_with fail
    refine (HAW.out _).mono ?_
    rintro e w13 ⟨rfl, hb13⟩
    have HH13 := Lib.hid ((hb13.block _ (lt_of_block HH12.out)).trans HH12.out)
    have HK13 := Lib.hid ((hb13.block _ (lt_of_block HK12.out)).trans HK12.out)
    have HO13 := Lib.hid ((hb13.block _ (lt_of_block HO12.out)).trans HO12.out)
    have HA13 := Lib.hid ((hb13.block _ (lt_of_block HA12.out)).trans HA12.out)
    have HC13 := Lib.hid ((hb13.block _ (lt_of_block HC12.out)).trans HC12.out)
    have HB13 := Lib.hid ((hb13.block _ (lt_of_block HB12.out)).trans HB12.out)
    have B13 := Lib.hid (B12.out.trans (hb13.mono B12.out.size))
    have HT13 := Lib.hid (HT12.out.below hb13)
    have OWN13 := Lib.hid (OWN12.out.below hb13)
    have HBH13 := Lib.hid (HBH12.out.below hb13)
    have HTa13 := Lib.hid (HTa12.out.below hb13)
    have HTc13 := Lib.hid (HTc12.out.below hb13)
    clear hb13
    go_wp2_with fail
    go_ret
    exact ⟨rfl, B13.out⟩
  · have b0 : (es == 0) = false := by simpa using h0
    clear h0
    go_wp2_with fail
    refine (HAW.out _).mono ?_
    rintro e w10 ⟨rfl, hb10⟩
    have HH10 := Lib.hid ((hb10.block _ (lt_of_block HH9.out)).trans HH9.out)
    have HK10 := Lib.hid ((hb10.block _ (lt_of_block HK9.out)).trans HK9.out)
    have HO10 := Lib.hid ((hb10.block _ (lt_of_block HO9.out)).trans HO9.out)
    have HA10 := Lib.hid ((hb10.block _ (lt_of_block HA9.out)).trans HA9.out)
    have HC10 := Lib.hid ((hb10.block _ (lt_of_block HC9.out)).trans HC9.out)
    have B10 := Lib.hid (B9.out.trans (hb10.mono B9.out.size))
    have HT10 := Lib.hid (HT9.out.below hb10)
    have OWN10 := Lib.hid (OWN9.out.below hb10)
    have HBH10 := Lib.hid (HBH9.out.below hb10)
    have HTa10 := Lib.hid (HTa9.out.below hb10)
    have HTc10 := Lib.hid (HTc9.out.below hb10)
    clear hb10
    go_wp2_with fail
    go_ret
    exact ⟨rfl, B10.out⟩
theorem walk (C : ConsS) (h : Hs) (L : Nat → List (List Value)) (cs : List Value) (n : Int) (w : World) (hin : HIn h L w) (fx : Fits kKey cs) (mx : ∀ u ∈ cs, Mild u) (hn : Wf n) :
 Calls Tryz.prog 5 #[.agg h.cells, .agg cs.toArray, .int .i64 n] w fun e w' => e = .returned (.bool true) ∧ Below w.heap.size w w' := by
 have ex := ky_cells fx
 rw [ex] at mx ⊢
 exact walk0 C h L _ _ _ _ n w hin (wf_of (mx _ (by simp [Ky.cells]))) hn
end Go.Proofs.YtgbilfkjfeheaaaGreat.inboundStows
