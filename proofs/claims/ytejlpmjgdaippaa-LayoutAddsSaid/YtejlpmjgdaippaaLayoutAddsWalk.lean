/-
  THE LAW LayoutAdds, over the contracts. (By wip/tools/gen_laws10.py.)
-/
import Derived.Test.YtejlpmjgdaippaaYCon
import Derived.Test.YtejlpmjgdaippaaYRow
import Derived.Test.YtejlpmjgdaippaaHSmall
import Derived.Test.YtejlpmjgdaippaaHKept
import Derived.Test.YtejlpmjgdaippaaHBoth
import Derived.Test.YtejlpmjgdaippaaHA
namespace Go.Proofs.Ytejlpmjgdaippaa.layoutAdds
set_option linter.unusedVariables false
open Go.RowKit
open Pl (firstG findG putG)

set_option maxRecDepth 100000 in
set_option maxHeartbeats 6400000 in
theorem walk0 (C : Cons) (h : Hs) (L : Nat → List (List Value)) (za zb : ByteArray) (xc xz : ByteArray) (kd ai pl vo we : Int) (fz : Bool) (w : World) (hin : HIn h L w) (hza : za.size ≤ maxLen) (hzb : zb.size ≤ maxLen) (hxc : xc.size ≤ maxLen) :
    Calls Try.prog 3 #[.agg h.cells, .agg #[.string za, .string zb], .agg #[.string xc, .string xz, .int .i64 kd, .int .i64 ai, .int .i64 pl, .int .i64 vo, .int .i64 we, .bool fz]] w fun e w' => e = .returned (.bool true) ∧ Below w.heap.size w w' := by
  have HIN := Lib.hid hin
  have HCO := Lib.hid C
  have HAW : Hid (∀ W, Calls Try.prog 11 #[] W fun e w' => e = .returned (.bool true) ∧ Below W.heap.size W w') := Lib.hid (fun W => awake_any C W)
  have HZA := Lib.hid hza
  have HZB := Lib.hid hzb
  have HXC := Lib.hid hxc
  obtain ⟨ez, hez⟩ : ∃ r : Int, ((addZE (L 2) [.string za, .string zb] : Nat) : Int) = r := ⟨_, rfl⟩
  have HEz := Lib.hid hez
  obtain ⟨eb, heb⟩ : ∃ r : Int, ((addBE (L 2) (L 3) (Bn.mk xc xz kd ai pl vo we fz) : Nat) : Int) = r := ⟨_, rfl⟩
  have HEb := Lib.hid heb
  obtain ⟨W0, hW0⟩ : ∃ W0, W0 = (((w.alloc (.cells h.cells 37)).alloc (.cells #[.string za, .string zb] 39)).alloc (.cells #[.string xc, .string xz, .int .i64 kd, .int .i64 ai, .int .i64 pl, .int .i64 vo, .int .i64 we, .bool fz] 41)) := ⟨_, rfl⟩
  have B0 : Hid (Below w.heap.size w W0) := Lib.hid (by rw [hW0]; exact (((Below.refl _ _).alloc (Nat.le_refl _) _).alloc (by simp <;> omega) _).alloc (by simp <;> omega) _)
  have HH0 : Hid (W0.heap[w.heap.size]? = some (.cells h.cells 37 (0, 0))) := Lib.hid (by
    rw [hW0]
    have hq := heap_alloc_new w (.cells h.cells 37)
    exact (Below.heap_alloc _ _ _ (by simp <;> omega)).trans ((Below.heap_alloc _ _ _ (by simp <;> omega)).trans (by simpa using hq)))
  have HZN0 : Hid (W0.heap[w.heap.size + 1]? = some (.cells #[.string za, .string zb] 39 (0, 0))) := Lib.hid (by
    rw [hW0]
    have hq := heap_alloc_new (w.alloc (.cells h.cells 37)) (.cells #[.string za, .string zb] 39)
    exact (Below.heap_alloc _ _ _ (by simp <;> omega)).trans (by simpa using hq))
  have HBN0 : Hid (W0.heap[w.heap.size + 2]? = some (.cells #[.string xc, .string xz, .int .i64 kd, .int .i64 ai, .int .i64 pl, .int .i64 vo, .int .i64 we, .bool fz] 41 (0, 0))) := Lib.hid (by
    rw [hW0]
    have hq := heap_alloc_new ((w.alloc (.cells h.cells 37)).alloc (.cells #[.string za, .string zb] 39)) (.cells #[.string xc, .string xz, .int .i64 kd, .int .i64 ai, .int .i64 pl, .int .i64 vo, .int .i64 we, .bool fz] 41)
    exact by simpa using hq)
  have huh := Try.underlying37
  have HSH : Hid (∀ a : Hs, (Try.prog.info? 37).map (·.size) = some a.cells.size) := Lib.hid (fun a => by kernel_rfl)
  have HSHL : Hid (∀ a : Hs, (Try.prog.info? 37).map (·.size) = some a.cells.toList.length) := Lib.hid (fun a => by kernel_rfl)
  have H1C : Hid (∀ a : Hs, a.cells.all (·.oneCell') = true) := Lib.hid (fun a => by simp [Hs.cells, Value.oneCell'])
  have huZone := Try.underlying39
  have HSZone : Hid ((Try.prog.info? 39).map (·.size) = some 2) := Lib.hid (by kernel_rfl)
  have huBin := Try.underlying41
  have HSBin : Hid ((Try.prog.info? 41).map (·.size) = some 8) := Lib.hid (by kernel_rfl)
  clear hin hza hzb hxc hez heb
  subst hW0
  go_enter Try.func3, Try.ntmps3
  go_wp2_with (first
    | (refine wpList_load_row rfl 37 (.tmp 3) rfl w.heap.size rfl _ _ _ _ HH0.out huh rfl (HSH.out _) ?_)
    | fail)
  refine (small_calls h _).mono ?_
  rintro e w1 ⟨⟨b, rfl, hb⟩, hb1⟩
  have HH1 := Lib.hid ((hb1.block _ (lt_of_block HH0.out)).trans HH0.out)
  have HZN1 := Lib.hid ((hb1.block _ (lt_of_block HZN0.out)).trans HZN0.out)
  have HBN1 := Lib.hid ((hb1.block _ (lt_of_block HBN0.out)).trans HBN0.out)
  have B1 := Lib.hid (B0.out.trans (hb1.mono B0.out.size))
  clear hb1
  cases b with
  | false =>
    clear hb
    go_wp2_with fail
    refine (HAW.out _).mono ?_
    rintro e w2 ⟨rfl, hb2⟩
    have HB2 := Lib.hid (B1.out.trans (hb2.mono B1.out.size))
    clear hb2
    go_wp2_with fail
    go_ret
    exact ⟨rfl, HB2.out⟩
  | true =>
    have HSM := Lib.hid (hb.1 rfl)
    clear hb
    have HT1 : Hid (HT h L w1) := Lib.hid (HIN.out.ht HSM.out B1.out)
    have HN : Hid (∀ i, i < 14 → h.n i ≤ 1000) := Lib.hid (fun i hi => Nat.le_trans (HSM.out i hi) (cap_le i hi))
    go_wp2_with (first
      | (refine wpList_load_row rfl 37 (.tmp 3) rfl w.heap.size rfl _ _ _ _ HH1.out huh rfl (HSH.out _) ?_)
      | fail)
    refine (lents_calls h L _ HT1.out HN.out).mono ?_
    rintro e w2 ⟨own, rfl, hz, hlt, hb2⟩
    obtain ⟨gg, n, c, z, hcell, hze, hn', hc', hnn, hbb, hot⟩ := lent_own hlt HT1.out (fun i hi => HSM.out i hi)
    have HH2 := Lib.hid ((hb2.block _ (lt_of_block HH1.out)).trans HH1.out)
    have HZN2 := Lib.hid ((hb2.block _ (lt_of_block HZN1.out)).trans HZN1.out)
    have HBN2 := Lib.hid ((hb2.block _ (lt_of_block HBN1.out)).trans HBN1.out)
    have B2 := Lib.hid (B1.out.trans (hb2.mono B1.out.size))
    have HT2 := Lib.hid (HT1.out.below hb2)
    have hzz : z = h.z := hze.trans hz
    obtain ⟨own2, how⟩ : ∃ o, o = Hs.mk (fun i => some ⟨gg i, 0, none⟩) n c z := ⟨_, rfl⟩
    rw [show own.val = .agg own2.cells from by rw [Hs.val_cells, hcell, how]]
    rw [← how] at hot
    have HOW := Lib.hid how
    have OWN2 := Lib.hid hot
    have HNN := Lib.hid hn'
    have HCC := Lib.hid hc'
    have HN6 := Lib.hid hnn
    have HBH2 : Hid (KB gg n w2) := Lib.hid hbb
    have HZZ := Lib.hid hzz
    have HZO : Hid (own2.z = h.z) := Lib.hid (by rw [how]; exact hzz)
    have HNO : Hid (∀ i, i < 14 → own2.n i ≤ 1000) := Lib.hid (by rw [how]; exact hnn)
    have HCP : Hid (Caps own2) := Lib.hid (by rw [how]; exact fun i hi => ⟨Nat.le_of_succ_le (hc' i hi).1, (hc' i hi).2⟩)
    clear hz hlt hb2 hn' hc' hnn hbb hot how hcell hze hzz own
    have HQ3 : Hid ((w2.alloc (.cells #[.slice none 0 0, .slice none 0 0, .slice none 0 0, .slice none 0 0, .slice none 0 0, .slice none 0 0, .slice none 0 0, .slice none 0 0, .slice none 0 0, .slice none 0 0, .slice none 0 0, .slice none 0 0, .slice none 0 0, .slice none 0 0, .int .i64 0] 37)).heap[w2.heap.size]? = some (.cells #[.slice none 0 0, .slice none 0 0, .slice none 0 0, .slice none 0 0, .slice none 0 0, .slice none 0 0, .slice none 0 0, .slice none 0 0, .slice none 0 0, .slice none 0 0, .slice none 0 0, .slice none 0 0, .slice none 0 0, .slice none 0 0, .int .i64 0] 37 (0, 0))) := Lib.hid (heap_alloc_new _ _)
    obtain ⟨w3, hw3⟩ : ∃ w', w' = (w2.alloc (.cells #[.slice none 0 0, .slice none 0 0, .slice none 0 0, .slice none 0 0, .slice none 0 0, .slice none 0 0, .slice none 0 0, .slice none 0 0, .slice none 0 0, .slice none 0 0, .slice none 0 0, .slice none 0 0, .slice none 0 0, .slice none 0 0, .int .i64 0] 37)).setRow w2.heap.size own2.cells := ⟨_, rfl⟩
    have hb3 : Below w2.heap.size w2 w3 := by rw [hw3]; exact setRow_below ((Below.refl _ _).alloc (Nat.le_refl _) _) (Nat.le_refl _) _
    have HH3 := Lib.hid ((hb3.block _ (lt_of_block HH2.out)).trans HH2.out)
    have HZN3 := Lib.hid ((hb3.block _ (lt_of_block HZN2.out)).trans HZN2.out)
    have HBN3 := Lib.hid ((hb3.block _ (lt_of_block HBN2.out)).trans HBN2.out)
    have B3 := Lib.hid (B2.out.trans (hb3.mono B2.out.size))
    have HT3 := Lib.hid (HT2.out.below hb3)
    have OWN3 := Lib.hid (OWN2.out.below hb3)
    have HBH3 := Lib.hid (HBH2.out.below hb3)
    have HO3 : Hid (w3.heap[w2.heap.size]? = some (.cells own2.cells 37 (0, 0))) := Lib.hid (by rw [hw3]; exact setRow_heap _ _ _ _ _ _ HQ3.out)
    have HW3 := Lib.hid hw3
    clear hb3 hw3
    go_wp2_with (first
      | (refine wpList_store_row rfl 37 (.tmp 7) (.tmp 21) rfl w2.heap.size own2.cells rfl rfl _ _ HQ3.out (HSH.out _) rfl (H1C.out _) ?_; rw [← HW3.out])
      | (refine wpList_load_row rfl 37 (.tmp 7) rfl w2.heap.size rfl _ _ _ _ HO3.out huh rfl (HSH.out _) ?_)
      | (refine wpList_load_row rfl 39 (.tmp 4) rfl (w.heap.size + 1) rfl _ _ _ _ HZN3.out huZone rfl HSZone.out ?_)
      | fail)
    refine (HCO.out.addz own2 L za zb _ OWN3.out (HNO.out 2 (by decide)) (HCP.out 2 (by decide)) HZA.out HZB.out).mono ?_
    intro e w4 ha
    obtain ⟨a, rfl, hat, haz, hb4, hac⟩ := PutP.put (i := 2) (by decide) (zone_fits _ _) (HNO.out 2 (by decide)) OWN3.out ha
    rw [HEz.out]
    have HH4 := Lib.hid ((hb4.block _ (lt_of_block HH3.out)).trans HH3.out)
    have HZN4 := Lib.hid ((hb4.block _ (lt_of_block HZN3.out)).trans HZN3.out)
    have HBN4 := Lib.hid ((hb4.block _ (lt_of_block HBN3.out)).trans HBN3.out)
    have HO4 := Lib.hid ((hb4.block _ (lt_of_block HO3.out)).trans HO3.out)
    have B4 := Lib.hid (B3.out.trans (hb4.mono B3.out.size))
    have HT4 := Lib.hid (HT3.out.below hb4)
    have OWN4 := Lib.hid (OWN3.out.below hb4)
    have HBH4 := Lib.hid (HBH3.out.below hb4)
    have HTa4 := Lib.hid hat
    have HZa := Lib.hid (haz.trans (congrArg _ HZO.out))
    have HACa := Lib.hid hac
    clear ha hat haz hb4 hac
    have HQ5 : Hid ((w4.alloc (.cells #[.slice none 0 0, .slice none 0 0, .slice none 0 0, .slice none 0 0, .slice none 0 0, .slice none 0 0, .slice none 0 0, .slice none 0 0, .slice none 0 0, .slice none 0 0, .slice none 0 0, .slice none 0 0, .slice none 0 0, .slice none 0 0, .int .i64 0] 37)).heap[w4.heap.size]? = some (.cells #[.slice none 0 0, .slice none 0 0, .slice none 0 0, .slice none 0 0, .slice none 0 0, .slice none 0 0, .slice none 0 0, .slice none 0 0, .slice none 0 0, .slice none 0 0, .slice none 0 0, .slice none 0 0, .slice none 0 0, .slice none 0 0, .int .i64 0] 37 (0, 0))) := Lib.hid (heap_alloc_new _ _)
    obtain ⟨w5, hw5⟩ : ∃ w', w' = (w4.alloc (.cells #[.slice none 0 0, .slice none 0 0, .slice none 0 0, .slice none 0 0, .slice none 0 0, .slice none 0 0, .slice none 0 0, .slice none 0 0, .slice none 0 0, .slice none 0 0, .slice none 0 0, .slice none 0 0, .slice none 0 0, .slice none 0 0, .int .i64 0] 37)).setRow w4.heap.size a.cells := ⟨_, rfl⟩
    have hb5 : Below w4.heap.size w4 w5 := by rw [hw5]; exact setRow_below ((Below.refl _ _).alloc (Nat.le_refl _) _) (Nat.le_refl _) _
    have HH5 := Lib.hid ((hb5.block _ (lt_of_block HH4.out)).trans HH4.out)
    have HZN5 := Lib.hid ((hb5.block _ (lt_of_block HZN4.out)).trans HZN4.out)
    have HBN5 := Lib.hid ((hb5.block _ (lt_of_block HBN4.out)).trans HBN4.out)
    have HO5 := Lib.hid ((hb5.block _ (lt_of_block HO4.out)).trans HO4.out)
    have B5 := Lib.hid (B4.out.trans (hb5.mono B4.out.size))
    have HT5 := Lib.hid (HT4.out.below hb5)
    have OWN5 := Lib.hid (OWN4.out.below hb5)
    have HBH5 := Lib.hid (HBH4.out.below hb5)
    have HTa5 := Lib.hid (HTa4.out.below hb5)
    have HA5 : Hid (w5.heap[w4.heap.size]? = some (.cells a.cells 37 (0, 0))) := Lib.hid (by rw [hw5]; exact setRow_heap _ _ _ _ _ _ HQ5.out)
    have HW5 := Lib.hid hw5
    clear hb5 hw5
    go_wp2_with (first
      | (refine wpList_store_row rfl 37 (.tmp 8) (.tmp 26) rfl w4.heap.size a.cells rfl rfl _ _ HQ5.out (HSH.out _) rfl (H1C.out _) ?_; rw [← HW5.out])
      | (refine wpList_load_row rfl 37 (.tmp 3) rfl w.heap.size rfl _ _ _ _ HH5.out huh rfl (HSH.out _) ?_)
      | (refine wpList_load_row rfl 39 (.tmp 4) rfl (w.heap.size + 1) rfl _ _ _ _ HZN5.out huZone rfl HSZone.out ?_)
      | fail)
    refine (raddz_any h L za zb _ HT5.out (HN.out 2 (by decide)) HZA.out HZB.out).mono ?_
    intro e w6 ha
    obtain ⟨b, rfl, hat, haz, hb6, hac⟩ := PutP.put (i := 2) (by decide) (zone_fits _ _) (HN.out 2 (by decide)) HT5.out ha
    rw [HEz.out]
    have HH6 := Lib.hid ((hb6.block _ (lt_of_block HH5.out)).trans HH5.out)
    have HZN6 := Lib.hid ((hb6.block _ (lt_of_block HZN5.out)).trans HZN5.out)
    have HBN6 := Lib.hid ((hb6.block _ (lt_of_block HBN5.out)).trans HBN5.out)
    have HO6 := Lib.hid ((hb6.block _ (lt_of_block HO5.out)).trans HO5.out)
    have HA6 := Lib.hid ((hb6.block _ (lt_of_block HA5.out)).trans HA5.out)
    have B6 := Lib.hid (B5.out.trans (hb6.mono B5.out.size))
    have HT6 := Lib.hid (HT5.out.below hb6)
    have OWN6 := Lib.hid (OWN5.out.below hb6)
    have HBH6 := Lib.hid (HBH5.out.below hb6)
    have HTa6 := Lib.hid (HTa5.out.below hb6)
    have HTb6 := Lib.hid hat
    have HZb := Lib.hid (haz)
    have HACb := Lib.hid hac
    clear ha hat haz hb6 hac
    have HQ7 : Hid ((w6.alloc (.cells #[.slice none 0 0, .slice none 0 0, .slice none 0 0, .slice none 0 0, .slice none 0 0, .slice none 0 0, .slice none 0 0, .slice none 0 0, .slice none 0 0, .slice none 0 0, .slice none 0 0, .slice none 0 0, .slice none 0 0, .slice none 0 0, .int .i64 0] 37)).heap[w6.heap.size]? = some (.cells #[.slice none 0 0, .slice none 0 0, .slice none 0 0, .slice none 0 0, .slice none 0 0, .slice none 0 0, .slice none 0 0, .slice none 0 0, .slice none 0 0, .slice none 0 0, .slice none 0 0, .slice none 0 0, .slice none 0 0, .slice none 0 0, .int .i64 0] 37 (0, 0))) := Lib.hid (heap_alloc_new _ _)
    obtain ⟨w7, hw7⟩ : ∃ w', w' = (w6.alloc (.cells #[.slice none 0 0, .slice none 0 0, .slice none 0 0, .slice none 0 0, .slice none 0 0, .slice none 0 0, .slice none 0 0, .slice none 0 0, .slice none 0 0, .slice none 0 0, .slice none 0 0, .slice none 0 0, .slice none 0 0, .slice none 0 0, .int .i64 0] 37)).setRow w6.heap.size b.cells := ⟨_, rfl⟩
    have hb7 : Below w6.heap.size w6 w7 := by rw [hw7]; exact setRow_below ((Below.refl _ _).alloc (Nat.le_refl _) _) (Nat.le_refl _) _
    have HH7 := Lib.hid ((hb7.block _ (lt_of_block HH6.out)).trans HH6.out)
    have HZN7 := Lib.hid ((hb7.block _ (lt_of_block HZN6.out)).trans HZN6.out)
    have HBN7 := Lib.hid ((hb7.block _ (lt_of_block HBN6.out)).trans HBN6.out)
    have HO7 := Lib.hid ((hb7.block _ (lt_of_block HO6.out)).trans HO6.out)
    have HA7 := Lib.hid ((hb7.block _ (lt_of_block HA6.out)).trans HA6.out)
    have B7 := Lib.hid (B6.out.trans (hb7.mono B6.out.size))
    have HT7 := Lib.hid (HT6.out.below hb7)
    have OWN7 := Lib.hid (OWN6.out.below hb7)
    have HBH7 := Lib.hid (HBH6.out.below hb7)
    have HTa7 := Lib.hid (HTa6.out.below hb7)
    have HTb7 := Lib.hid (HTb6.out.below hb7)
    have HB7 : Hid (w7.heap[w6.heap.size]? = some (.cells b.cells 37 (0, 0))) := Lib.hid (by rw [hw7]; exact setRow_heap _ _ _ _ _ _ HQ7.out)
    have HW7 := Lib.hid hw7
    clear hb7 hw7
    go_wp2_with (first
      | (refine wpList_store_row rfl 37 (.tmp 10) (.tmp 32) rfl w6.heap.size b.cells rfl rfl _ _ HQ7.out (HSH.out _) rfl (H1C.out _) ?_; rw [← HW7.out])
      | (refine wpList_load_row rfl 37 (.tmp 7) rfl w2.heap.size rfl _ _ _ _ HO7.out huh rfl (HSH.out _) ?_)
      | (refine wpList_load_row rfl 41 (.tmp 5) rfl (w.heap.size + 2) rfl _ _ _ _ HBN7.out huBin rfl HSBin.out ?_)
      | fail)
    refine (HCO.out.addb own2 L xc xz kd ai pl vo we fz _ OWN7.out (HNO.out 3 (by decide)) (HCP.out 3 (by decide)) HXC.out).mono ?_
    intro e w8 ha
    obtain ⟨c, rfl, hat, haz, hb8, hac⟩ := PutP.put (i := 3) (by decide) (Bn.fits _) (HNO.out 3 (by decide)) OWN7.out ha
    rw [HEb.out]
    have HH8 := Lib.hid ((hb8.block _ (lt_of_block HH7.out)).trans HH7.out)
    have HZN8 := Lib.hid ((hb8.block _ (lt_of_block HZN7.out)).trans HZN7.out)
    have HBN8 := Lib.hid ((hb8.block _ (lt_of_block HBN7.out)).trans HBN7.out)
    have HO8 := Lib.hid ((hb8.block _ (lt_of_block HO7.out)).trans HO7.out)
    have HA8 := Lib.hid ((hb8.block _ (lt_of_block HA7.out)).trans HA7.out)
    have HB8 := Lib.hid ((hb8.block _ (lt_of_block HB7.out)).trans HB7.out)
    have B8 := Lib.hid (B7.out.trans (hb8.mono B7.out.size))
    have HT8 := Lib.hid (HT7.out.below hb8)
    have OWN8 := Lib.hid (OWN7.out.below hb8)
    have HBH8 := Lib.hid (HBH7.out.below hb8)
    have HTa8 := Lib.hid (HTa7.out.below hb8)
    have HTb8 := Lib.hid (HTb7.out.below hb8)
    have HTc8 := Lib.hid hat
    have HZc := Lib.hid (haz.trans (congrArg _ HZO.out))
    have HACc := Lib.hid hac
    clear ha hat haz hb8 hac
    have HQ9 : Hid ((w8.alloc (.cells #[.slice none 0 0, .slice none 0 0, .slice none 0 0, .slice none 0 0, .slice none 0 0, .slice none 0 0, .slice none 0 0, .slice none 0 0, .slice none 0 0, .slice none 0 0, .slice none 0 0, .slice none 0 0, .slice none 0 0, .slice none 0 0, .int .i64 0] 37)).heap[w8.heap.size]? = some (.cells #[.slice none 0 0, .slice none 0 0, .slice none 0 0, .slice none 0 0, .slice none 0 0, .slice none 0 0, .slice none 0 0, .slice none 0 0, .slice none 0 0, .slice none 0 0, .slice none 0 0, .slice none 0 0, .slice none 0 0, .slice none 0 0, .int .i64 0] 37 (0, 0))) := Lib.hid (heap_alloc_new _ _)
    obtain ⟨w9, hw9⟩ : ∃ w', w' = (w8.alloc (.cells #[.slice none 0 0, .slice none 0 0, .slice none 0 0, .slice none 0 0, .slice none 0 0, .slice none 0 0, .slice none 0 0, .slice none 0 0, .slice none 0 0, .slice none 0 0, .slice none 0 0, .slice none 0 0, .slice none 0 0, .slice none 0 0, .int .i64 0] 37)).setRow w8.heap.size c.cells := ⟨_, rfl⟩
    have hb9 : Below w8.heap.size w8 w9 := by rw [hw9]; exact setRow_below ((Below.refl _ _).alloc (Nat.le_refl _) _) (Nat.le_refl _) _
    have HH9 := Lib.hid ((hb9.block _ (lt_of_block HH8.out)).trans HH8.out)
    have HZN9 := Lib.hid ((hb9.block _ (lt_of_block HZN8.out)).trans HZN8.out)
    have HBN9 := Lib.hid ((hb9.block _ (lt_of_block HBN8.out)).trans HBN8.out)
    have HO9 := Lib.hid ((hb9.block _ (lt_of_block HO8.out)).trans HO8.out)
    have HA9 := Lib.hid ((hb9.block _ (lt_of_block HA8.out)).trans HA8.out)
    have HB9 := Lib.hid ((hb9.block _ (lt_of_block HB8.out)).trans HB8.out)
    have B9 := Lib.hid (B8.out.trans (hb9.mono B8.out.size))
    have HT9 := Lib.hid (HT8.out.below hb9)
    have OWN9 := Lib.hid (OWN8.out.below hb9)
    have HBH9 := Lib.hid (HBH8.out.below hb9)
    have HTa9 := Lib.hid (HTa8.out.below hb9)
    have HTb9 := Lib.hid (HTb8.out.below hb9)
    have HTc9 := Lib.hid (HTc8.out.below hb9)
    have HC9 : Hid (w9.heap[w8.heap.size]? = some (.cells c.cells 37 (0, 0))) := Lib.hid (by rw [hw9]; exact setRow_heap _ _ _ _ _ _ HQ9.out)
    have HW9 := Lib.hid hw9
    clear hb9 hw9
    go_wp2_with (first
      | (refine wpList_store_row rfl 37 (.tmp 12) (.tmp 38) rfl w8.heap.size c.cells rfl rfl _ _ HQ9.out (HSH.out _) rfl (H1C.out _) ?_; rw [← HW9.out])
      | (refine wpList_load_row rfl 37 (.tmp 3) rfl w.heap.size rfl _ _ _ _ HH9.out huh rfl (HSH.out _) ?_)
      | (refine wpList_load_row rfl 41 (.tmp 5) rfl (w.heap.size + 2) rfl _ _ _ _ HBN9.out huBin rfl HSBin.out ?_)
      | fail)
    refine (raddb_any h L xc xz kd ai pl vo we fz _ HT9.out (HN.out 3 (by decide)) HXC.out).mono ?_
    intro e w10 ha
    obtain ⟨d, rfl, hat, haz, hb10, hac⟩ := PutP.put (i := 3) (by decide) (Bn.fits _) (HN.out 3 (by decide)) HT9.out ha
    rw [HEb.out]
    have HH10 := Lib.hid ((hb10.block _ (lt_of_block HH9.out)).trans HH9.out)
    have HZN10 := Lib.hid ((hb10.block _ (lt_of_block HZN9.out)).trans HZN9.out)
    have HBN10 := Lib.hid ((hb10.block _ (lt_of_block HBN9.out)).trans HBN9.out)
    have HO10 := Lib.hid ((hb10.block _ (lt_of_block HO9.out)).trans HO9.out)
    have HA10 := Lib.hid ((hb10.block _ (lt_of_block HA9.out)).trans HA9.out)
    have HB10 := Lib.hid ((hb10.block _ (lt_of_block HB9.out)).trans HB9.out)
    have HC10 := Lib.hid ((hb10.block _ (lt_of_block HC9.out)).trans HC9.out)
    have B10 := Lib.hid (B9.out.trans (hb10.mono B9.out.size))
    have HT10 := Lib.hid (HT9.out.below hb10)
    have OWN10 := Lib.hid (OWN9.out.below hb10)
    have HBH10 := Lib.hid (HBH9.out.below hb10)
    have HTa10 := Lib.hid (HTa9.out.below hb10)
    have HTb10 := Lib.hid (HTb9.out.below hb10)
    have HTc10 := Lib.hid (HTc9.out.below hb10)
    have HTd10 := Lib.hid hat
    have HZd := Lib.hid (haz)
    have HACd := Lib.hid hac
    clear ha hat haz hb10 hac
    have HQ11 : Hid ((w10.alloc (.cells #[.slice none 0 0, .slice none 0 0, .slice none 0 0, .slice none 0 0, .slice none 0 0, .slice none 0 0, .slice none 0 0, .slice none 0 0, .slice none 0 0, .slice none 0 0, .slice none 0 0, .slice none 0 0, .slice none 0 0, .slice none 0 0, .int .i64 0] 37)).heap[w10.heap.size]? = some (.cells #[.slice none 0 0, .slice none 0 0, .slice none 0 0, .slice none 0 0, .slice none 0 0, .slice none 0 0, .slice none 0 0, .slice none 0 0, .slice none 0 0, .slice none 0 0, .slice none 0 0, .slice none 0 0, .slice none 0 0, .slice none 0 0, .int .i64 0] 37 (0, 0))) := Lib.hid (heap_alloc_new _ _)
    obtain ⟨w11, hw11⟩ : ∃ w', w' = (w10.alloc (.cells #[.slice none 0 0, .slice none 0 0, .slice none 0 0, .slice none 0 0, .slice none 0 0, .slice none 0 0, .slice none 0 0, .slice none 0 0, .slice none 0 0, .slice none 0 0, .slice none 0 0, .slice none 0 0, .slice none 0 0, .slice none 0 0, .int .i64 0] 37)).setRow w10.heap.size d.cells := ⟨_, rfl⟩
    have hb11 : Below w10.heap.size w10 w11 := by rw [hw11]; exact setRow_below ((Below.refl _ _).alloc (Nat.le_refl _) _) (Nat.le_refl _) _
    have HH11 := Lib.hid ((hb11.block _ (lt_of_block HH10.out)).trans HH10.out)
    have HZN11 := Lib.hid ((hb11.block _ (lt_of_block HZN10.out)).trans HZN10.out)
    have HBN11 := Lib.hid ((hb11.block _ (lt_of_block HBN10.out)).trans HBN10.out)
    have HO11 := Lib.hid ((hb11.block _ (lt_of_block HO10.out)).trans HO10.out)
    have HA11 := Lib.hid ((hb11.block _ (lt_of_block HA10.out)).trans HA10.out)
    have HB11 := Lib.hid ((hb11.block _ (lt_of_block HB10.out)).trans HB10.out)
    have HC11 := Lib.hid ((hb11.block _ (lt_of_block HC10.out)).trans HC10.out)
    have B11 := Lib.hid (B10.out.trans (hb11.mono B10.out.size))
    have HT11 := Lib.hid (HT10.out.below hb11)
    have OWN11 := Lib.hid (OWN10.out.below hb11)
    have HBH11 := Lib.hid (HBH10.out.below hb11)
    have HTa11 := Lib.hid (HTa10.out.below hb11)
    have HTb11 := Lib.hid (HTb10.out.below hb11)
    have HTc11 := Lib.hid (HTc10.out.below hb11)
    have HTd11 := Lib.hid (HTd10.out.below hb11)
    have HD11 : Hid (w11.heap[w10.heap.size]? = some (.cells d.cells 37 (0, 0))) := Lib.hid (by rw [hw11]; exact setRow_heap _ _ _ _ _ _ HQ11.out)
    have HW11 := Lib.hid hw11
    clear hb11 hw11
    go_wp2_with (first
      | (refine wpList_store_row rfl 37 (.tmp 14) (.tmp 44) rfl w10.heap.size d.cells rfl rfl _ _ HQ11.out (HSH.out _) rfl (H1C.out _) ?_; rw [← HW11.out])
      | (refine BigFrame.wpList_want (by kernel_rfl) (fun K hK => Go.wp_load_mid 37 (.tmp 8) rfl w4.heap.size 0 rfl a.cells.toList _ (range_row0 HA11.out) huh rfl (HSHL.out _) (hK _ _ ?_)); clear hK K)
      | (refine BigFrame.wpList_want (by kernel_rfl) (fun K hK => Go.wp_load_mid 37 (.tmp 10) rfl w6.heap.size 0 rfl b.cells.toList _ (range_row0 HB11.out) huh rfl (HSHL.out _) (hK _ _ ?_)); clear hK K)
      | fail)
    refine (same_true HTa11.out HTb11.out (HZa.out.trans HZb.out.symm)).mono ?_
    rintro e w12 ⟨rfl, hb12⟩
    have HH12 := Lib.hid ((hb12.block _ (lt_of_block HH11.out)).trans HH11.out)
    have HZN12 := Lib.hid ((hb12.block _ (lt_of_block HZN11.out)).trans HZN11.out)
    have HBN12 := Lib.hid ((hb12.block _ (lt_of_block HBN11.out)).trans HBN11.out)
    have HO12 := Lib.hid ((hb12.block _ (lt_of_block HO11.out)).trans HO11.out)
    have HA12 := Lib.hid ((hb12.block _ (lt_of_block HA11.out)).trans HA11.out)
    have HB12 := Lib.hid ((hb12.block _ (lt_of_block HB11.out)).trans HB11.out)
    have HC12 := Lib.hid ((hb12.block _ (lt_of_block HC11.out)).trans HC11.out)
    have HD12 := Lib.hid ((hb12.block _ (lt_of_block HD11.out)).trans HD11.out)
    have B12 := Lib.hid (B11.out.trans (hb12.mono B11.out.size))
    have HT12 := Lib.hid (HT11.out.below hb12)
    have OWN12 := Lib.hid (OWN11.out.below hb12)
    have HBH12 := Lib.hid (HBH11.out.below hb12)
    have HTa12 := Lib.hid (HTa11.out.below hb12)
    have HTb12 := Lib.hid (HTb11.out.below hb12)
    have HTc12 := Lib.hid (HTc11.out.below hb12)
    have HTd12 := Lib.hid (HTd11.out.below hb12)
    clear hb12
    go_wp2_with (first
      | (refine BigFrame.wpList_want (by kernel_rfl) (fun K hK => Go.wp_load_mid 37 (.tmp 12) rfl w8.heap.size 0 rfl c.cells.toList _ (range_row0 HC12.out) huh rfl (HSHL.out _) (hK _ _ ?_)); clear hK K)
      | (refine BigFrame.wpList_want (by kernel_rfl) (fun K hK => Go.wp_load_mid 37 (.tmp 14) rfl w10.heap.size 0 rfl d.cells.toList _ (range_row0 HD12.out) huh rfl (HSHL.out _) (hK _ _ ?_)); clear hK K)
      | fail)
    refine (same_true HTc12.out HTd12.out (HZc.out.trans HZd.out.symm)).mono ?_
    rintro e w13 ⟨rfl, hb13⟩
    have HH13 := Lib.hid ((hb13.block _ (lt_of_block HH12.out)).trans HH12.out)
    have HZN13 := Lib.hid ((hb13.block _ (lt_of_block HZN12.out)).trans HZN12.out)
    have HBN13 := Lib.hid ((hb13.block _ (lt_of_block HBN12.out)).trans HBN12.out)
    have HO13 := Lib.hid ((hb13.block _ (lt_of_block HO12.out)).trans HO12.out)
    have HA13 := Lib.hid ((hb13.block _ (lt_of_block HA12.out)).trans HA12.out)
    have HB13 := Lib.hid ((hb13.block _ (lt_of_block HB12.out)).trans HB12.out)
    have HC13 := Lib.hid ((hb13.block _ (lt_of_block HC12.out)).trans HC12.out)
    have HD13 := Lib.hid ((hb13.block _ (lt_of_block HD12.out)).trans HD12.out)
    have B13 := Lib.hid (B12.out.trans (hb13.mono B12.out.size))
    have HT13 := Lib.hid (HT12.out.below hb13)
    have OWN13 := Lib.hid (OWN12.out.below hb13)
    have HBH13 := Lib.hid (HBH12.out.below hb13)
    have HTa13 := Lib.hid (HTa12.out.below hb13)
    have HTb13 := Lib.hid (HTb12.out.below hb13)
    have HTc13 := Lib.hid (HTc12.out.below hb13)
    have HTd13 := Lib.hid (HTd12.out.below hb13)
    clear hb13
    go_wp2_with (first
      | (refine BigFrame.wpList_want (by kernel_rfl) (fun K hK => Go.wp_load_mid 37 (.tmp 7) rfl w2.heap.size 0 rfl own2.cells.toList _ (range_row0 HO13.out) huh rfl (HSHL.out _) (hK _ _ ?_)); clear hK K)
      | (refine BigFrame.wpList_want (by kernel_rfl) (fun K hK => Go.wp_load_mid 37 (.tmp 3) rfl w.heap.size 0 rfl h.cells.toList _ (range_row0 HH13.out) huh rfl (HSHL.out _) (hK _ _ ?_)); clear hK K)
      | fail)
    refine (kept_true HOW.out HNN.out HCC.out HN6.out HBH13.out OWN13.out HT13.out (by rw [HOW.out]; exact HZZ.out)).mono ?_
    rintro e w14 ⟨rfl, hb14⟩
    have HH14 := Lib.hid ((hb14.block _ (lt_of_block HH13.out)).trans HH13.out)
    have HZN14 := Lib.hid ((hb14.block _ (lt_of_block HZN13.out)).trans HZN13.out)
    have HBN14 := Lib.hid ((hb14.block _ (lt_of_block HBN13.out)).trans HBN13.out)
    have HO14 := Lib.hid ((hb14.block _ (lt_of_block HO13.out)).trans HO13.out)
    have HA14 := Lib.hid ((hb14.block _ (lt_of_block HA13.out)).trans HA13.out)
    have HB14 := Lib.hid ((hb14.block _ (lt_of_block HB13.out)).trans HB13.out)
    have HC14 := Lib.hid ((hb14.block _ (lt_of_block HC13.out)).trans HC13.out)
    have HD14 := Lib.hid ((hb14.block _ (lt_of_block HD13.out)).trans HD13.out)
    have B14 := Lib.hid (B13.out.trans (hb14.mono B13.out.size))
    have HT14 := Lib.hid (HT13.out.below hb14)
    have OWN14 := Lib.hid (OWN13.out.below hb14)
    have HBH14 := Lib.hid (HBH13.out.below hb14)
    have HTa14 := Lib.hid (HTa13.out.below hb14)
    have HTb14 := Lib.hid (HTb13.out.below hb14)
    have HTc14 := Lib.hid (HTc13.out.below hb14)
    have HTd14 := Lib.hid (HTd13.out.below hb14)
    clear hb14
    go_wp2_with fail
    refine (HAW.out _).mono ?_
    rintro e w15 ⟨rfl, hb15⟩
    have HH15 := Lib.hid ((hb15.block _ (lt_of_block HH14.out)).trans HH14.out)
    have HZN15 := Lib.hid ((hb15.block _ (lt_of_block HZN14.out)).trans HZN14.out)
    have HBN15 := Lib.hid ((hb15.block _ (lt_of_block HBN14.out)).trans HBN14.out)
    have HO15 := Lib.hid ((hb15.block _ (lt_of_block HO14.out)).trans HO14.out)
    have HA15 := Lib.hid ((hb15.block _ (lt_of_block HA14.out)).trans HA14.out)
    have HB15 := Lib.hid ((hb15.block _ (lt_of_block HB14.out)).trans HB14.out)
    have HC15 := Lib.hid ((hb15.block _ (lt_of_block HC14.out)).trans HC14.out)
    have HD15 := Lib.hid ((hb15.block _ (lt_of_block HD14.out)).trans HD14.out)
    have B15 := Lib.hid (B14.out.trans (hb15.mono B14.out.size))
    have HT15 := Lib.hid (HT14.out.below hb15)
    have OWN15 := Lib.hid (OWN14.out.below hb15)
    have HBH15 := Lib.hid (HBH14.out.below hb15)
    have HTa15 := Lib.hid (HTa14.out.below hb15)
    have HTb15 := Lib.hid (HTb14.out.below hb15)
    have HTc15 := Lib.hid (HTc14.out.below hb15)
    have HTd15 := Lib.hid (HTd14.out.below hb15)
    clear hb15
    go_wp2_with fail
    go_ret
    exact ⟨rfl, B15.out⟩
theorem walk (C : Cons) (h : Hs) (L : Nat → List (List Value)) (cz : List Value) (cb : List Value) (w : World) (hin : HIn h L w) (fz : Fits kZone cz) (mz : ∀ u ∈ cz, Mild u) (fb : Fits kBin cb) (mb : ∀ u ∈ cb, Mild u) :
    Calls Try.prog 3 #[.agg h.cells, .agg cz.toArray, .agg cb.toArray] w fun e w' => e = .returned (.bool true) ∧ Below w.heap.size w w' := by
  have ez := zone_cells fz
  rw [ez] at mz
  have m1 : (codeOf cz).size ≤ maxLen := mz (.string (codeOf cz)) (by simp)
  have m2 : (siteZ cz).size ≤ maxLen := mz (.string (siteZ cz)) (by simp)
  have eb := bn_cells fb
  rw [eb] at mb
  have m3 : (bnOf cb).code.size ≤ maxLen := mb (.string (bnOf cb).code) (by simp [Bn.cells])
  rw [show cz.toArray = #[.string (codeOf cz), .string (siteZ cz)] from congrArg List.toArray ez, show cb.toArray = (bnOf cb).cells.toArray from congrArg List.toArray eb]
  exact walk0 C h L _ _ _ _ _ _ _ _ _ _ w hin m1 m2 m3
end Go.Proofs.Ytejlpmjgdaippaa.layoutAdds
