/-
  THE LAW LayoutFinds, over the contracts. (By wip/tools/gen_laws10.py.)
-/
import Derived.Test.YtejlpmjgdaippaaYCon
import Derived.Test.YtejlpmjgdaippaaYRow
import Derived.Test.YtejlpmjgdaippaaHSmall
import Derived.Test.YtejlpmjgdaippaaHKept
import Derived.Test.YtejlpmjgdaippaaHBoth
import Derived.Test.YtejlpmjgdaippaaHA
namespace Go.Proofs.Ytejlpmjgdaippaa.layoutFinds
set_option linter.unusedVariables false
open Go.RowKit
open Pl (firstG findG putG)

set_option maxRecDepth 100000 in
set_option maxHeartbeats 6400000 in
theorem walk0 (C : Cons) (h : Hs) (L : Nat → List (List Value)) (s : ByteArray) (on : Bool) (w : World) (hin : HIn h L w)   :
    Calls Try.prog 4 #[.agg h.cells, .string s, .bool on] w fun e w' => e = .returned (.bool true) ∧ Below w.heap.size w w' := by
  have HIN := Lib.hid hin
  have HCO := Lib.hid C
  have HAW : Hid (∀ W, Calls Try.prog 11 #[] W fun e w' => e = .returned (.bool true) ∧ Below W.heap.size W w') := Lib.hid (fun W => awake_any C W)
  obtain ⟨ef, hef⟩ : ∃ r : Int, ((frE (L 3) s on : Nat) : Int) = r := ⟨_, rfl⟩
  have HEf := Lib.hid hef
  obtain ⟨W0, hW0⟩ : ∃ W0, W0 = (w.alloc (.cells h.cells 37)) := ⟨_, rfl⟩
  have B0 : Hid (Below w.heap.size w W0) := Lib.hid (by rw [hW0]; exact (Below.refl _ _).alloc (Nat.le_refl _) _)
  have HH0 : Hid (W0.heap[w.heap.size]? = some (.cells h.cells 37 (0, 0))) := Lib.hid (by
    rw [hW0]
    have hq := heap_alloc_new w (.cells h.cells 37)
    exact by simpa using hq)
  have huh := Try.underlying37
  have HSH : Hid (∀ a : Hs, (Try.prog.info? 37).map (·.size) = some a.cells.size) := Lib.hid (fun a => by kernel_rfl)
  have HSHL : Hid (∀ a : Hs, (Try.prog.info? 37).map (·.size) = some a.cells.toList.length) := Lib.hid (fun a => by kernel_rfl)
  have H1C : Hid (∀ a : Hs, a.cells.all (·.oneCell') = true) := Lib.hid (fun a => by simp [Hs.cells, Value.oneCell'])
  have huZone := Try.underlying39
  have HSZone : Hid ((Try.prog.info? 39).map (·.size) = some 2) := Lib.hid (by kernel_rfl)
  have huBin := Try.underlying41
  have HSBin : Hid ((Try.prog.info? 41).map (·.size) = some 8) := Lib.hid (by kernel_rfl)
  clear hin   hef
  subst hW0
  go_enter Try.func4, Try.ntmps4
  go_wp2_with (first
    | (refine wpList_load_row rfl 37 (.tmp 3) rfl w.heap.size rfl _ _ _ _ HH0.out huh rfl (HSH.out _) ?_)
    | fail)
  refine (small_calls h _).mono ?_
  rintro e w1 ⟨⟨b, rfl, hb⟩, hb1⟩
  have HH1 := Lib.hid ((hb1.block _ (lt_of_block HH0.out)).trans HH0.out)
  have B1 := Lib.hid (B0.out.trans (hb1.mono B0.out.size))
  clear hb1
  cases b with
  | false =>
    clear hb
    go_wp2_with fail
    refine (HAW.out _).mono ?_
    rintro e w2 ⟨rfl, hb2⟩
    have HB2 := Lib.hid (B1.out.trans (hb2.mono B1.out.size))
    clear hb2
    go_wp2_with fail
    go_ret
    exact ⟨rfl, HB2.out⟩
  | true =>
    have HSM := Lib.hid (hb.1 rfl)
    clear hb
    have HT1 : Hid (HT h L w1) := Lib.hid (HIN.out.ht HSM.out B1.out)
    have HN : Hid (∀ i, i < 14 → h.n i ≤ 1000) := Lib.hid (fun i hi => Nat.le_trans (HSM.out i hi) (cap_le i hi))
    go_wp2_with (first
      | (refine wpList_load_row rfl 37 (.tmp 3) rfl w.heap.size rfl _ _ _ _ HH1.out huh rfl (HSH.out _) ?_)
      | fail)
    refine (lents_calls h L _ HT1.out HN.out).mono ?_
    rintro e w2 ⟨own, rfl, hz, hlt, hb2⟩
    obtain ⟨gg, n, c, z, hcell, hze, hn', hc', hnn, hbb, hot⟩ := lent_own hlt HT1.out (fun i hi => HSM.out i hi)
    have HH2 := Lib.hid ((hb2.block _ (lt_of_block HH1.out)).trans HH1.out)
    have B2 := Lib.hid (B1.out.trans (hb2.mono B1.out.size))
    have HT2 := Lib.hid (HT1.out.below hb2)
    have hzz : z = h.z := hze.trans hz
    obtain ⟨own2, how⟩ : ∃ o, o = Hs.mk (fun i => some ⟨gg i, 0, none⟩) n c z := ⟨_, rfl⟩
    rw [show own.val = .agg own2.cells from by rw [Hs.val_cells, hcell, how]]
    rw [← how] at hot
    have HOW := Lib.hid how
    have OWN2 := Lib.hid hot
    have HNN := Lib.hid hn'
    have HCC := Lib.hid hc'
    have HN6 := Lib.hid hnn
    have HBH2 : Hid (KB gg n w2) := Lib.hid hbb
    have HZZ := Lib.hid hzz
    have HZO : Hid (own2.z = h.z) := Lib.hid (by rw [how]; exact hzz)
    have HNO : Hid (∀ i, i < 14 → own2.n i ≤ 1000) := Lib.hid (by rw [how]; exact hnn)
    have HCP : Hid (Caps own2) := Lib.hid (by rw [how]; exact fun i hi => ⟨Nat.le_of_succ_le (hc' i hi).1, (hc' i hi).2⟩)
    clear hz hlt hb2 hn' hc' hnn hbb hot how hcell hze hzz own
    have HQ3 : Hid ((w2.alloc (.cells #[.slice none 0 0, .slice none 0 0, .slice none 0 0, .slice none 0 0, .slice none 0 0, .slice none 0 0, .slice none 0 0, .slice none 0 0, .slice none 0 0, .slice none 0 0, .slice none 0 0, .slice none 0 0, .slice none 0 0, .slice none 0 0, .int .i64 0] 37)).heap[w2.heap.size]? = some (.cells #[.slice none 0 0, .slice none 0 0, .slice none 0 0, .slice none 0 0, .slice none 0 0, .slice none 0 0, .slice none 0 0, .slice none 0 0, .slice none 0 0, .slice none 0 0, .slice none 0 0, .slice none 0 0, .slice none 0 0, .slice none 0 0, .int .i64 0] 37 (0, 0))) := Lib.hid (heap_alloc_new _ _)
    obtain ⟨w3, hw3⟩ : ∃ w', w' = (w2.alloc (.cells #[.slice none 0 0, .slice none 0 0, .slice none 0 0, .slice none 0 0, .slice none 0 0, .slice none 0 0, .slice none 0 0, .slice none 0 0, .slice none 0 0, .slice none 0 0, .slice none 0 0, .slice none 0 0, .slice none 0 0, .slice none 0 0, .int .i64 0] 37)).setRow w2.heap.size own2.cells := ⟨_, rfl⟩
    have hb3 : Below w2.heap.size w2 w3 := by rw [hw3]; exact setRow_below ((Below.refl _ _).alloc (Nat.le_refl _) _) (Nat.le_refl _) _
    have HH3 := Lib.hid ((hb3.block _ (lt_of_block HH2.out)).trans HH2.out)
    have B3 := Lib.hid (B2.out.trans (hb3.mono B2.out.size))
    have HT3 := Lib.hid (HT2.out.below hb3)
    have OWN3 := Lib.hid (OWN2.out.below hb3)
    have HBH3 := Lib.hid (HBH2.out.below hb3)
    have HO3 : Hid (w3.heap[w2.heap.size]? = some (.cells own2.cells 37 (0, 0))) := Lib.hid (by rw [hw3]; exact setRow_heap _ _ _ _ _ _ HQ3.out)
    have HW3 := Lib.hid hw3
    clear hb3 hw3
    have HGF := Lib.hid (gotBin_fits (HIN.out.t 3 (by decide)) s)
    obtain ⟨il, hil⟩ : ∃ q, (atBin (L 3) s).isSome = q := ⟨_, rfl⟩
    obtain ⟨g, hg⟩ : ∃ g, gotBin (L 3) s = g := ⟨_, rfl⟩
    rw [hg] at HGF
    have CF1 : Hid (∀ W, HT own2 L W → Calls Try.prog 19 #[.agg own2.cells, .string s] W fun e w' => e = .returned (.tuple #[.agg g.toArray, .bool il]) ∧ Below W.heap.size W w') := Lib.hid (fun W hW => by have := HCO.out.find own2 L s W hW; rwa [hg, hil] at this)
    have CF2 : Hid (∀ W, HT h L W → Calls Try.prog 20 #[.agg h.cells, .string s] W fun e w' => e = .returned (.tuple #[.agg g.toArray, .bool il]) ∧ Below W.heap.size W w') := Lib.hid (fun W hW => by have := frBin hW s; rwa [hg, hil] at this)
    clear hg hil
    go_wp2_with (first
      | (refine wpList_store_row rfl 37 (.tmp 7) (.tmp 21) rfl w2.heap.size own2.cells rfl rfl _ _ HQ3.out (HSH.out _) rfl (H1C.out _) ?_; rw [← HW3.out])
      | (refine wpList_load_row rfl 37 (.tmp 7) rfl w2.heap.size rfl _ _ _ _ HO3.out huh rfl (HSH.out _) ?_)
      | fail)
    refine (CF1.out _ OWN3.out).mono ?_
    rintro e w4 ⟨rfl, hb4⟩
    have HH4 := Lib.hid ((hb4.block _ (lt_of_block HH3.out)).trans HH3.out)
    have HO4 := Lib.hid ((hb4.block _ (lt_of_block HO3.out)).trans HO3.out)
    have B4 := Lib.hid (B3.out.trans (hb4.mono B3.out.size))
    have HT4 := Lib.hid (HT3.out.below hb4)
    have OWN4 := Lib.hid (OWN3.out.below hb4)
    have HBH4 := Lib.hid (HBH3.out.below hb4)
    clear hb4
    have HQ5 : Hid ((w4.alloc (.cells #[.string ⟨#[]⟩, .string ⟨#[]⟩, .int .i64 0, .int .i64 0, .int .i64 0, .int .i64 0, .int .i64 0, .bool false] 41)).heap[w4.heap.size]? = some (.cells #[.string ⟨#[]⟩, .string ⟨#[]⟩, .int .i64 0, .int .i64 0, .int .i64 0, .int .i64 0, .int .i64 0, .bool false] 41 (0, 0))) := Lib.hid (heap_alloc_new _ _)
    have HFHGA := Lib.hid (HGF.out)
    have HLHGA : Hid ((Try.prog.info? 41).map (·.size) = some g.length) := Lib.hid (by rw [show (Try.prog.info? 41).map (·.size) = some 8 from by kernel_rfl, HFHGA.out.length]; rfl)
    have HAHGA : Hid ((Try.prog.info? 41).map (·.size) = some g.toArray.size) := Lib.hid (by have := HLHGA.out; rwa [← List.size_toArray] at this)
    have HZHGA : Hid ((#[.string ⟨#[]⟩, .string ⟨#[]⟩, .int .i64 0, .int .i64 0, .int .i64 0, .int .i64 0, .int .i64 0, .bool false] : Array Value).size = g.toArray.size) := Lib.hid (by rw [List.size_toArray, List.size_toArray, HFHGA.out.length]; rfl)
    have HOHGA : Hid (g.toArray.all (·.oneCell') = true) := Lib.hid (all_oneCell_toArray (fits_one HFHGA.out))
    obtain ⟨w5, hw5⟩ : ∃ w', w' = (w4.alloc (.cells #[.string ⟨#[]⟩, .string ⟨#[]⟩, .int .i64 0, .int .i64 0, .int .i64 0, .int .i64 0, .int .i64 0, .bool false] 41)).setRow w4.heap.size g.toArray := ⟨_, rfl⟩
    have hb5 : Below w4.heap.size w4 w5 := by rw [hw5]; exact setRow_below ((Below.refl _ _).alloc (Nat.le_refl _) _) (Nat.le_refl _) _
    have HH5 := Lib.hid ((hb5.block _ (lt_of_block HH4.out)).trans HH4.out)
    have HO5 := Lib.hid ((hb5.block _ (lt_of_block HO4.out)).trans HO4.out)
    have B5 := Lib.hid (B4.out.trans (hb5.mono B4.out.size))
    have HT5 := Lib.hid (HT4.out.below hb5)
    have OWN5 := Lib.hid (OWN4.out.below hb5)
    have HBH5 := Lib.hid (HBH4.out.below hb5)
    have HGA5 : Hid (w5.heap[w4.heap.size]? = some (.cells g.toArray 41 (0, 0))) := Lib.hid (by rw [hw5]; exact setRow_heap _ _ _ _ _ _ HQ5.out)
    have HW5 := Lib.hid hw5
    clear hb5 hw5
    go_wp2_with (first
      | (refine wpList_store_row rfl 41 (.tmp 8) (.tmp 26) rfl w4.heap.size g.toArray rfl rfl _ _ HQ5.out HAHGA.out HZHGA.out HOHGA.out ?_; rw [← HW5.out])
      | (refine wpList_load_row rfl 37 (.tmp 3) rfl w.heap.size rfl _ _ _ _ HH5.out huh rfl (HSH.out _) ?_)
      | fail)
    refine (CF2.out _ HT5.out).mono ?_
    rintro e w6 ⟨rfl, hb6⟩
    have HH6 := Lib.hid ((hb6.block _ (lt_of_block HH5.out)).trans HH5.out)
    have HO6 := Lib.hid ((hb6.block _ (lt_of_block HO5.out)).trans HO5.out)
    have HGA6 := Lib.hid ((hb6.block _ (lt_of_block HGA5.out)).trans HGA5.out)
    have B6 := Lib.hid (B5.out.trans (hb6.mono B5.out.size))
    have HT6 := Lib.hid (HT5.out.below hb6)
    have OWN6 := Lib.hid (OWN5.out.below hb6)
    have HBH6 := Lib.hid (HBH5.out.below hb6)
    clear hb6
    have HQ7 : Hid ((w6.alloc (.cells #[.string ⟨#[]⟩, .string ⟨#[]⟩, .int .i64 0, .int .i64 0, .int .i64 0, .int .i64 0, .int .i64 0, .bool false] 41)).heap[w6.heap.size]? = some (.cells #[.string ⟨#[]⟩, .string ⟨#[]⟩, .int .i64 0, .int .i64 0, .int .i64 0, .int .i64 0, .int .i64 0, .bool false] 41 (0, 0))) := Lib.hid (heap_alloc_new _ _)
    have HFHGB := Lib.hid (HGF.out)
    have HLHGB : Hid ((Try.prog.info? 41).map (·.size) = some g.length) := Lib.hid (by rw [show (Try.prog.info? 41).map (·.size) = some 8 from by kernel_rfl, HFHGB.out.length]; rfl)
    have HAHGB : Hid ((Try.prog.info? 41).map (·.size) = some g.toArray.size) := Lib.hid (by have := HLHGB.out; rwa [← List.size_toArray] at this)
    have HZHGB : Hid ((#[.string ⟨#[]⟩, .string ⟨#[]⟩, .int .i64 0, .int .i64 0, .int .i64 0, .int .i64 0, .int .i64 0, .bool false] : Array Value).size = g.toArray.size) := Lib.hid (by rw [List.size_toArray, List.size_toArray, HFHGB.out.length]; rfl)
    have HOHGB : Hid (g.toArray.all (·.oneCell') = true) := Lib.hid (all_oneCell_toArray (fits_one HFHGB.out))
    obtain ⟨w7, hw7⟩ : ∃ w', w' = (w6.alloc (.cells #[.string ⟨#[]⟩, .string ⟨#[]⟩, .int .i64 0, .int .i64 0, .int .i64 0, .int .i64 0, .int .i64 0, .bool false] 41)).setRow w6.heap.size g.toArray := ⟨_, rfl⟩
    have hb7 : Below w6.heap.size w6 w7 := by rw [hw7]; exact setRow_below ((Below.refl _ _).alloc (Nat.le_refl _) _) (Nat.le_refl _) _
    have HH7 := Lib.hid ((hb7.block _ (lt_of_block HH6.out)).trans HH6.out)
    have HO7 := Lib.hid ((hb7.block _ (lt_of_block HO6.out)).trans HO6.out)
    have HGA7 := Lib.hid ((hb7.block _ (lt_of_block HGA6.out)).trans HGA6.out)
    have B7 := Lib.hid (B6.out.trans (hb7.mono B6.out.size))
    have HT7 := Lib.hid (HT6.out.below hb7)
    have OWN7 := Lib.hid (OWN6.out.below hb7)
    have HBH7 := Lib.hid (HBH6.out.below hb7)
    have HGB7 : Hid (w7.heap[w6.heap.size]? = some (.cells g.toArray 41 (0, 0))) := Lib.hid (by rw [hw7]; exact setRow_heap _ _ _ _ _ _ HQ7.out)
    have HW7 := Lib.hid hw7
    clear hb7 hw7
    go_wp2_with (first
      | (refine wpList_store_row rfl 41 (.tmp 10) (.tmp 32) rfl w6.heap.size g.toArray rfl rfl _ _ HQ7.out HAHGB.out HZHGB.out HOHGB.out ?_; rw [← HW7.out])
      | (refine wpList_load_row rfl 37 (.tmp 7) rfl w2.heap.size rfl _ _ _ _ HO7.out huh rfl (HSH.out _) ?_)
      | fail)
    refine (HCO.out.freeze own2 L s on _ OWN7.out (HNO.out 3 (by decide)) (HCP.out 3 (by decide)) ).mono ?_
    intro e w8 ha
    obtain ⟨a, rfl, hat, haz, hb8, hac⟩ := PutP.put (i := 3) (by decide) (Bn.fits _) (HNO.out 3 (by decide)) OWN7.out ha
    rw [HEf.out]
    have HH8 := Lib.hid ((hb8.block _ (lt_of_block HH7.out)).trans HH7.out)
    have HO8 := Lib.hid ((hb8.block _ (lt_of_block HO7.out)).trans HO7.out)
    have HGA8 := Lib.hid ((hb8.block _ (lt_of_block HGA7.out)).trans HGA7.out)
    have HGB8 := Lib.hid ((hb8.block _ (lt_of_block HGB7.out)).trans HGB7.out)
    have B8 := Lib.hid (B7.out.trans (hb8.mono B7.out.size))
    have HT8 := Lib.hid (HT7.out.below hb8)
    have OWN8 := Lib.hid (OWN7.out.below hb8)
    have HBH8 := Lib.hid (HBH7.out.below hb8)
    have HTa8 := Lib.hid hat
    have HZa := Lib.hid (haz.trans (congrArg _ HZO.out))
    have HACa := Lib.hid hac
    clear ha hat haz hb8 hac
    have HQ9 : Hid ((w8.alloc (.cells #[.slice none 0 0, .slice none 0 0, .slice none 0 0, .slice none 0 0, .slice none 0 0, .slice none 0 0, .slice none 0 0, .slice none 0 0, .slice none 0 0, .slice none 0 0, .slice none 0 0, .slice none 0 0, .slice none 0 0, .slice none 0 0, .int .i64 0] 37)).heap[w8.heap.size]? = some (.cells #[.slice none 0 0, .slice none 0 0, .slice none 0 0, .slice none 0 0, .slice none 0 0, .slice none 0 0, .slice none 0 0, .slice none 0 0, .slice none 0 0, .slice none 0 0, .slice none 0 0, .slice none 0 0, .slice none 0 0, .slice none 0 0, .int .i64 0] 37 (0, 0))) := Lib.hid (heap_alloc_new _ _)
    obtain ⟨w9, hw9⟩ : ∃ w', w' = (w8.alloc (.cells #[.slice none 0 0, .slice none 0 0, .slice none 0 0, .slice none 0 0, .slice none 0 0, .slice none 0 0, .slice none 0 0, .slice none 0 0, .slice none 0 0, .slice none 0 0, .slice none 0 0, .slice none 0 0, .slice none 0 0, .slice none 0 0, .int .i64 0] 37)).setRow w8.heap.size a.cells := ⟨_, rfl⟩
    have hb9 : Below w8.heap.size w8 w9 := by rw [hw9]; exact setRow_below ((Below.refl _ _).alloc (Nat.le_refl _) _) (Nat.le_refl _) _
    have HH9 := Lib.hid ((hb9.block _ (lt_of_block HH8.out)).trans HH8.out)
    have HO9 := Lib.hid ((hb9.block _ (lt_of_block HO8.out)).trans HO8.out)
    have HGA9 := Lib.hid ((hb9.block _ (lt_of_block HGA8.out)).trans HGA8.out)
    have HGB9 := Lib.hid ((hb9.block _ (lt_of_block HGB8.out)).trans HGB8.out)
    have B9 := Lib.hid (B8.out.trans (hb9.mono B8.out.size))
    have HT9 := Lib.hid (HT8.out.below hb9)
    have OWN9 := Lib.hid (OWN8.out.below hb9)
    have HBH9 := Lib.hid (HBH8.out.below hb9)
    have HTa9 := Lib.hid (HTa8.out.below hb9)
    have HA9 : Hid (w9.heap[w8.heap.size]? = some (.cells a.cells 37 (0, 0))) := Lib.hid (by rw [hw9]; exact setRow_heap _ _ _ _ _ _ HQ9.out)
    have HW9 := Lib.hid hw9
    clear hb9 hw9
    go_wp2_with (first
      | (refine wpList_store_row rfl 37 (.tmp 12) (.tmp 39) rfl w8.heap.size a.cells rfl rfl _ _ HQ9.out (HSH.out _) rfl (H1C.out _) ?_; rw [← HW9.out])
      | (refine wpList_load_row rfl 37 (.tmp 3) rfl w.heap.size rfl _ _ _ _ HH9.out huh rfl (HSH.out _) ?_)
      | fail)
    refine (rfreeze_any h L s on _ HT9.out (HN.out 3 (by decide)) ).mono ?_
    intro e w10 ha
    obtain ⟨b, rfl, hat, haz, hb10, hac⟩ := PutP.put (i := 3) (by decide) (Bn.fits _) (HN.out 3 (by decide)) HT9.out ha
    rw [HEf.out]
    have HH10 := Lib.hid ((hb10.block _ (lt_of_block HH9.out)).trans HH9.out)
    have HO10 := Lib.hid ((hb10.block _ (lt_of_block HO9.out)).trans HO9.out)
    have HGA10 := Lib.hid ((hb10.block _ (lt_of_block HGA9.out)).trans HGA9.out)
    have HGB10 := Lib.hid ((hb10.block _ (lt_of_block HGB9.out)).trans HGB9.out)
    have HA10 := Lib.hid ((hb10.block _ (lt_of_block HA9.out)).trans HA9.out)
    have B10 := Lib.hid (B9.out.trans (hb10.mono B9.out.size))
    have HT10 := Lib.hid (HT9.out.below hb10)
    have OWN10 := Lib.hid (OWN9.out.below hb10)
    have HBH10 := Lib.hid (HBH9.out.below hb10)
    have HTa10 := Lib.hid (HTa9.out.below hb10)
    have HTb10 := Lib.hid hat
    have HZb := Lib.hid (haz)
    have HACb := Lib.hid hac
    clear ha hat haz hb10 hac
    have HQ11 : Hid ((w10.alloc (.cells #[.slice none 0 0, .slice none 0 0, .slice none 0 0, .slice none 0 0, .slice none 0 0, .slice none 0 0, .slice none 0 0, .slice none 0 0, .slice none 0 0, .slice none 0 0, .slice none 0 0, .slice none 0 0, .slice none 0 0, .slice none 0 0, .int .i64 0] 37)).heap[w10.heap.size]? = some (.cells #[.slice none 0 0, .slice none 0 0, .slice none 0 0, .slice none 0 0, .slice none 0 0, .slice none 0 0, .slice none 0 0, .slice none 0 0, .slice none 0 0, .slice none 0 0, .slice none 0 0, .slice none 0 0, .slice none 0 0, .slice none 0 0, .int .i64 0] 37 (0, 0))) := Lib.hid (heap_alloc_new _ _)
    obtain ⟨w11, hw11⟩ : ∃ w', w' = (w10.alloc (.cells #[.slice none 0 0, .slice none 0 0, .slice none 0 0, .slice none 0 0, .slice none 0 0, .slice none 0 0, .slice none 0 0, .slice none 0 0, .slice none 0 0, .slice none 0 0, .slice none 0 0, .slice none 0 0, .slice none 0 0, .slice none 0 0, .int .i64 0] 37)).setRow w10.heap.size b.cells := ⟨_, rfl⟩
    have hb11 : Below w10.heap.size w10 w11 := by rw [hw11]; exact setRow_below ((Below.refl _ _).alloc (Nat.le_refl _) _) (Nat.le_refl _) _
    have HH11 := Lib.hid ((hb11.block _ (lt_of_block HH10.out)).trans HH10.out)
    have HO11 := Lib.hid ((hb11.block _ (lt_of_block HO10.out)).trans HO10.out)
    have HGA11 := Lib.hid ((hb11.block _ (lt_of_block HGA10.out)).trans HGA10.out)
    have HGB11 := Lib.hid ((hb11.block _ (lt_of_block HGB10.out)).trans HGB10.out)
    have HA11 := Lib.hid ((hb11.block _ (lt_of_block HA10.out)).trans HA10.out)
    have B11 := Lib.hid (B10.out.trans (hb11.mono B10.out.size))
    have HT11 := Lib.hid (HT10.out.below hb11)
    have OWN11 := Lib.hid (OWN10.out.below hb11)
    have HBH11 := Lib.hid (HBH10.out.below hb11)
    have HTa11 := Lib.hid (HTa10.out.below hb11)
    have HTb11 := Lib.hid (HTb10.out.below hb11)
    have HB11 : Hid (w11.heap[w10.heap.size]? = some (.cells b.cells 37 (0, 0))) := Lib.hid (by rw [hw11]; exact setRow_heap _ _ _ _ _ _ HQ11.out)
    have HW11 := Lib.hid hw11
    clear hb11 hw11
    obtain ⟨r, hr⟩ : ∃ r, siteT (L 2) (L 3) s = r := ⟨_, rfl⟩
    go_wp2_with (first
      | (refine wpList_store_row rfl 37 (.tmp 14) (.tmp 46) rfl w10.heap.size b.cells rfl rfl _ _ HQ11.out (HSH.out _) rfl (H1C.out _) ?_; rw [← HW11.out])
      | fail)
    have heq := fun W => eql_same (P := Try.prog) eqBin (by decide) g W HGF.out
    have RHH : Hid (∀ X : BW w11, X.W.heap[w.heap.size]? = some (.cells h.cells 37 (0, 0))) := Lib.hid (fun X => (X.h.block _ (lt_of_block HH11.out)).trans HH11.out)
    have RHO : Hid (∀ X : BW w11, X.W.heap[w2.heap.size]? = some (.cells own2.cells 37 (0, 0))) := Lib.hid (fun X => (X.h.block _ (lt_of_block HO11.out)).trans HO11.out)
    have RHGA : Hid (∀ X : BW w11, X.W.heap[w4.heap.size]? = some (.cells g.toArray 41 (0, 0))) := Lib.hid (fun X => (X.h.block _ (lt_of_block HGA11.out)).trans HGA11.out)
    have RHGB : Hid (∀ X : BW w11, X.W.heap[w6.heap.size]? = some (.cells g.toArray 41 (0, 0))) := Lib.hid (fun X => (X.h.block _ (lt_of_block HGB11.out)).trans HGB11.out)
    have RHA : Hid (∀ X : BW w11, X.W.heap[w8.heap.size]? = some (.cells a.cells 37 (0, 0))) := Lib.hid (fun X => (X.h.block _ (lt_of_block HA11.out)).trans HA11.out)
    have RHB : Hid (∀ X : BW w11, X.W.heap[w10.heap.size]? = some (.cells b.cells 37 (0, 0))) := Lib.hid (fun X => (X.h.block _ (lt_of_block HB11.out)).trans HB11.out)
    have C1 : Hid (∀ X : BW w11, Calls Try.prog 23 #[.agg own2.cells, .string s] X.W fun e w' => e = .returned (.string r) ∧ Below X.W.heap.size X.W w') := Lib.hid (fun X => by rw [← hr]; exact HCO.out.site own2 L s X.W (OWN11.out.below X.h))
    have C2 : Hid (∀ X : BW w11, Calls Try.prog 24 #[.agg h.cells, .string s] X.W fun e w' => e = .returned (.string r) ∧ Below X.W.heap.size X.W w') := Lib.hid (fun X => by rw [← hr]; exact rsite_any h L s X.W (HT11.out.below X.h))
    have SA : Hid (∀ X : BW w11, Calls Try.prog 17 #[.agg a.cells, .agg b.cells] X.W fun e w' => e = .returned (.bool true) ∧ Below X.W.heap.size X.W w') := Lib.hid (fun X => same_true (HTa11.out.below X.h) (HTb11.out.below X.h) (HZa.out.trans HZb.out.symm))
    have SK : Hid (∀ X : BW w11, Calls Try.prog 18 #[.agg own2.cells, .agg h.cells] X.W fun e w' => e = .returned (.bool true) ∧ Below X.W.heap.size X.W w') := Lib.hid (fun X => kept_true HOW.out HNN.out HCC.out HN6.out (HBH11.out.below X.h) (OWN11.out.below X.h) (HT11.out.below X.h) (by rw [HOW.out]; exact HZZ.out))
    clear hr
    refine wp_grow w11 (by kernel_rfl) (by kernel_rfl) (Below.refl _ _) ?_
    simp only []
    refine BigFrame.wpQuiet_want (by kernel_rfl) (fun K hK => quiet_load_mid 41 (.tmp 8) rfl w4.heap.size 0 rfl g _ (fun W ⟨X, hX⟩ => by rw [hX]; exact range_row0 (RHGA.out X)) huBin rfl HLHGA.out (hK _ ?_))
    simp only [Act.put, List.setIfInBounds_toArray, List.set_cons_zero, List.set_cons_succ]
    refine BigFrame.wpQuiet_want (by kernel_rfl) (fun K hK => quiet_load_mid 41 (.tmp 10) rfl w6.heap.size 0 rfl g _ (fun W ⟨X, hX⟩ => by rw [hX]; exact range_row0 (RHGB.out X)) huBin rfl HLHGB.out (hK _ ?_))
    simp only [Act.put, List.setIfInBounds_toArray, List.set_cons_zero, List.set_cons_succ]
    iterate 7 go_big_quiet_step (fail)
    refine BigFrame.wpQuiet_want (by kernel_rfl) (fun K hK => quiet_load_mid 37 (.tmp 7) rfl w2.heap.size 0 rfl own2.cells.toList _ (fun W ⟨X, hX⟩ => by rw [hX]; exact range_row0 (RHO.out X)) huh rfl (HSHL.out _) (hK _ ?_))
    simp only [Act.put, List.setIfInBounds_toArray, List.set_cons_zero, List.set_cons_succ, Array.toArray_toList]
    go_big_quiet_step (fail)
    go_big_quiet_step (exact grow_call _ (C1.out _))
    refine BigFrame.wpQuiet_want (by kernel_rfl) (fun K hK => quiet_load_mid 37 (.tmp 3) rfl w.heap.size 0 rfl h.cells.toList _ (fun W ⟨X, hX⟩ => by rw [hX]; exact range_row0 (RHH.out X)) huh rfl (HSHL.out _) (hK _ ?_))
    simp only [Act.put, List.setIfInBounds_toArray, List.set_cons_zero, List.set_cons_succ, Array.toArray_toList]
    go_big_quiet_step (fail)
    go_big_quiet_step (exact grow_call _ (C2.out _))
    iterate 8 go_big_quiet_step (fail)
    refine BigFrame.wpQuiet_want (by kernel_rfl) (fun K hK => quiet_load_mid 37 (.tmp 12) rfl w8.heap.size 0 rfl a.cells.toList _ (fun W ⟨X, hX⟩ => by rw [hX]; exact range_row0 (RHA.out X)) huh rfl (HSHL.out _) (hK _ ?_))
    simp only [Act.put, List.setIfInBounds_toArray, List.set_cons_zero, List.set_cons_succ, Array.toArray_toList]
    refine BigFrame.wpQuiet_want (by kernel_rfl) (fun K hK => quiet_load_mid 37 (.tmp 14) rfl w10.heap.size 0 rfl b.cells.toList _ (fun W ⟨X, hX⟩ => by rw [hX]; exact range_row0 (RHB.out X)) huh rfl (HSHL.out _) (hK _ ?_))
    simp only [Act.put, List.setIfInBounds_toArray, List.set_cons_zero, List.set_cons_succ, Array.toArray_toList]
    go_big_quiet_step (exact grow_call _ (SA.out _))
    iterate 2 go_big_quiet_step (fail)
    refine BigFrame.wpQuiet_want (by kernel_rfl) (fun K hK => quiet_load_mid 37 (.tmp 7) rfl w2.heap.size 0 rfl own2.cells.toList _ (fun W ⟨X, hX⟩ => by rw [hX]; exact range_row0 (RHO.out X)) huh rfl (HSHL.out _) (hK _ ?_))
    simp only [Act.put, List.setIfInBounds_toArray, List.set_cons_zero, List.set_cons_succ, Array.toArray_toList]
    refine BigFrame.wpQuiet_want (by kernel_rfl) (fun K hK => quiet_load_mid 37 (.tmp 3) rfl w.heap.size 0 rfl h.cells.toList _ (fun W ⟨X, hX⟩ => by rw [hX]; exact range_row0 (RHH.out X)) huh rfl (HSHL.out _) (hK _ ?_))
    simp only [Act.put, List.setIfInBounds_toArray, List.set_cons_zero, List.set_cons_succ, Array.toArray_toList]
    go_big_quiet_step (exact grow_call _ (SK.out _))
    iterate 2 go_big_quiet_step (fail)
    go_big_quiet_step (exact grow_call _ (HAW.out _))
    iterate 2 go_big_quiet_step (fail)
    refine wpQuiet_nil ?_
    intro X
    go_wp2_with fail
    go_ret
    exact ⟨rfl, B11.out.trans (X.h.mono B11.out.size)⟩
theorem walk (C : Cons) (h : Hs) (L : Nat → List (List Value)) (s : ByteArray) (on : Bool) (w : World) (hin : HIn h L w) (hs : s.size ≤ 140737488351232) :
    Calls Try.prog 4 #[.agg h.cells, .string s, .bool on] w fun e w' => e = .returned (.bool true) ∧ Below w.heap.size w w' := walk0 C h L s on w hin
end Go.Proofs.Ytejlpmjgdaippaa.layoutFinds
