/-
  THE LAW StockMoves, over the contracts. (By wip/tools/gen_laws12.py.)
-/
import Derived.Test.YtjacodbmmhnopaaGreatQCon
import Derived.Test.YtjacodbmmhnopaaGreatQRow
import Derived.Test.YtjacodbmmhnopaaGreatHSmall
import Derived.Test.YtjacodbmmhnopaaGreatHKept
import Derived.Test.YtjacodbmmhnopaaGreatHBoth
import Derived.Test.YtjacodbmmhnopaaGreatHA
import Derived.Test.YtjacodbmmhnopaaGreatQMv
import Derived.Deep.RegionHeld3
namespace Go.Proofs.YtjacodbmmhnopaaGreat.stockMoves
set_option linter.unusedVariables false
open Go.RowKit
open Pl (firstG findG putG It)

set_option maxRecDepth 100000 in
set_option maxHeartbeats 6400000 in
theorem walk0 (C : Cons) (h : Hs) (L : Nat → List (List Value)) (ak : Int) (kb ki kl : ByteArray) (ks nq : Int) (tb : ByteArray) (st : Int) (w : World) (hin : HIn h L w) :
    Calls Tryz.prog 3 #[.agg h.cells, .agg #[.int .i64 ak, .string kb, .string ki, .string kl, .int .i64 ks, .int .i64 nq, .string tb, .int .i64 st]] w fun e w' => e = .returned (.bool true) ∧ Below w.heap.size w w' := by
  have HIN := Lib.hid hin
  have HCO := Lib.hid C
  have HAW : Hid (∀ W, Calls Tryz.prog 6 #[] W fun e w' => e = .returned (.bool true) ∧ Below W.heap.size W w') := Lib.hid (fun W => awake_any C W)
  obtain ⟨em, hem⟩ : ∃ r : Int, ((moveE (L 0) (L 3) (L 4) (Ky.mk kb ki kl ks) nq tb : Nat) : Int) = r := ⟨_, rfl⟩
  have HEm := Lib.hid hem
  obtain ⟨es, hes⟩ : ∃ r : Int, ((statE (L 3) (L 4) (Ky.mk kb ki kl ks) nq st : Nat) : Int) = r := ⟨_, rfl⟩
  have HEs := Lib.hid hes
  obtain ⟨W0, hW0⟩ : ∃ W0, W0 = ((w.alloc (.cells h.cells 37)).alloc (.cells #[.int .i64 ak, .string kb, .string ki, .string kl, .int .i64 ks, .int .i64 nq, .string tb, .int .i64 st] 41)) := ⟨_, rfl⟩
  have B0 : Hid (Below w.heap.size w W0) := Lib.hid (by rw [hW0]; exact ((Below.refl _ _).alloc (Nat.le_refl _) _).alloc (by simp <;> omega) _)
  have HH0 : Hid (W0.heap[w.heap.size]? = some (.cells h.cells 37 (0, 0))) := Lib.hid (by
    rw [hW0]
    have hq := heap_alloc_new w (.cells h.cells 37)
    exact (Below.heap_alloc _ _ _ (by simp <;> omega)).trans (by simpa using hq))
  have HX0 : Hid (W0.heap[w.heap.size + 1]? = some (.cells #[.int .i64 ak, .string kb, .string ki, .string kl, .int .i64 ks, .int .i64 nq, .string tb, .int .i64 st] 41 (0, 0))) := Lib.hid (by
    rw [hW0]
    have hq := heap_alloc_new (w.alloc (.cells h.cells 37)) (.cells #[.int .i64 ak, .string kb, .string ki, .string kl, .int .i64 ks, .int .i64 nq, .string tb, .int .i64 st] 41)
    exact by simpa using hq)
  have huh := Tryz.underlying37
  have HSH : Hid (∀ a : Hs, (Tryz.prog.info? 37).map (·.size) = some a.cells.size) := Lib.hid (fun a => by kernel_rfl)
  have HSHL : Hid (∀ a : Hs, (Tryz.prog.info? 37).map (·.size) = some a.cells.toList.length) := Lib.hid (fun a => by kernel_rfl)
  have H1C : Hid (∀ a : Hs, a.cells.all (·.oneCell') = true) := Lib.hid (fun a => by simp [Hs.cells, Value.oneCell'])
  have huOp := Tryz.underlying41
  have HSOp : Hid ((Tryz.prog.info? 41).map (·.size) = some 8) := Lib.hid (by kernel_rfl)
  have huKey := Tryz.underlying39
  have HSKey : Hid ((Tryz.prog.info? 39).map (·.size) = some 4) := Lib.hid (by kernel_rfl)
  clear hin hem hes
  subst hW0
  go_enter Tryz.func3, Tryz.ntmps3
  go_wp2_with (first
    | (refine wpList_load_row rfl 37 (.tmp 2) rfl w.heap.size rfl _ _ _ _ HH0.out huh rfl (HSH.out _) ?_)
    | fail)
  refine (small_calls h _).mono ?_
  rintro e w1 ⟨⟨b, rfl, hb⟩, hb1⟩
  have HH1 := Lib.hid ((hb1.block _ (lt_of_block HH0.out)).trans HH0.out)
  have HX1 := Lib.hid ((hb1.block _ (lt_of_block HX0.out)).trans HX0.out)
  have B1 := Lib.hid (B0.out.trans (hb1.mono B0.out.size))
  clear hb1
  cases b with
  | false =>
    clear hb
    go_wp2_with fail
    refine (HAW.out _).mono ?_
    rintro e w2 ⟨rfl, hb2⟩
    have HB2 := Lib.hid (B1.out.trans (hb2.mono B1.out.size))
    clear hb2
    go_wp2_with fail
    go_ret
    exact ⟨rfl, HB2.out⟩
  | true =>
    have HSM := Lib.hid (hb.1 rfl)
    clear hb
    have HT1 : Hid (HT h L w1) := Lib.hid (HIN.out.ht HSM.out B1.out)
    have HN : Hid (∀ i, i < 14 → h.n i ≤ 1000) := Lib.hid (fun i hi => Nat.le_trans (HSM.out i hi) (cap_le i hi))
    go_wp2_with (first
      | (refine wpList_load_row rfl 37 (.tmp 2) rfl w.heap.size rfl _ _ _ _ HH1.out huh rfl (HSH.out _) ?_)
      | fail)
    refine (lents_calls h L _ HT1.out HN.out).mono ?_
    rintro e w2 ⟨own, rfl, hz, hlt, hb2⟩
    obtain ⟨gg, n, c, z, hcell, hze, hn', hc', hnn, hbb, hot⟩ := lent_own hlt HT1.out (fun i hi => HSM.out i hi)
    have HH2 := Lib.hid ((hb2.block _ (lt_of_block HH1.out)).trans HH1.out)
    have HX2 := Lib.hid ((hb2.block _ (lt_of_block HX1.out)).trans HX1.out)
    have B2 := Lib.hid (B1.out.trans (hb2.mono B1.out.size))
    have HT2 := Lib.hid (HT1.out.below hb2)
    have hzz : z = h.z := hze.trans hz
    obtain ⟨own2, how⟩ : ∃ o, o = Hs.mk (fun i => some ⟨gg i, 0, none⟩) n c z := ⟨_, rfl⟩
    rw [show own.val = .agg own2.cells from by rw [Hs.val_cells, hcell, how]]
    rw [← how] at hot
    have HOW := Lib.hid how
    have OWN2 := Lib.hid hot
    have HNN := Lib.hid hn'
    have HCC := Lib.hid hc'
    have HN6 := Lib.hid hnn
    have HBH2 : Hid (KB gg n w2) := Lib.hid hbb
    have HZZ := Lib.hid hzz
    have HZO : Hid (own2.z = h.z) := Lib.hid (by rw [how]; exact hzz)
    have HNO : Hid (∀ i, i < 14 → own2.n i ≤ 1000) := Lib.hid (by rw [how]; exact hnn)
    have HCP : Hid (Caps own2) := Lib.hid (by rw [how]; exact fun i hi => ⟨Nat.le_of_succ_le (hc' i hi).1, (hc' i hi).2⟩)
    clear hz hlt hb2 hn' hc' hnn hbb hot how hcell hze hzz own
    have HQ3 : Hid ((w2.alloc (.cells #[.slice none 0 0, .slice none 0 0, .slice none 0 0, .slice none 0 0, .slice none 0 0, .slice none 0 0, .slice none 0 0, .slice none 0 0, .slice none 0 0, .slice none 0 0, .slice none 0 0, .slice none 0 0, .slice none 0 0, .slice none 0 0, .int .i64 0] 37)).heap[w2.heap.size]? = some (.cells #[.slice none 0 0, .slice none 0 0, .slice none 0 0, .slice none 0 0, .slice none 0 0, .slice none 0 0, .slice none 0 0, .slice none 0 0, .slice none 0 0, .slice none 0 0, .slice none 0 0, .slice none 0 0, .slice none 0 0, .slice none 0 0, .int .i64 0] 37 (0, 0))) := Lib.hid (heap_alloc_new _ _)
    obtain ⟨w3, hw3⟩ : ∃ w', w' = (w2.alloc (.cells #[.slice none 0 0, .slice none 0 0, .slice none 0 0, .slice none 0 0, .slice none 0 0, .slice none 0 0, .slice none 0 0, .slice none 0 0, .slice none 0 0, .slice none 0 0, .slice none 0 0, .slice none 0 0, .slice none 0 0, .slice none 0 0, .int .i64 0] 37)).setRow w2.heap.size own2.cells := ⟨_, rfl⟩
    have hb3 : Below w2.heap.size w2 w3 := by rw [hw3]; exact setRow_below ((Below.refl _ _).alloc (Nat.le_refl _) _) (Nat.le_refl _) _
    have HH3 := Lib.hid ((hb3.block _ (lt_of_block HH2.out)).trans HH2.out)
    have HX3 := Lib.hid ((hb3.block _ (lt_of_block HX2.out)).trans HX2.out)
    have B3 := Lib.hid (B2.out.trans (hb3.mono B2.out.size))
    have HT3 := Lib.hid (HT2.out.below hb3)
    have OWN3 := Lib.hid (OWN2.out.below hb3)
    have HBH3 := Lib.hid (HBH2.out.below hb3)
    have HO3 : Hid (w3.heap[w2.heap.size]? = some (.cells own2.cells 37 (0, 0))) := Lib.hid (by rw [hw3]; exact setRow_heap _ _ _ _ _ _ HQ3.out)
    have HW3 := Lib.hid hw3
    clear hb3 hw3
    have T3 := Lib.hid (Below.refl w3.heap.size w3)
    have x5 : w3.cell? ⟨w.heap.size + 1, 5, none⟩ = some (.int .i64 nq) := by rw [cell_of_block HX3.out]; rfl
    have x6 : w3.cell? ⟨w.heap.size + 1, 6, none⟩ = some (.string tb) := by rw [cell_of_block HX3.out]; rfl
    have xlt : w.heap.size + 1 < w3.heap.size := lt_of_block HX3.out
    have RK : Hid (w3.rangeAt (w.heap.size + 1) 1 [.string kb, .string ki, .string kl, .int .i64 ks]) := Lib.hid (range_part (cs := [.int .i64 ak, .string kb, .string ki, .string kl, .int .i64 ks, .int .i64 nq, .string tb, .int .i64 st]) (pre := [.int .i64 ak]) (post := [.int .i64 nq, .string tb, .int .i64 st]) HX3.out)
    go_wp2_with (first
      | (refine wpList_store_row rfl 37 (.tmp 5) (.tmp 15) rfl w2.heap.size own2.cells rfl rfl _ _ HQ3.out (HSH.out _) rfl (H1C.out _) ?_; rw [← HW3.out])
      | (refine wpList_load_row rfl 37 (.tmp 5) rfl w2.heap.size rfl _ _ _ _ HO3.out huh rfl (HSH.out _) ?_)
      | (refine wpList_load_mid rfl 39 (.tmp 18) rfl (w.heap.size + 1) 1 rfl [.string kb, .string ki, .string kl, .int .i64 ks] _ RK.out huKey rfl HSKey.out ?_)
      | fail)
    refine (HCO.out.move own2 L kb ki kl ks nq tb _ OWN3.out (Nat.le_trans (HNO.out 4 (by decide)) (by decide)) (HCP.out 4 (by decide))).mono ?_
    intro e w4 ha
    obtain ⟨a, rfl, hat, hb4, haz, hof⟩ := PutP.hb (i := 4) (by decide) (moveL_things (OWN3.out 4 (by decide)).2.2.1 _ _ _) (Nat.le_trans (moveL_len _ _ _ _) (by rw [← (OWN3.out 4 (by decide)).1]; have := HNO.out 4 (by decide); omega)) OWN3.out ha
    rw [HEm.out]
    have HH4 := Lib.hid ((hb4.block _ (lt_of_block HH3.out)).trans HH3.out)
    have HX4 := Lib.hid ((hb4.block _ (lt_of_block HX3.out)).trans HX3.out)
    have HO4 := Lib.hid ((hb4.block _ (lt_of_block HO3.out)).trans HO3.out)
    have B4 := Lib.hid (B3.out.trans (hb4.mono B3.out.size))
    have HT4 := Lib.hid (HT3.out.below hb4)
    have OWN4 := Lib.hid (OWN3.out.below hb4)
    have HBH4 := Lib.hid (HBH3.out.below hb4)
    have T4 := Lib.hid (T3.out.trans (hb4.mono T3.out.size))
    have HTa4 := Lib.hid hat
    have HZa := Lib.hid (haz.trans (congrArg _ HZO.out))
    have HOFa := Lib.hid hof
    clear ha hat haz hb4 hof
    have HQ5 : Hid ((w4.alloc (.cells #[.slice none 0 0, .slice none 0 0, .slice none 0 0, .slice none 0 0, .slice none 0 0, .slice none 0 0, .slice none 0 0, .slice none 0 0, .slice none 0 0, .slice none 0 0, .slice none 0 0, .slice none 0 0, .slice none 0 0, .slice none 0 0, .int .i64 0] 37)).heap[w4.heap.size]? = some (.cells #[.slice none 0 0, .slice none 0 0, .slice none 0 0, .slice none 0 0, .slice none 0 0, .slice none 0 0, .slice none 0 0, .slice none 0 0, .slice none 0 0, .slice none 0 0, .slice none 0 0, .slice none 0 0, .slice none 0 0, .slice none 0 0, .int .i64 0] 37 (0, 0))) := Lib.hid (heap_alloc_new _ _)
    obtain ⟨w5, hw5⟩ : ∃ w', w' = (w4.alloc (.cells #[.slice none 0 0, .slice none 0 0, .slice none 0 0, .slice none 0 0, .slice none 0 0, .slice none 0 0, .slice none 0 0, .slice none 0 0, .slice none 0 0, .slice none 0 0, .slice none 0 0, .slice none 0 0, .slice none 0 0, .slice none 0 0, .int .i64 0] 37)).setRow w4.heap.size a.cells := ⟨_, rfl⟩
    have hb5 : Below w4.heap.size w4 w5 := by rw [hw5]; exact setRow_below ((Below.refl _ _).alloc (Nat.le_refl _) _) (Nat.le_refl _) _
    have HH5 := Lib.hid ((hb5.block _ (lt_of_block HH4.out)).trans HH4.out)
    have HX5 := Lib.hid ((hb5.block _ (lt_of_block HX4.out)).trans HX4.out)
    have HO5 := Lib.hid ((hb5.block _ (lt_of_block HO4.out)).trans HO4.out)
    have B5 := Lib.hid (B4.out.trans (hb5.mono B4.out.size))
    have HT5 := Lib.hid (HT4.out.below hb5)
    have OWN5 := Lib.hid (OWN4.out.below hb5)
    have HBH5 := Lib.hid (HBH4.out.below hb5)
    have HTa5 := Lib.hid (HTa4.out.below hb5)
    have T5 := Lib.hid (T4.out.trans (hb5.mono T4.out.size))
    have HA5 : Hid (w5.heap[w4.heap.size]? = some (.cells a.cells 37 (0, 0))) := Lib.hid (by rw [hw5]; exact setRow_heap _ _ _ _ _ _ HQ5.out)
    have HW5 := Lib.hid hw5
    clear hb5 hw5
    clear x5 x6 xlt RK
    have x5 : w5.cell? ⟨w.heap.size + 1, 5, none⟩ = some (.int .i64 nq) := by rw [cell_of_block HX5.out]; rfl
    have x6 : w5.cell? ⟨w.heap.size + 1, 6, none⟩ = some (.string tb) := by rw [cell_of_block HX5.out]; rfl
    have xlt : w.heap.size + 1 < w5.heap.size := lt_of_block HX5.out
    have RK : Hid (w5.rangeAt (w.heap.size + 1) 1 [.string kb, .string ki, .string kl, .int .i64 ks]) := Lib.hid (range_part (cs := [.int .i64 ak, .string kb, .string ki, .string kl, .int .i64 ks, .int .i64 nq, .string tb, .int .i64 st]) (pre := [.int .i64 ak]) (post := [.int .i64 nq, .string tb, .int .i64 st]) HX5.out)
    go_wp2_with (first
      | (refine wpList_store_row rfl 37 (.tmp 6) (.tmp 25) rfl w4.heap.size a.cells rfl rfl _ _ HQ5.out (HSH.out _) rfl (H1C.out _) ?_; rw [← HW5.out])
      | (refine wpList_load_row rfl 37 (.tmp 2) rfl w.heap.size rfl _ _ _ _ HH5.out huh rfl (HSH.out _) ?_)
      | (refine wpList_load_mid rfl 39 (.tmp 29) rfl (w.heap.size + 1) 1 rfl [.string kb, .string ki, .string kl, .int .i64 ks] _ RK.out huKey rfl HSKey.out ?_)
      | fail)
    refine (rmove h L kb ki kl ks nq tb _ HT5.out (Nat.le_trans (HN.out 4 (by decide)) (by decide))).mono ?_
    intro e w6 ha
    obtain ⟨b, rfl, hat, hb6, haz, hof⟩ := PutP.hb (i := 4) (by decide) (moveL_things (HT5.out 4 (by decide)).2.2.1 _ _ _) (Nat.le_trans (moveL_len _ _ _ _) (by rw [← (HT5.out 4 (by decide)).1]; have := HN.out 4 (by decide); omega)) HT5.out ha
    rw [HEm.out]
    have HH6 := Lib.hid ((hb6.block _ (lt_of_block HH5.out)).trans HH5.out)
    have HX6 := Lib.hid ((hb6.block _ (lt_of_block HX5.out)).trans HX5.out)
    have HO6 := Lib.hid ((hb6.block _ (lt_of_block HO5.out)).trans HO5.out)
    have HA6 := Lib.hid ((hb6.block _ (lt_of_block HA5.out)).trans HA5.out)
    have B6 := Lib.hid (B5.out.trans (hb6.mono B5.out.size))
    have HT6 := Lib.hid (HT5.out.below hb6)
    have OWN6 := Lib.hid (OWN5.out.below hb6)
    have HBH6 := Lib.hid (HBH5.out.below hb6)
    have HTa6 := Lib.hid (HTa5.out.below hb6)
    have T6 := Lib.hid (T5.out.trans (hb6.mono T5.out.size))
    have HTb6 := Lib.hid hat
    have HZb := Lib.hid (haz)
    have HOFb := Lib.hid hof
    clear ha hat haz hb6 hof
    have HQ7 : Hid ((w6.alloc (.cells #[.slice none 0 0, .slice none 0 0, .slice none 0 0, .slice none 0 0, .slice none 0 0, .slice none 0 0, .slice none 0 0, .slice none 0 0, .slice none 0 0, .slice none 0 0, .slice none 0 0, .slice none 0 0, .slice none 0 0, .slice none 0 0, .int .i64 0] 37)).heap[w6.heap.size]? = some (.cells #[.slice none 0 0, .slice none 0 0, .slice none 0 0, .slice none 0 0, .slice none 0 0, .slice none 0 0, .slice none 0 0, .slice none 0 0, .slice none 0 0, .slice none 0 0, .slice none 0 0, .slice none 0 0, .slice none 0 0, .slice none 0 0, .int .i64 0] 37 (0, 0))) := Lib.hid (heap_alloc_new _ _)
    obtain ⟨w7, hw7⟩ : ∃ w', w' = (w6.alloc (.cells #[.slice none 0 0, .slice none 0 0, .slice none 0 0, .slice none 0 0, .slice none 0 0, .slice none 0 0, .slice none 0 0, .slice none 0 0, .slice none 0 0, .slice none 0 0, .slice none 0 0, .slice none 0 0, .slice none 0 0, .slice none 0 0, .int .i64 0] 37)).setRow w6.heap.size b.cells := ⟨_, rfl⟩
    have hb7 : Below w6.heap.size w6 w7 := by rw [hw7]; exact setRow_below ((Below.refl _ _).alloc (Nat.le_refl _) _) (Nat.le_refl _) _
    have HH7 := Lib.hid ((hb7.block _ (lt_of_block HH6.out)).trans HH6.out)
    have HX7 := Lib.hid ((hb7.block _ (lt_of_block HX6.out)).trans HX6.out)
    have HO7 := Lib.hid ((hb7.block _ (lt_of_block HO6.out)).trans HO6.out)
    have HA7 := Lib.hid ((hb7.block _ (lt_of_block HA6.out)).trans HA6.out)
    have B7 := Lib.hid (B6.out.trans (hb7.mono B6.out.size))
    have HT7 := Lib.hid (HT6.out.below hb7)
    have OWN7 := Lib.hid (OWN6.out.below hb7)
    have HBH7 := Lib.hid (HBH6.out.below hb7)
    have HTa7 := Lib.hid (HTa6.out.below hb7)
    have HTb7 := Lib.hid (HTb6.out.below hb7)
    have T7 := Lib.hid (T6.out.trans (hb7.mono T6.out.size))
    have HB7 : Hid (w7.heap[w6.heap.size]? = some (.cells b.cells 37 (0, 0))) := Lib.hid (by rw [hw7]; exact setRow_heap _ _ _ _ _ _ HQ7.out)
    have HW7 := Lib.hid hw7
    clear hb7 hw7
    clear x5 x6 xlt RK
    have HAB : Hid (w4.heap.size < w6.heap.size) := Lib.hid (lt_of_block HA6.out)
    have KEEPHB : Hid (w6.heap.size ≠ w4.heap.size) := Lib.hid (by have := HAB.out; omega)
    have KEEPHA : Hid (w4.heap.size ≠ w6.heap.size) := Lib.hid (by have := HAB.out; omega)
    go_wp2_with (first
      | (refine wpList_store_row rfl 37 (.tmp 8) (.tmp 36) rfl w6.heap.size b.cells rfl rfl _ _ HQ7.out (HSH.out _) rfl (H1C.out _) ?_; rw [← HW7.out])
      | (refine BigFrame.wpList_want (by kernel_rfl) (fun K hK => Go.wp_load_mid 37 (.tmp 6) rfl w4.heap.size 0 rfl a.cells.toList _ (range_row0 HA7.out) huh rfl (HSHL.out _) (hK _ _ ?_)); clear hK K)
      | (refine BigFrame.wpList_want (by kernel_rfl) (fun K hK => Go.wp_load_mid 37 (.tmp 8) rfl w6.heap.size 0 rfl b.cells.toList _ (range_row0 HB7.out) huh rfl (HSHL.out _) (hK _ _ ?_)); clear hK K)
      | fail)
    refine (same_true HTa7.out HTb7.out (HZa.out.trans HZb.out.symm)).mono ?_
    rintro e w8 ⟨rfl, hb8⟩
    have HH8 := Lib.hid ((hb8.block _ (lt_of_block HH7.out)).trans HH7.out)
    have HX8 := Lib.hid ((hb8.block _ (lt_of_block HX7.out)).trans HX7.out)
    have HO8 := Lib.hid ((hb8.block _ (lt_of_block HO7.out)).trans HO7.out)
    have HA8 := Lib.hid ((hb8.block _ (lt_of_block HA7.out)).trans HA7.out)
    have HB8 := Lib.hid ((hb8.block _ (lt_of_block HB7.out)).trans HB7.out)
    have B8 := Lib.hid (B7.out.trans (hb8.mono B7.out.size))
    have HT8 := Lib.hid (HT7.out.below hb8)
    have OWN8 := Lib.hid (OWN7.out.below hb8)
    have HBH8 := Lib.hid (HBH7.out.below hb8)
    have HTa8 := Lib.hid (HTa7.out.below hb8)
    have HTb8 := Lib.hid (HTb7.out.below hb8)
    have T8 := Lib.hid (T7.out.trans (hb8.mono T7.out.size))
    clear hb8
    have x5 : w8.cell? ⟨w.heap.size + 1, 5, none⟩ = some (.int .i64 nq) := by rw [cell_of_block HX8.out]; rfl
    have x7 : w8.cell? ⟨w.heap.size + 1, 7, none⟩ = some (.int .i64 st) := by rw [cell_of_block HX8.out]; rfl
    have xlt : w.heap.size + 1 < w8.heap.size := lt_of_block HX8.out
    have RK : Hid (w8.rangeAt (w.heap.size + 1) 1 [.string kb, .string ki, .string kl, .int .i64 ks]) := Lib.hid (range_part (cs := [.int .i64 ak, .string kb, .string ki, .string kl, .int .i64 ks, .int .i64 nq, .string tb, .int .i64 st]) (pre := [.int .i64 ak]) (post := [.int .i64 nq, .string tb, .int .i64 st]) HX8.out)
    go_wp2_with (first
      | (refine wpList_load_row rfl 37 (.tmp 5) rfl w2.heap.size rfl _ _ _ _ HO8.out huh rfl (HSH.out _) ?_)
      | (refine wpList_load_mid rfl 39 (.tmp 49) rfl (w.heap.size + 1) 1 rfl [.string kb, .string ki, .string kl, .int .i64 ks] _ RK.out huKey rfl HSKey.out ?_)
      | fail)
    refine (HCO.out.stat own2 L kb ki kl ks nq st _ OWN8.out (Nat.le_trans (HNO.out 4 (by decide)) (by decide)) (HCP.out 4 (by decide))).mono ?_
    intro e w9 ha
    obtain ⟨c, rfl, hat, hb9, haz, hof⟩ := PutP.hb (i := 4) (by decide) (statL_things (OWN8.out 4 (by decide)).2.2.1 _ _ _) (Nat.le_trans (statL_len _ _ _ _) (by rw [← (OWN8.out 4 (by decide)).1]; have := HNO.out 4 (by decide); omega)) OWN8.out ha
    rw [HEs.out]
    have HH9 := Lib.hid ((hb9.block _ (lt_of_block HH8.out)).trans HH8.out)
    have HX9 := Lib.hid ((hb9.block _ (lt_of_block HX8.out)).trans HX8.out)
    have HO9 := Lib.hid ((hb9.block _ (lt_of_block HO8.out)).trans HO8.out)
    have HA9 := Lib.hid ((hb9.block _ (lt_of_block HA8.out)).trans HA8.out)
    have HB9 := Lib.hid ((hb9.block _ (lt_of_block HB8.out)).trans HB8.out)
    have B9 := Lib.hid (B8.out.trans (hb9.mono B8.out.size))
    have HT9 := Lib.hid (HT8.out.below hb9)
    have OWN9 := Lib.hid (OWN8.out.below hb9)
    have HBH9 := Lib.hid (HBH8.out.below hb9)
    have T9 := Lib.hid (T8.out.trans (hb9.mono T8.out.size))
    have HTc9 := Lib.hid hat
    have HZc := Lib.hid (haz.trans (congrArg _ HZO.out))
    have HOFc := Lib.hid hof
    clear ha hat haz hb9 hof
    obtain ⟨w10, hw10⟩ : ∃ w', w' = w9.setRow w4.heap.size c.cells := ⟨_, rfl⟩
    have GE10 : Hid (w3.heap.size ≤ w4.heap.size) := Lib.hid T4.out.size
    have T10 : Hid (Below w3.heap.size w3 w10) := Lib.hid (by rw [hw10]; exact setRow_below T9.out GE10.out _)
    have HH10 := Lib.hid ((T10.out.block _ (lt_of_block HH3.out)).trans HH3.out)
    have HX10 := Lib.hid ((T10.out.block _ (lt_of_block HX3.out)).trans HX3.out)
    have HO10 := Lib.hid ((T10.out.block _ (lt_of_block HO3.out)).trans HO3.out)
    have HT10 := Lib.hid (HT3.out.below T10.out)
    have OWN10 := Lib.hid (OWN3.out.below T10.out)
    have HBH10 := Lib.hid (HBH3.out.below T10.out)
    have B10 := Lib.hid (B3.out.trans (T10.out.mono B3.out.size))
    have HA10 : Hid (w10.heap[w4.heap.size]? = some (.cells c.cells 37 (0, 0))) := Lib.hid (by rw [hw10]; exact setRow_heap _ _ _ _ _ _ HA9.out)
    have HB10 : Hid (w10.heap[w6.heap.size]? = some (.cells b.cells 37 (0, 0))) := Lib.hid (by rw [hw10]; exact (setRow_other _ _ _ _ (KEEPHB.out)).trans HB9.out)
    have HTc10 := Lib.hid (HTc9.out.setRowOff (HOFc.out _ (OWN3.out.offge GE10.out) (lt_of_block HA8.out)) c.cells)
    rw [← hw10] at HTc10
    have HW10 := Lib.hid hw10
    clear hw10
    clear x5 x7 xlt RK
    have x5 : w10.cell? ⟨w.heap.size + 1, 5, none⟩ = some (.int .i64 nq) := by rw [cell_of_block HX10.out]; rfl
    have x7 : w10.cell? ⟨w.heap.size + 1, 7, none⟩ = some (.int .i64 st) := by rw [cell_of_block HX10.out]; rfl
    have xlt : w.heap.size + 1 < w10.heap.size := lt_of_block HX10.out
    have RK : Hid (w10.rangeAt (w.heap.size + 1) 1 [.string kb, .string ki, .string kl, .int .i64 ks]) := Lib.hid (range_part (cs := [.int .i64 ak, .string kb, .string ki, .string kl, .int .i64 ks, .int .i64 nq, .string tb, .int .i64 st]) (pre := [.int .i64 ak]) (post := [.int .i64 nq, .string tb, .int .i64 st]) HX10.out)
    go_wp2_with (first
      | (refine wpList_store_row rfl 37 (.tmp 6) (.tmp 56) rfl w4.heap.size c.cells rfl rfl _ _ HA9.out (HSH.out _) rfl (H1C.out _) ?_; rw [← HW10.out])
      | (refine wpList_load_row rfl 37 (.tmp 2) rfl w.heap.size rfl _ _ _ _ HH10.out huh rfl (HSH.out _) ?_)
      | (refine wpList_load_mid rfl 39 (.tmp 60) rfl (w.heap.size + 1) 1 rfl [.string kb, .string ki, .string kl, .int .i64 ks] _ RK.out huKey rfl HSKey.out ?_)
      | fail)
    refine (rstat h L kb ki kl ks nq st _ HT10.out (Nat.le_trans (HN.out 4 (by decide)) (by decide))).mono ?_
    intro e w11 ha
    obtain ⟨d, rfl, hat, hb11, haz, hof⟩ := PutP.hb (i := 4) (by decide) (statL_things (HT10.out 4 (by decide)).2.2.1 _ _ _) (Nat.le_trans (statL_len _ _ _ _) (by rw [← (HT10.out 4 (by decide)).1]; have := HN.out 4 (by decide); omega)) HT10.out ha
    rw [HEs.out]
    have HH11 := Lib.hid ((hb11.block _ (lt_of_block HH10.out)).trans HH10.out)
    have HX11 := Lib.hid ((hb11.block _ (lt_of_block HX10.out)).trans HX10.out)
    have HO11 := Lib.hid ((hb11.block _ (lt_of_block HO10.out)).trans HO10.out)
    have HA11 := Lib.hid ((hb11.block _ (lt_of_block HA10.out)).trans HA10.out)
    have HB11 := Lib.hid ((hb11.block _ (lt_of_block HB10.out)).trans HB10.out)
    have B11 := Lib.hid (B10.out.trans (hb11.mono B10.out.size))
    have HT11 := Lib.hid (HT10.out.below hb11)
    have OWN11 := Lib.hid (OWN10.out.below hb11)
    have HBH11 := Lib.hid (HBH10.out.below hb11)
    have HTc11 := Lib.hid (HTc10.out.below hb11)
    have T11 := Lib.hid (T10.out.trans (hb11.mono T10.out.size))
    have HTd11 := Lib.hid hat
    have HZd := Lib.hid (haz)
    have HOFd := Lib.hid hof
    clear ha hat haz hb11 hof
    obtain ⟨w12, hw12⟩ : ∃ w', w' = w11.setRow w6.heap.size d.cells := ⟨_, rfl⟩
    have GE12 : Hid (w3.heap.size ≤ w6.heap.size) := Lib.hid T6.out.size
    have T12 : Hid (Below w3.heap.size w3 w12) := Lib.hid (by rw [hw12]; exact setRow_below T11.out GE12.out _)
    have HH12 := Lib.hid ((T12.out.block _ (lt_of_block HH3.out)).trans HH3.out)
    have HX12 := Lib.hid ((T12.out.block _ (lt_of_block HX3.out)).trans HX3.out)
    have HO12 := Lib.hid ((T12.out.block _ (lt_of_block HO3.out)).trans HO3.out)
    have HT12 := Lib.hid (HT3.out.below T12.out)
    have OWN12 := Lib.hid (OWN3.out.below T12.out)
    have HBH12 := Lib.hid (HBH3.out.below T12.out)
    have B12 := Lib.hid (B3.out.trans (T12.out.mono B3.out.size))
    have HB12 : Hid (w12.heap[w6.heap.size]? = some (.cells d.cells 37 (0, 0))) := Lib.hid (by rw [hw12]; exact setRow_heap _ _ _ _ _ _ HB11.out)
    have HA12 : Hid (w12.heap[w4.heap.size]? = some (.cells c.cells 37 (0, 0))) := Lib.hid (by rw [hw12]; exact (setRow_other _ _ _ _ (KEEPHA.out)).trans HA11.out)
    have HTc12 := Lib.hid (HTc11.out.setRowOff (HOFc.out _ (OWN3.out.offge GE12.out) (lt_of_block HB8.out)) d.cells)
    rw [← hw12] at HTc12
    have HTd12 := Lib.hid (HTd11.out.setRowOff (HOFd.out _ (HT3.out.offge GE12.out) (lt_of_block HB10.out)) d.cells)
    rw [← hw12] at HTd12
    have HW12 := Lib.hid hw12
    clear hw12
    clear x5 x7 xlt RK
    go_wp2_with (first
      | (refine wpList_store_row rfl 37 (.tmp 8) (.tmp 67) rfl w6.heap.size d.cells rfl rfl _ _ HB11.out (HSH.out _) rfl (H1C.out _) ?_; rw [← HW12.out])
      | (refine BigFrame.wpList_want (by kernel_rfl) (fun K hK => Go.wp_load_mid 37 (.tmp 6) rfl w4.heap.size 0 rfl c.cells.toList _ (range_row0 HA12.out) huh rfl (HSHL.out _) (hK _ _ ?_)); clear hK K)
      | (refine BigFrame.wpList_want (by kernel_rfl) (fun K hK => Go.wp_load_mid 37 (.tmp 8) rfl w6.heap.size 0 rfl d.cells.toList _ (range_row0 HB12.out) huh rfl (HSHL.out _) (hK _ _ ?_)); clear hK K)
      | fail)
    refine (same_true HTc12.out HTd12.out (HZc.out.trans HZd.out.symm)).mono ?_
    rintro e w13 ⟨rfl, hb13⟩
    have HH13 := Lib.hid ((hb13.block _ (lt_of_block HH12.out)).trans HH12.out)
    have HX13 := Lib.hid ((hb13.block _ (lt_of_block HX12.out)).trans HX12.out)
    have HO13 := Lib.hid ((hb13.block _ (lt_of_block HO12.out)).trans HO12.out)
    have HB13 := Lib.hid ((hb13.block _ (lt_of_block HB12.out)).trans HB12.out)
    have HA13 := Lib.hid ((hb13.block _ (lt_of_block HA12.out)).trans HA12.out)
    have B13 := Lib.hid (B12.out.trans (hb13.mono B12.out.size))
    have HT13 := Lib.hid (HT12.out.below hb13)
    have OWN13 := Lib.hid (OWN12.out.below hb13)
    have HBH13 := Lib.hid (HBH12.out.below hb13)
    have HTd13 := Lib.hid (HTd12.out.below hb13)
    have HTc13 := Lib.hid (HTc12.out.below hb13)
    have T13 := Lib.hid (T12.out.trans (hb13.mono T12.out.size))
    clear hb13
    go_wp2_with (first
      | (refine BigFrame.wpList_want (by kernel_rfl) (fun K hK => Go.wp_load_mid 37 (.tmp 5) rfl w2.heap.size 0 rfl own2.cells.toList _ (range_row0 HO13.out) huh rfl (HSHL.out _) (hK _ _ ?_)); clear hK K)
      | (refine BigFrame.wpList_want (by kernel_rfl) (fun K hK => Go.wp_load_mid 37 (.tmp 2) rfl w.heap.size 0 rfl h.cells.toList _ (range_row0 HH13.out) huh rfl (HSHL.out _) (hK _ _ ?_)); clear hK K)
      | fail)
    refine (kept_true HOW.out HNN.out HCC.out HN6.out HBH13.out OWN13.out HT13.out (by rw [HOW.out]; exact HZZ.out)).mono ?_
    rintro e w14 ⟨rfl, hb14⟩
    have HH14 := Lib.hid ((hb14.block _ (lt_of_block HH13.out)).trans HH13.out)
    have HX14 := Lib.hid ((hb14.block _ (lt_of_block HX13.out)).trans HX13.out)
    have HO14 := Lib.hid ((hb14.block _ (lt_of_block HO13.out)).trans HO13.out)
    have HB14 := Lib.hid ((hb14.block _ (lt_of_block HB13.out)).trans HB13.out)
    have HA14 := Lib.hid ((hb14.block _ (lt_of_block HA13.out)).trans HA13.out)
    have B14 := Lib.hid (B13.out.trans (hb14.mono B13.out.size))
    have HT14 := Lib.hid (HT13.out.below hb14)
    have OWN14 := Lib.hid (OWN13.out.below hb14)
    have HBH14 := Lib.hid (HBH13.out.below hb14)
    have HTd14 := Lib.hid (HTd13.out.below hb14)
    have HTc14 := Lib.hid (HTc13.out.below hb14)
    have T14 := Lib.hid (T13.out.trans (hb14.mono T13.out.size))
    clear hb14
    go_wp2_with fail
    refine (HAW.out _).mono ?_
    rintro e w15 ⟨rfl, hb15⟩
    have HH15 := Lib.hid ((hb15.block _ (lt_of_block HH14.out)).trans HH14.out)
    have HX15 := Lib.hid ((hb15.block _ (lt_of_block HX14.out)).trans HX14.out)
    have HO15 := Lib.hid ((hb15.block _ (lt_of_block HO14.out)).trans HO14.out)
    have HB15 := Lib.hid ((hb15.block _ (lt_of_block HB14.out)).trans HB14.out)
    have HA15 := Lib.hid ((hb15.block _ (lt_of_block HA14.out)).trans HA14.out)
    have B15 := Lib.hid (B14.out.trans (hb15.mono B14.out.size))
    have HT15 := Lib.hid (HT14.out.below hb15)
    have OWN15 := Lib.hid (OWN14.out.below hb15)
    have HBH15 := Lib.hid (HBH14.out.below hb15)
    have HTd15 := Lib.hid (HTd14.out.below hb15)
    have HTc15 := Lib.hid (HTc14.out.below hb15)
    have T15 := Lib.hid (T14.out.trans (hb15.mono T14.out.size))
    clear hb15
    go_wp2_with fail
    go_ret
    exact ⟨rfl, B15.out⟩
theorem walk (C : Cons) (h : Hs) (L : Nat → List (List Value)) (cs : List Value) (w : World) (hin : HIn h L w) (fs : Fits kOp cs) (ms : ∀ u ∈ cs, Mild u) :
    Calls Tryz.prog 3 #[.agg h.cells, .agg cs.toArray] w fun e w' => e = .returned (.bool true) ∧ Below w.heap.size w w' := by
  obtain ⟨ak, kb, ki, kl, ks, nq, tb, st, rfl⟩ := op_cells fs
  exact walk0 C h L ak kb ki kl ks nq tb st w hin
end Go.Proofs.YtjacodbmmhnopaaGreat.stockMoves
