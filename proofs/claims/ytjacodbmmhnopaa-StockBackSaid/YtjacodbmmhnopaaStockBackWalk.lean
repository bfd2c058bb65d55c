/-
  THE LAW StockBack, over the contracts. (By wip/tools/gen_back12.py.)
-/
import Derived.Test.YtjacodbmmhnopaaQPlain
import Derived.Test.YtjacodbmmhnopaaQRow
import Derived.Test.YtjacodbmmhnopaaHSmall
import Derived.Test.YtjacodbmmhnopaaHKept
import Derived.Test.YtjacodbmmhnopaaHBoth
import Derived.Test.YtjacodbmmhnopaaHA
import Derived.Deep.RegionHeld3
import Derived.BigQuiet
namespace Go.Proofs.Ytjacodbmmhnopaa.stockBack
set_option linter.unusedVariables false
open Go.RowKit
open Pl (firstG findG putG It)

set_option maxRecDepth 100000 in
set_option maxHeartbeats 12800000 in
theorem walk0 (C : Cons) (h : Hs) (L : Nat → List (List Value)) (kb ki kl : ByteArray) (ks nq : Int) (w : World) (hin : HIn h L w) (hwn : Wf nq) :
    Calls Try.prog 3 #[.agg h.cells, .agg #[.string kb, .string ki, .string kl, .int .i64 ks], .int .i64 nq] w fun e w' => e = .returned (.bool true) ∧ Below w.heap.size w w' := by
  have HIN := Lib.hid hin
  have HCO := Lib.hid C
  have HWN := Lib.hid hwn
  have HAW : Hid (∀ W, Calls Try.prog 7 #[] W fun e w' => e = .returned (.bool true) ∧ Below W.heap.size W w') := Lib.hid (fun W => awake_any C W)
  obtain ⟨m, hm⟩ : ∃ m, h.n 4 = m := ⟨_, rfl⟩
  have HM : Hid (m = (L 4).length) := Lib.hid (by rw [← hm]; exact hin.n 4 (by decide))
  have HMM := Lib.hid hm
  clear hm
  obtain ⟨ep, hep⟩ : ∃ r, putE (L 4) (Ky.mk kb ki kl ks) nq = r := ⟨_, rfl⟩
  have HEP := Lib.hid hep
  obtain ⟨eh, heh⟩ : ∃ r, holdE (L 4) (Ky.mk kb ki kl ks) nq = r := ⟨_, rfl⟩
  have HEH := Lib.hid heh
  obtain ⟨W0, hW0⟩ : ∃ W0, W0 = ((w.alloc (.cells h.cells 37)).alloc (.cells #[.string kb, .string ki, .string kl, .int .i64 ks] 39)) := ⟨_, rfl⟩
  have B0 : Hid (Below w.heap.size w W0) := Lib.hid (by rw [hW0]; exact ((Below.refl _ _).alloc (Nat.le_refl _) _).alloc (by simp <;> omega) _)
  have HH0 : Hid (W0.heap[w.heap.size]? = some (.cells h.cells 37 (0, 0))) := Lib.hid (by
    rw [hW0]
    have hq := heap_alloc_new w (.cells h.cells 37)
    exact (Below.heap_alloc _ _ _ (by simp <;> omega)).trans (by simpa using hq))
  have HK0 : Hid (W0.heap[w.heap.size + 1]? = some (.cells #[.string kb, .string ki, .string kl, .int .i64 ks] 39 (0, 0))) := Lib.hid (by
    rw [hW0]
    have hq := heap_alloc_new (w.alloc (.cells h.cells 37)) (.cells #[.string kb, .string ki, .string kl, .int .i64 ks] 39)
    exact by simpa using hq)
  have huh := Try.underlying37
  have HSH : Hid (∀ a : Hs, (Try.prog.info? 37).map (·.size) = some a.cells.size) := Lib.hid (fun a => by kernel_rfl)
  have HSHL : Hid (∀ a : Hs, (Try.prog.info? 37).map (·.size) = some a.cells.toList.length) := Lib.hid (fun a => by kernel_rfl)
  have H1C : Hid (∀ a : Hs, a.cells.all (·.oneCell') = true) := Lib.hid (fun a => by simp [Hs.cells, Value.oneCell'])
  have huKey := Try.underlying39
  have HSKey : Hid ((Try.prog.info? 39).map (·.size) = some 4) := Lib.hid (by kernel_rfl)
  clear hin C hwn hep heh
  subst hW0
  go_enter Try.func3, Try.ntmps3
  go_wp2_with (first
    | (refine wpList_load_row rfl 37 (.tmp 3) rfl w.heap.size rfl _ _ _ _ HH0.out huh rfl (HSH.out _) ?_)
    | fail)
  refine (small_calls h _).mono ?_
  rintro e w1 ⟨⟨b, rfl, hb⟩, hb1⟩
  have HH1 := Lib.hid ((hb1.block _ (lt_of_block HH0.out)).trans HH0.out)
  have HK1 := Lib.hid ((hb1.block _ (lt_of_block HK0.out)).trans HK0.out)
  have B1 := Lib.hid (B0.out.trans (hb1.mono B0.out.size))
  clear hb1
  cases b with
  | false =>
    clear hb
    go_wp2_with fail
    refine (HAW.out _).mono ?_
    rintro e w2 ⟨rfl, hb2⟩
    have HB2 := Lib.hid (B1.out.trans (hb2.mono B1.out.size))
    clear hb2
    go_wp2_with fail
    go_ret
    exact ⟨rfl, HB2.out⟩
  | true =>
    have HSM := Lib.hid (hb.1 rfl)
    clear hb
    have HT1 : Hid (HT h L w1) := Lib.hid (HIN.out.ht HSM.out B1.out)
    have HN : Hid (∀ i, i < 14 → h.n i ≤ 1000) := Lib.hid (fun i hi => Nat.le_trans (HSM.out i hi) (cap_le i hi))
    have hm9 : m ≤ 1000 := by rw [← HMM.out]; exact HN.out 4 (by decide)
    go_wp2_with (first
      | (refine BigFrame.wpList_want (by kernel_rfl) (fun K hK => Go.wp_load_mid 37 (.tmp 3) rfl w.heap.size 0 rfl h.cells.toList _ (range_row0 HH1.out) huh rfl (HSHL.out _) (hK _ _ ?_)); clear hK K)
      | fail)
    refine (plain_any h L _ HT1.out).mono ?_
    rintro e w2 ⟨⟨b2, rfl, hpb⟩, hb2⟩
    have HH2 := Lib.hid ((hb2.block _ (lt_of_block HH1.out)).trans HH1.out)
    have HK2 := Lib.hid ((hb2.block _ (lt_of_block HK1.out)).trans HK1.out)
    have B2 := Lib.hid (B1.out.trans (hb2.mono B1.out.size))
    have HT2 := Lib.hid (HT1.out.below hb2)
    clear hb2
    cases b2 with
    | false =>
      clear hpb
      go_wp2_with fail
      refine (HAW.out _).mono ?_
      rintro e w9 ⟨rfl, hb9⟩
      have HB9 := Lib.hid (B2.out.trans (hb9.mono B2.out.size))
      clear hb9
      go_wp2_with fail
      go_ret
      exact ⟨rfl, HB9.out⟩
    | true =>
      have HPL := Lib.hid (hpb rfl)
      clear hpb
      have HCL : Hid (∀ W, Below w2.heap.size w2 W → W.cell? ⟨w.heap.size, 4, none⟩ = some (.slice (h.A 4) m (h.c 4)) ∧ w.heap.size < W.heap.size) := Lib.hid (fun W hW => by
        have q := (hW.block _ (lt_of_block HH2.out)).trans HH2.out
        exact ⟨by rw [cell_of_block q, ← HMM.out]; rfl, lt_of_block q⟩)
      have HS4 : Hid ((Try.prog.info? 39).map (·.size) = some 4) := Lib.hid (by kernel_rfl)
      go_wp2_with fail
      go_loopw [7] (fun i wr => ∃ k : Nat, 1 ≤ k ∧ k ≤ m + 1 ∧ i = .int .i64 (k : Int) ∧ Hid (Below w2.heap.size w2 wr)) (fun i _ => m + 1 - (intOf i).toNat)
      case atStart => exact ⟨1, by omega, by omega, rfl, Lib.hid (Below.refl _ _)⟩
      case round =>
        obtain ⟨k, hk1, hk2, rfl, hw⟩ := hrel
        obtain ⟨d4, dlt⟩ := HCL.out _ hw.out
        by_cases hlt : k < m
        · have hkl : k < (L 4).length := by rw [← HM.out]; exact hlt
          have hkp : k - 1 < (L 4).length := by omega
          obtain ⟨b, off, hA, hb, hc⟩ := quant_at (HT2.out.below hw.out) hkl
          have R1 : Hid (∀ X : BW wr, X.W.rangeAt b (off + (k - 1) * 6) [.string (qnOf (L 4)[k - 1]).bin, .string (qnOf (L 4)[k - 1]).item, .string (qnOf (L 4)[k - 1]).lot, .int .i64 (qnOf (L 4)[k - 1]).st]) := Lib.hid (fun X => range_key (rangeAt_below (hc (k - 1) hkp) hb X.h))
          have R2 : Hid (∀ X : BW wr, X.W.rangeAt b (off + k * 6) [.string (qnOf (L 4)[k]).bin, .string (qnOf (L 4)[k]).item, .string (qnOf (L 4)[k]).lot, .int .i64 (qnOf (L 4)[k]).st]) := Lib.hid (fun X => range_key (rangeAt_below (hc k hkl) hb X.h))
          obtain ⟨⟨pb, pi, pl, ps, pq, ph⟩, hx1⟩ : ∃ x, qnOf (L 4)[k - 1] = x := ⟨_, rfl⟩
          obtain ⟨⟨qb, qi, ql, qs, qq, qh⟩, hx2⟩ : ∃ x, qnOf (L 4)[k] = x := ⟨_, rfl⟩
          rw [hx1] at R1
          rw [hx2] at R2
          simp only [] at R1 R2
          obtain ⟨z, hz⟩ : ∃ z, ordKy (Ky.mk pb pi pl ps) (Ky.mk qb qi ql qs) = z := ⟨_, rfl⟩
          have CK : Hid (∀ X : BW wr, Calls Try.prog 8 #[.agg #[.string pb, .string pi, .string pl, .int .i64 ps], .agg #[.string qb, .string qi, .string ql, .int .i64 qs]] X.W fun e w' => e = .returned (.int .i64 z) ∧ Below X.W.heap.size X.W w') := Lib.hid (fun X => by rw [← hz]; exact rkeys_any ⟨pb, pi, pl, ps⟩ ⟨qb, qi, ql, qs⟩ X.W)
          have R4 : Hid (∀ X : BW wr, X.W.cell? ⟨w.heap.size, 4, none⟩ = some (.slice (some ⟨b, off, none⟩) m (h.c 4))) := Lib.hid (fun X => by have := (HCL.out _ (hw.out.trans (X.h.mono hw.out.size))).1; rwa [hA] at this)
          rw [hA] at d4
          have i1 : (0 : Int) ≤ (k : Int) := by omega
          have i2 : (k : Int) < (m : Int) := by omega
          have i3 : (0 : Int) ≤ (k : Int) - 1 := by omega
          have i4 : (k : Int) - 1 < (m : Int) := by omega
          have i5 : ((k : Int) - 1).toNat = k - 1 := by omega
          clear hx1 hx2 hz hc hA hb hkl hkp
          go_wp2_with fail
          clear d4 dlt
          have x4 := R4.out
          refine wp_grow wr (by kernel_rfl) (by kernel_rfl) (Below.refl _ _) ?_
          simp only []
          iterate 6 go_big_quiet_step (fail)
          refine BigFrame.wpQuiet_want (by kernel_rfl) (fun K hK => quiet_load_mid 39 (.tmp 35) rfl b (off + (k - 1) * 6) rfl [.string pb, .string pi, .string pl, .int .i64 ps] _ (fun W ⟨X, hX⟩ => by rw [hX]; exact R1.out X) huKey rfl HS4.out (hK _ ?_))
          simp only [Act.put, List.setIfInBounds_toArray, List.set_cons_zero, List.set_cons_succ]
          iterate 5 go_big_quiet_step (fail)
          refine BigFrame.wpQuiet_want (by kernel_rfl) (fun K hK => quiet_load_mid 39 (.tmp 41) rfl b (off + k * 6) rfl [.string qb, .string qi, .string ql, .int .i64 qs] _ (fun W ⟨X, hX⟩ => by rw [hX]; exact R2.out X) huKey rfl HS4.out (hK _ ?_))
          simp only [Act.put, List.setIfInBounds_toArray, List.set_cons_zero, List.set_cons_succ]
          go_big_quiet_step (exact grow_call _ (CK.out _))
          go_big_quiet_step (fail)
          refine wpQuiet_nil ?_
          intro X
          clear x4
          obtain ⟨w3, hb3⟩ := X
          simp only []
          have H3 := Lib.hid (hw.out.trans (hb3.mono hw.out.size))
          clear hb3 R1 R2 R4 CK
          by_cases hz0 : 0 ≤ z
          · go_wp2_with fail
            refine (HAW.out _).mono ?_
            rintro e w9 ⟨rfl, hb9⟩
            have BN := Lib.hid (B2.out.trans ((H3.out.trans (hb9.mono H3.out.size)).mono B2.out.size))
            clear hb9
            go_wp2_with fail
            go_ret
            exact ⟨rfl, BN.out⟩
          · go_wp2_with fail
            go_roundw
            case rel => exact ⟨k + 1, by omega, by omega, by go_num, H3⟩
            case measure => simp [intOf]; omega
        · skip
          have HH3 := Lib.hid ((hw.out.block _ (lt_of_block HH2.out)).trans HH2.out)
          have HK3 := Lib.hid ((hw.out.block _ (lt_of_block HK2.out)).trans HK2.out)
          have B3 := Lib.hid (B2.out.trans (hw.out.mono B2.out.size))
          have HT3 := Lib.hid (HT2.out.below hw.out)
          have T3 := Lib.hid (Below.refl wr.heap.size wr)
          go_wp2_with (first
            | (refine wpList_load_row rfl 37 (.tmp 3) rfl w.heap.size rfl _ _ _ _ HH3.out huh rfl (HSH.out _) ?_)
            | (refine wpList_load_row rfl 39 (.tmp 4) rfl (w.heap.size + 1) rfl _ _ _ _ HK3.out huKey rfl HSKey.out ?_)
            | fail)
          refine (HCO.out.put h L kb ki kl ks nq _ HT3.out (Nat.le_trans (HN.out 4 (by decide)) (by decide)) (HIN.out.c 4 (by decide))).mono ?_
          intro e w4 ha
          obtain ⟨a, rfl, hat, hb4, haz, hof⟩ := PutP.hb (i := 4) (by decide) (putL_things (HT3.out 4 (by decide)).2.2.1 _ _) (Nat.le_trans (putL_len _ _ _) (by rw [← (HT3.out 4 (by decide)).1]; have := HN.out 4 (by decide); omega)) HT3.out ha
          rw [HEP.out]
          have HH4 := Lib.hid ((hb4.block _ (lt_of_block HH3.out)).trans HH3.out)
          have HK4 := Lib.hid ((hb4.block _ (lt_of_block HK3.out)).trans HK3.out)
          have B4 := Lib.hid (B3.out.trans (hb4.mono B3.out.size))
          have HT4 := Lib.hid (HT3.out.below hb4)
          have T4 := Lib.hid (T3.out.trans (hb4.mono T3.out.size))
          have HTa4 := Lib.hid hat
          have HZa := Lib.hid haz
          have HOFa := Lib.hid hof
          have HCAPa := Lib.hid (PutP.caps ha rfl (by decide) (HIN.out.c 4 (by decide)))
          clear ha hat haz hb4 hof
          have HQ5 : Hid ((w4.alloc (.cells #[.slice none 0 0, .slice none 0 0, .slice none 0 0, .slice none 0 0, .slice none 0 0, .slice none 0 0, .slice none 0 0, .slice none 0 0, .slice none 0 0, .slice none 0 0, .slice none 0 0, .slice none 0 0, .slice none 0 0, .slice none 0 0, .int .i64 0] 37)).heap[w4.heap.size]? = some (.cells #[.slice none 0 0, .slice none 0 0, .slice none 0 0, .slice none 0 0, .slice none 0 0, .slice none 0 0, .slice none 0 0, .slice none 0 0, .slice none 0 0, .slice none 0 0, .slice none 0 0, .slice none 0 0, .slice none 0 0, .slice none 0 0, .int .i64 0] 37 (0, 0))) := Lib.hid (heap_alloc_new _ _)
          obtain ⟨w5, hw5⟩ : ∃ w', w' = (w4.alloc (.cells #[.slice none 0 0, .slice none 0 0, .slice none 0 0, .slice none 0 0, .slice none 0 0, .slice none 0 0, .slice none 0 0, .slice none 0 0, .slice none 0 0, .slice none 0 0, .slice none 0 0, .slice none 0 0, .slice none 0 0, .slice none 0 0, .int .i64 0] 37)).setRow w4.heap.size a.cells := ⟨_, rfl⟩
          have hb5 : Below w4.heap.size w4 w5 := by rw [hw5]; exact setRow_below ((Below.refl _ _).alloc (Nat.le_refl _) _) (Nat.le_refl _) _
          have HH5 := Lib.hid ((hb5.block _ (lt_of_block HH4.out)).trans HH4.out)
          have HK5 := Lib.hid ((hb5.block _ (lt_of_block HK4.out)).trans HK4.out)
          have B5 := Lib.hid (B4.out.trans (hb5.mono B4.out.size))
          have HT5 := Lib.hid (HT4.out.below hb5)
          have HTa5 := Lib.hid (HTa4.out.below hb5)
          have T5 := Lib.hid (T4.out.trans (hb5.mono T4.out.size))
          have HG5 : Hid (w5.heap[w4.heap.size]? = some (.cells a.cells 37 (0, 0))) := Lib.hid (by rw [hw5]; exact setRow_heap _ _ _ _ _ _ HQ5.out)
          have HW5 := Lib.hid hw5
          clear hb5 hw5
          clear d4 dlt
          by_cases he0 : ep = 0
          · subst he0
            have hbk := put_take HPL.out (HT3.out 4 (by decide)).2.2.1 HEP.out
            obtain ⟨La, hLa⟩ : ∃ x, x = setE (putE (L 4) (Ky.mk kb ki kl ks) nq) L 4 (putL (L 4) (Ky.mk kb ki kl ks) nq) := ⟨_, rfl⟩
            have la4 : La 4 = putL (L 4) (Ky.mk kb ki kl ks) nq := by rw [hLa]; exact setE_at HEP.out _ _ _
            have hHT : HT a La w5 := by rw [hLa]; exact HTa5.out
            have HTb5 := Lib.hid hHT
            have HLA := Lib.hid hLa
            have HE1 : Hid (((takeE (La 4) (Ky.mk kb ki kl ks) nq : Nat) : Int) = 0) := Lib.hid (by rw [la4, hbk.1]; rfl)
            have HL1 : Hid (takeL (La 4) (Ky.mk kb ki kl ks) nq = L 4) := Lib.hid (by rw [la4]; exact hbk.2)
            have HNA : Hid (a.n 4 ≤ 1001) := Lib.hid (by rw [(hHT 4 (by decide)).1, la4]; exact Nat.le_trans (putL_len _ _ _) (by rw [← HM.out]; omega))
            clear hbk la4 hHT hLa
            have HCAA : Hid (a.n 4 ≤ a.c 4 ∧ a.c 4 ≤ 9223372036854775807) := HCAPa
            go_wp2_with (first
              | (refine wpList_store_row rfl 37 (.tmp 8) (.tmp 51) rfl w4.heap.size a.cells rfl rfl _ _ HQ5.out (HSH.out _) rfl (H1C.out _) ?_; rw [← HW5.out])
              | (refine wpList_load_row rfl 37 (.tmp 8) rfl w4.heap.size rfl _ _ _ _ HG5.out huh rfl (HSH.out _) ?_)
              | (refine wpList_load_row rfl 39 (.tmp 4) rfl (w.heap.size + 1) rfl _ _ _ _ HK5.out huKey rfl HSKey.out ?_)
              | fail)
            refine (HCO.out.take a La kb ki kl ks nq _ HTb5.out (Nat.le_trans HNA.out (by decide)) HCAA.out).mono ?_
            intro e w6 ha
            obtain ⟨c, rfl, hat, hb6, haz, hof⟩ := PutP.hb (i := 4) (by decide) (takeL_things (HTb5.out 4 (by decide)).2.2.1 _ _) (Nat.le_trans (takeL_len _ _ _) (by rw [← (HTb5.out 4 (by decide)).1]; have := HNA.out; omega)) HTb5.out ha
            rw [HE1.out]
            have HH6 := Lib.hid ((hb6.block _ (lt_of_block HH5.out)).trans HH5.out)
            have HK6 := Lib.hid ((hb6.block _ (lt_of_block HK5.out)).trans HK5.out)
            have HG6 := Lib.hid ((hb6.block _ (lt_of_block HG5.out)).trans HG5.out)
            have B6 := Lib.hid (B5.out.trans (hb6.mono B5.out.size))
            have HT6 := Lib.hid (HT5.out.below hb6)
            have HTa6 := Lib.hid (HTa5.out.below hb6)
            have HTb6 := Lib.hid (HTb5.out.below hb6)
            have T6 := Lib.hid (T5.out.trans (hb6.mono T5.out.size))
            have HTc6 := Lib.hid hat
            have HZc := Lib.hid haz
            have HOFc := Lib.hid hof
            have HCAPc := Lib.hid (PutP.caps ha rfl (by decide) (HCAA.out))
            clear ha hat haz hb6 hof
            have HQ7 : Hid ((w6.alloc (.cells #[.slice none 0 0, .slice none 0 0, .slice none 0 0, .slice none 0 0, .slice none 0 0, .slice none 0 0, .slice none 0 0, .slice none 0 0, .slice none 0 0, .slice none 0 0, .slice none 0 0, .slice none 0 0, .slice none 0 0, .slice none 0 0, .int .i64 0] 37)).heap[w6.heap.size]? = some (.cells #[.slice none 0 0, .slice none 0 0, .slice none 0 0, .slice none 0 0, .slice none 0 0, .slice none 0 0, .slice none 0 0, .slice none 0 0, .slice none 0 0, .slice none 0 0, .slice none 0 0, .slice none 0 0, .slice none 0 0, .slice none 0 0, .int .i64 0] 37 (0, 0))) := Lib.hid (heap_alloc_new _ _)
            obtain ⟨w7, hw7⟩ : ∃ w', w' = (w6.alloc (.cells #[.slice none 0 0, .slice none 0 0, .slice none 0 0, .slice none 0 0, .slice none 0 0, .slice none 0 0, .slice none 0 0, .slice none 0 0, .slice none 0 0, .slice none 0 0, .slice none 0 0, .slice none 0 0, .slice none 0 0, .slice none 0 0, .int .i64 0] 37)).setRow w6.heap.size c.cells := ⟨_, rfl⟩
            have hb7 : Below w6.heap.size w6 w7 := by rw [hw7]; exact setRow_below ((Below.refl _ _).alloc (Nat.le_refl _) _) (Nat.le_refl _) _
            have HH7 := Lib.hid ((hb7.block _ (lt_of_block HH6.out)).trans HH6.out)
            have HK7 := Lib.hid ((hb7.block _ (lt_of_block HK6.out)).trans HK6.out)
            have HG7 := Lib.hid ((hb7.block _ (lt_of_block HG6.out)).trans HG6.out)
            have B7 := Lib.hid (B6.out.trans (hb7.mono B6.out.size))
            have HT7 := Lib.hid (HT6.out.below hb7)
            have HTa7 := Lib.hid (HTa6.out.below hb7)
            have HTb7 := Lib.hid (HTb6.out.below hb7)
            have HTc7 := Lib.hid (HTc6.out.below hb7)
            have T7 := Lib.hid (T6.out.trans (hb7.mono T6.out.size))
            have HC7 : Hid (w7.heap[w6.heap.size]? = some (.cells c.cells 37 (0, 0))) := Lib.hid (by rw [hw7]; exact setRow_heap _ _ _ _ _ _ HQ7.out)
            have HW7 := Lib.hid hw7
            clear hb7 hw7
            have HTc7 : Hid (HT c L w7) := Lib.hid (HT.congr HTc7.out (fun i hi => by
              have e8 : takeE (La 4) (Ky.mk kb ki kl ks) nq = 0 := by have := HE1.out; omega
              by_cases h3 : i = 4
              · subst h3; rw [setE_at e8]; exact HL1.out
              · rw [setE_off e8 _ h3, HLA.out]; exact setE_off HEP.out _ h3 _))
            have HZB : Hid (c.z = h.z) := Lib.hid (by
              have e8 : takeE (La 4) (Ky.mk kb ki kl ks) nq = 0 := by have := HE1.out; omega
              rw [HZc.out, e8, zE, if_pos rfl, HZa.out, HEP.out, zE, if_pos rfl])
            go_wp2_with (first
              | (refine wpList_store_row rfl 37 (.tmp 10) (.tmp 60) rfl w6.heap.size c.cells rfl rfl _ _ HQ7.out (HSH.out _) rfl (H1C.out _) ?_; rw [← HW7.out])
              | (refine BigFrame.wpList_want (by kernel_rfl) (fun K hK => Go.wp_load_mid 37 (.tmp 10) rfl w6.heap.size 0 rfl c.cells.toList _ (range_row0 HC7.out) huh rfl (HSHL.out _) (hK _ _ ?_)); clear hK K)
              | (refine BigFrame.wpList_want (by kernel_rfl) (fun K hK => Go.wp_load_mid 37 (.tmp 3) rfl w.heap.size 0 rfl h.cells.toList _ (range_row0 HH7.out) huh rfl (HSHL.out _) (hK _ _ ?_)); clear hK K)
              | fail)
            refine (same_true HTc7.out HT7.out HZB.out).mono ?_
            rintro e w8 ⟨rfl, hb8⟩
            have HH8 := Lib.hid ((hb8.block _ (lt_of_block HH7.out)).trans HH7.out)
            have HK8 := Lib.hid ((hb8.block _ (lt_of_block HK7.out)).trans HK7.out)
            have HG8 := Lib.hid ((hb8.block _ (lt_of_block HG7.out)).trans HG7.out)
            have HC8 := Lib.hid ((hb8.block _ (lt_of_block HC7.out)).trans HC7.out)
            have B8 := Lib.hid (B7.out.trans (hb8.mono B7.out.size))
            have HT8 := Lib.hid (HT7.out.below hb8)
            have HTa8 := Lib.hid (HTa7.out.below hb8)
            have HTb8 := Lib.hid (HTb7.out.below hb8)
            have HTc8 := Lib.hid (HTc7.out.below hb8)
            have T8 := Lib.hid (T7.out.trans (hb8.mono T7.out.size))
            clear hb8
            go_wp2_with (first
              | (refine wpList_load_row rfl 37 (.tmp 3) rfl w.heap.size rfl _ _ _ _ HH8.out huh rfl (HSH.out _) ?_)
              | (refine wpList_load_row rfl 39 (.tmp 4) rfl (w.heap.size + 1) rfl _ _ _ _ HK8.out huKey rfl HSKey.out ?_)
              | fail)
            refine (HCO.out.hold h L kb ki kl ks nq _ HT8.out (Nat.le_trans (HN.out 4 (by decide)) (by decide)) (HIN.out.c 4 (by decide))).mono ?_
            intro e w9 ha
            obtain ⟨d, rfl, hat, hb9, haz, hof⟩ := PutP.hb (i := 4) (by decide) (holdL_things (HT8.out 4 (by decide)).2.2.1 _ _) (Nat.le_trans (holdL_len _ _ _) (by rw [← (HT8.out 4 (by decide)).1]; have := HN.out 4 (by decide); omega)) HT8.out ha
            rw [HEH.out]
            have HH9 := Lib.hid ((hb9.block _ (lt_of_block HH8.out)).trans HH8.out)
            have HK9 := Lib.hid ((hb9.block _ (lt_of_block HK8.out)).trans HK8.out)
            have HG9 := Lib.hid ((hb9.block _ (lt_of_block HG8.out)).trans HG8.out)
            have HC9 := Lib.hid ((hb9.block _ (lt_of_block HC8.out)).trans HC8.out)
            have B9 := Lib.hid (B8.out.trans (hb9.mono B8.out.size))
            have HT9 := Lib.hid (HT8.out.below hb9)
            have HTa9 := Lib.hid (HTa8.out.below hb9)
            have HTb9 := Lib.hid (HTb8.out.below hb9)
            have HTc9 := Lib.hid (HTc8.out.below hb9)
            have T9 := Lib.hid (T8.out.trans (hb9.mono T8.out.size))
            have HTd9 := Lib.hid hat
            have HZd := Lib.hid haz
            have HOFd := Lib.hid hof
            have HCAPd := Lib.hid (PutP.caps ha rfl (by decide) (HIN.out.c 4 (by decide)))
            clear ha hat haz hb9 hof
            obtain ⟨w10, hw10⟩ : ∃ w', w' = w9.setRow w4.heap.size d.cells := ⟨_, rfl⟩
            have GE10 : Hid (wr.heap.size ≤ w4.heap.size) := Lib.hid T4.out.size
            have T10 : Hid (Below wr.heap.size wr w10) := Lib.hid (by rw [hw10]; exact setRow_below T9.out GE10.out _)
            have HH10 := Lib.hid ((T10.out.block _ (lt_of_block HH3.out)).trans HH3.out)
            have HK10 := Lib.hid ((T10.out.block _ (lt_of_block HK3.out)).trans HK3.out)
            have HT10 := Lib.hid (HT3.out.below T10.out)
            have B10 := Lib.hid (B3.out.trans (T10.out.mono B3.out.size))
            have HG10 : Hid (w10.heap[w4.heap.size]? = some (.cells d.cells 37 (0, 0))) := Lib.hid (by rw [hw10]; exact setRow_heap _ _ _ _ _ _ HG9.out)
            have HTd10 := Lib.hid (HTd9.out.setRowOff (HOFd.out _ (HT3.out.offge GE10.out) (lt_of_block HG8.out)) d.cells)
            rw [← hw10] at HTd10
            have HW10 := Lib.hid hw10
            clear hw10
            by_cases hh0 : eh = 0
            · subst hh0
              have hbk := hold_back HPL.out (HT3.out 4 (by decide)).2.2.1 HEH.out
              obtain ⟨Ld, hLd⟩ : ∃ x, x = setE (holdE (L 4) (Ky.mk kb ki kl ks) nq) L 4 (holdL (L 4) (Ky.mk kb ki kl ks) nq) := ⟨_, rfl⟩
              have ld4 : Ld 4 = holdL (L 4) (Ky.mk kb ki kl ks) nq := by rw [hLd]; exact setE_at HEH.out _ _ _
              have hHT : HT d Ld w10 := by rw [hLd]; exact HTd10.out
              have HTe10 := Lib.hid hHT
              have HLD := Lib.hid hLd
              have HE2 : Hid (((holdE (Ld 4) (Ky.mk kb ki kl ks) (-nq) : Nat) : Int) = 0) := Lib.hid (by rw [ld4, hbk.1]; rfl)
              have HL2 : Hid (holdL (Ld 4) (Ky.mk kb ki kl ks) (-nq) = L 4) := Lib.hid (by rw [ld4]; exact hbk.2)
              have HNE : Hid (d.n 4 ≤ 1001) := Lib.hid (by rw [(hHT 4 (by decide)).1, ld4]; exact Nat.le_trans (holdL_len _ _ _) (by rw [← HM.out]; omega))
              clear hbk ld4 hHT hLd
              have HNR : Hid (-1000000000 ≤ nq ∧ nq ≤ 1000000000) := Lib.hid (by
                have h5 := HEH.out
                unfold holdE at h5
                by_cases g1 : (atQ (L 4) (Ky.mk kb ki kl ks)).isSome = false
                · rw [if_pos g1] at h5; cases h5
                · rw [if_neg g1] at h5
                  by_cases g2 : nq < -1000000000 ∨ 1000000000 < nq
                  · rw [if_pos g2] at h5; cases h5
                  · omega)
              have hng : wrap64 (-nq) = -nq := w64 (by have := HNR.out; omega) (by have := HNR.out; omega)
              have HCAP : Hid (d.n 4 ≤ d.c 4 ∧ d.c 4 ≤ 9223372036854775807) := HCAPd
              go_wp2_with (first
                | (refine wpList_store_row rfl 37 (.tmp 8) (.tmp 75) rfl w4.heap.size d.cells rfl rfl _ _ HG9.out (HSH.out _) rfl (H1C.out _) ?_; rw [← HW10.out])
                | (refine wpList_load_row rfl 37 (.tmp 8) rfl w4.heap.size rfl _ _ _ _ HG10.out huh rfl (HSH.out _) ?_)
                | (refine wpList_load_row rfl 39 (.tmp 4) rfl (w.heap.size + 1) rfl _ _ _ _ HK10.out huKey rfl HSKey.out ?_)
                | fail)
              refine (HCO.out.hold d Ld kb ki kl ks (-nq) _ HTe10.out (Nat.le_trans HNE.out (by decide)) HCAP.out).mono ?_
              intro e w11 ha
              obtain ⟨f, rfl, hat, hb11, haz, hof⟩ := PutP.hb (i := 4) (by decide) (holdL_things (HTe10.out 4 (by decide)).2.2.1 _ _) (Nat.le_trans (holdL_len _ _ _) (by rw [← (HTe10.out 4 (by decide)).1]; have := HNE.out; omega)) HTe10.out ha
              rw [HE2.out]
              have HH11 := Lib.hid ((hb11.block _ (lt_of_block HH10.out)).trans HH10.out)
              have HK11 := Lib.hid ((hb11.block _ (lt_of_block HK10.out)).trans HK10.out)
              have HG11 := Lib.hid ((hb11.block _ (lt_of_block HG10.out)).trans HG10.out)
              have B11 := Lib.hid (B10.out.trans (hb11.mono B10.out.size))
              have HT11 := Lib.hid (HT10.out.below hb11)
              have HTd11 := Lib.hid (HTd10.out.below hb11)
              have HTe11 := Lib.hid (HTe10.out.below hb11)
              have T11 := Lib.hid (T10.out.trans (hb11.mono T10.out.size))
              have HTf11 := Lib.hid hat
              have HZf := Lib.hid haz
              have HOFf := Lib.hid hof
              have HCAPf := Lib.hid (PutP.caps ha rfl (by decide) (HCAP.out))
              clear ha hat haz hb11 hof
              clear hng
              have HQ12 : Hid ((w11.alloc (.cells #[.slice none 0 0, .slice none 0 0, .slice none 0 0, .slice none 0 0, .slice none 0 0, .slice none 0 0, .slice none 0 0, .slice none 0 0, .slice none 0 0, .slice none 0 0, .slice none 0 0, .slice none 0 0, .slice none 0 0, .slice none 0 0, .int .i64 0] 37)).heap[w11.heap.size]? = some (.cells #[.slice none 0 0, .slice none 0 0, .slice none 0 0, .slice none 0 0, .slice none 0 0, .slice none 0 0, .slice none 0 0, .slice none 0 0, .slice none 0 0, .slice none 0 0, .slice none 0 0, .slice none 0 0, .slice none 0 0, .slice none 0 0, .int .i64 0] 37 (0, 0))) := Lib.hid (heap_alloc_new _ _)
              obtain ⟨w12, hw12⟩ : ∃ w', w' = (w11.alloc (.cells #[.slice none 0 0, .slice none 0 0, .slice none 0 0, .slice none 0 0, .slice none 0 0, .slice none 0 0, .slice none 0 0, .slice none 0 0, .slice none 0 0, .slice none 0 0, .slice none 0 0, .slice none 0 0, .slice none 0 0, .slice none 0 0, .int .i64 0] 37)).setRow w11.heap.size f.cells := ⟨_, rfl⟩
              have hb12 : Below w11.heap.size w11 w12 := by rw [hw12]; exact setRow_below ((Below.refl _ _).alloc (Nat.le_refl _) _) (Nat.le_refl _) _
              have HH12 := Lib.hid ((hb12.block _ (lt_of_block HH11.out)).trans HH11.out)
              have HK12 := Lib.hid ((hb12.block _ (lt_of_block HK11.out)).trans HK11.out)
              have HG12 := Lib.hid ((hb12.block _ (lt_of_block HG11.out)).trans HG11.out)
              have B12 := Lib.hid (B11.out.trans (hb12.mono B11.out.size))
              have HT12 := Lib.hid (HT11.out.below hb12)
              have HTd12 := Lib.hid (HTd11.out.below hb12)
              have HTe12 := Lib.hid (HTe11.out.below hb12)
              have HTf12 := Lib.hid (HTf11.out.below hb12)
              have T12 := Lib.hid (T11.out.trans (hb12.mono T11.out.size))
              have HF12 : Hid (w12.heap[w11.heap.size]? = some (.cells f.cells 37 (0, 0))) := Lib.hid (by rw [hw12]; exact setRow_heap _ _ _ _ _ _ HQ12.out)
              have HW12 := Lib.hid hw12
              clear hb12 hw12
              have HTf12 : Hid (HT f L w12) := Lib.hid (HT.congr HTf12.out (fun i hi => by
                have e8 : holdE (Ld 4) (Ky.mk kb ki kl ks) (-nq) = 0 := by have := HE2.out; omega
                by_cases h3 : i = 4
                · subst h3; rw [setE_at e8]; exact HL2.out
                · rw [setE_off e8 _ h3, HLD.out]; exact setE_off HEH.out _ h3 _))
              have HZC : Hid (f.z = h.z) := Lib.hid (by
                have e8 : holdE (Ld 4) (Ky.mk kb ki kl ks) (-nq) = 0 := by have := HE2.out; omega
                rw [HZf.out, e8, zE, if_pos rfl, HZd.out, HEH.out, zE, if_pos rfl])
              go_wp2_with (first
                | (refine wpList_store_row rfl 37 (.tmp 12) (.tmp 85) rfl w11.heap.size f.cells rfl rfl _ _ HQ12.out (HSH.out _) rfl (H1C.out _) ?_; rw [← HW12.out])
                | (refine BigFrame.wpList_want (by kernel_rfl) (fun K hK => Go.wp_load_mid 37 (.tmp 12) rfl w11.heap.size 0 rfl f.cells.toList _ (range_row0 HF12.out) huh rfl (HSHL.out _) (hK _ _ ?_)); clear hK K)
                | (refine BigFrame.wpList_want (by kernel_rfl) (fun K hK => Go.wp_load_mid 37 (.tmp 3) rfl w.heap.size 0 rfl h.cells.toList _ (range_row0 HH12.out) huh rfl (HSHL.out _) (hK _ _ ?_)); clear hK K)
                | fail)
              refine (same_true HTf12.out HT12.out HZC.out).mono ?_
              rintro e w13 ⟨rfl, hb13⟩
              have HH13 := Lib.hid ((hb13.block _ (lt_of_block HH12.out)).trans HH12.out)
              have HK13 := Lib.hid ((hb13.block _ (lt_of_block HK12.out)).trans HK12.out)
              have HG13 := Lib.hid ((hb13.block _ (lt_of_block HG12.out)).trans HG12.out)
              have HF13 := Lib.hid ((hb13.block _ (lt_of_block HF12.out)).trans HF12.out)
              have B13 := Lib.hid (B12.out.trans (hb13.mono B12.out.size))
              have HT13 := Lib.hid (HT12.out.below hb13)
              have HTd13 := Lib.hid (HTd12.out.below hb13)
              have HTe13 := Lib.hid (HTe12.out.below hb13)
              have HTf13 := Lib.hid (HTf12.out.below hb13)
              have T13 := Lib.hid (T12.out.trans (hb13.mono T12.out.size))
              clear hb13
              go_wp2_with fail
              refine (HAW.out _).mono ?_
              rintro e w14 ⟨rfl, hb14⟩
              have HH14 := Lib.hid ((hb14.block _ (lt_of_block HH13.out)).trans HH13.out)
              have HK14 := Lib.hid ((hb14.block _ (lt_of_block HK13.out)).trans HK13.out)
              have HG14 := Lib.hid ((hb14.block _ (lt_of_block HG13.out)).trans HG13.out)
              have HF14 := Lib.hid ((hb14.block _ (lt_of_block HF13.out)).trans HF13.out)
              have B14 := Lib.hid (B13.out.trans (hb14.mono B13.out.size))
              have HT14 := Lib.hid (HT13.out.below hb14)
              have HTd14 := Lib.hid (HTd13.out.below hb14)
              have HTe14 := Lib.hid (HTe13.out.below hb14)
              have HTf14 := Lib.hid (HTf13.out.below hb14)
              have T14 := Lib.hid (T13.out.trans (hb14.mono T13.out.size))
              clear hb14
              go_wp2_with fail
              go_ret
              exact ⟨rfl, B14.out⟩
            · have hjb : ((eh : Int) == 0) = false := by simpa using hh0
              clear hh0
              go_wp2_with (first
                | (refine wpList_store_row rfl 37 (.tmp 8) (.tmp 75) rfl w4.heap.size d.cells rfl rfl _ _ HG9.out (HSH.out _) rfl (H1C.out _) ?_; rw [← HW10.out])
                | fail)
              refine (HAW.out _).mono ?_
              rintro e w11 ⟨rfl, hb11⟩
              have HH11 := Lib.hid ((hb11.block _ (lt_of_block HH10.out)).trans HH10.out)
              have HK11 := Lib.hid ((hb11.block _ (lt_of_block HK10.out)).trans HK10.out)
              have HG11 := Lib.hid ((hb11.block _ (lt_of_block HG10.out)).trans HG10.out)
              have B11 := Lib.hid (B10.out.trans (hb11.mono B10.out.size))
              have HT11 := Lib.hid (HT10.out.below hb11)
              have HTd11 := Lib.hid (HTd10.out.below hb11)
              have T11 := Lib.hid (T10.out.trans (hb11.mono T10.out.size))
              clear hb11
              go_wp2_with fail
              go_ret
              exact ⟨rfl, B11.out⟩
          · have hja : ((ep : Int) == 0) = false := by simpa using he0
            clear he0
            go_wp2_with (first
              | (refine wpList_store_row rfl 37 (.tmp 8) (.tmp 51) rfl w4.heap.size a.cells rfl rfl _ _ HQ5.out (HSH.out _) rfl (H1C.out _) ?_; rw [← HW5.out])
              | (refine wpList_load_row rfl 37 (.tmp 3) rfl w.heap.size rfl _ _ _ _ HH5.out huh rfl (HSH.out _) ?_)
              | (refine wpList_load_row rfl 39 (.tmp 4) rfl (w.heap.size + 1) rfl _ _ _ _ HK5.out huKey rfl HSKey.out ?_)
              | fail)
            refine (HCO.out.hold h L kb ki kl ks nq _ HT5.out (Nat.le_trans (HN.out 4 (by decide)) (by decide)) (HIN.out.c 4 (by decide))).mono ?_
            intro e w6 ha
            obtain ⟨d, rfl, hat, hb6, haz, hof⟩ := PutP.hb (i := 4) (by decide) (holdL_things (HT5.out 4 (by decide)).2.2.1 _ _) (Nat.le_trans (holdL_len _ _ _) (by rw [← (HT5.out 4 (by decide)).1]; have := HN.out 4 (by decide); omega)) HT5.out ha
            rw [HEH.out]
            have HH6 := Lib.hid ((hb6.block _ (lt_of_block HH5.out)).trans HH5.out)
            have HK6 := Lib.hid ((hb6.block _ (lt_of_block HK5.out)).trans HK5.out)
            have HG6 := Lib.hid ((hb6.block _ (lt_of_block HG5.out)).trans HG5.out)
            have B6 := Lib.hid (B5.out.trans (hb6.mono B5.out.size))
            have HT6 := Lib.hid (HT5.out.below hb6)
            have HTa6 := Lib.hid (HTa5.out.below hb6)
            have T6 := Lib.hid (T5.out.trans (hb6.mono T5.out.size))
            have HTd6 := Lib.hid hat
            have HZd := Lib.hid haz
            have HOFd := Lib.hid hof
            have HCAPd := Lib.hid (PutP.caps ha rfl (by decide) (HIN.out.c 4 (by decide)))
            clear ha hat haz hb6 hof
            obtain ⟨w7, hw7⟩ : ∃ w', w' = w6.setRow w4.heap.size d.cells := ⟨_, rfl⟩
            have GE7 : Hid (wr.heap.size ≤ w4.heap.size) := Lib.hid T4.out.size
            have T7 : Hid (Below wr.heap.size wr w7) := Lib.hid (by rw [hw7]; exact setRow_below T6.out GE7.out _)
            have HH7 := Lib.hid ((T7.out.block _ (lt_of_block HH3.out)).trans HH3.out)
            have HK7 := Lib.hid ((T7.out.block _ (lt_of_block HK3.out)).trans HK3.out)
            have HT7 := Lib.hid (HT3.out.below T7.out)
            have B7 := Lib.hid (B3.out.trans (T7.out.mono B3.out.size))
            have HG7 : Hid (w7.heap[w4.heap.size]? = some (.cells d.cells 37 (0, 0))) := Lib.hid (by rw [hw7]; exact setRow_heap _ _ _ _ _ _ HG6.out)
            have HTd7 := Lib.hid (HTd6.out.setRowOff (HOFd.out _ (HT3.out.offge GE7.out) (lt_of_block HG5.out)) d.cells)
            rw [← hw7] at HTd7
            have HW7 := Lib.hid hw7
            clear hw7
            by_cases hh0 : eh = 0
            · subst hh0
              have hbk := hold_back HPL.out (HT3.out 4 (by decide)).2.2.1 HEH.out
              obtain ⟨Ld, hLd⟩ : ∃ x, x = setE (holdE (L 4) (Ky.mk kb ki kl ks) nq) L 4 (holdL (L 4) (Ky.mk kb ki kl ks) nq) := ⟨_, rfl⟩
              have ld4 : Ld 4 = holdL (L 4) (Ky.mk kb ki kl ks) nq := by rw [hLd]; exact setE_at HEH.out _ _ _
              have hHT : HT d Ld w7 := by rw [hLd]; exact HTd7.out
              have HTe7 := Lib.hid hHT
              have HLD := Lib.hid hLd
              have HE2 : Hid (((holdE (Ld 4) (Ky.mk kb ki kl ks) (-nq) : Nat) : Int) = 0) := Lib.hid (by rw [ld4, hbk.1]; rfl)
              have HL2 : Hid (holdL (Ld 4) (Ky.mk kb ki kl ks) (-nq) = L 4) := Lib.hid (by rw [ld4]; exact hbk.2)
              have HNE : Hid (d.n 4 ≤ 1001) := Lib.hid (by rw [(hHT 4 (by decide)).1, ld4]; exact Nat.le_trans (holdL_len _ _ _) (by rw [← HM.out]; omega))
              clear hbk ld4 hHT hLd
              have HNR : Hid (-1000000000 ≤ nq ∧ nq ≤ 1000000000) := Lib.hid (by
                have h5 := HEH.out
                unfold holdE at h5
                by_cases g1 : (atQ (L 4) (Ky.mk kb ki kl ks)).isSome = false
                · rw [if_pos g1] at h5; cases h5
                · rw [if_neg g1] at h5
                  by_cases g2 : nq < -1000000000 ∨ 1000000000 < nq
                  · rw [if_pos g2] at h5; cases h5
                  · omega)
              have hng : wrap64 (-nq) = -nq := w64 (by have := HNR.out; omega) (by have := HNR.out; omega)
              have HCAP : Hid (d.n 4 ≤ d.c 4 ∧ d.c 4 ≤ 9223372036854775807) := HCAPd
              go_wp2_with (first
                | (refine wpList_store_row rfl 37 (.tmp 8) (.tmp 75) rfl w4.heap.size d.cells rfl rfl _ _ HG6.out (HSH.out _) rfl (H1C.out _) ?_; rw [← HW7.out])
                | (refine wpList_load_row rfl 37 (.tmp 8) rfl w4.heap.size rfl _ _ _ _ HG7.out huh rfl (HSH.out _) ?_)
                | (refine wpList_load_row rfl 39 (.tmp 4) rfl (w.heap.size + 1) rfl _ _ _ _ HK7.out huKey rfl HSKey.out ?_)
                | fail)
              refine (HCO.out.hold d Ld kb ki kl ks (-nq) _ HTe7.out (Nat.le_trans HNE.out (by decide)) HCAP.out).mono ?_
              intro e w8 ha
              obtain ⟨f, rfl, hat, hb8, haz, hof⟩ := PutP.hb (i := 4) (by decide) (holdL_things (HTe7.out 4 (by decide)).2.2.1 _ _) (Nat.le_trans (holdL_len _ _ _) (by rw [← (HTe7.out 4 (by decide)).1]; have := HNE.out; omega)) HTe7.out ha
              rw [HE2.out]
              have HH8 := Lib.hid ((hb8.block _ (lt_of_block HH7.out)).trans HH7.out)
              have HK8 := Lib.hid ((hb8.block _ (lt_of_block HK7.out)).trans HK7.out)
              have HG8 := Lib.hid ((hb8.block _ (lt_of_block HG7.out)).trans HG7.out)
              have B8 := Lib.hid (B7.out.trans (hb8.mono B7.out.size))
              have HT8 := Lib.hid (HT7.out.below hb8)
              have HTd8 := Lib.hid (HTd7.out.below hb8)
              have HTe8 := Lib.hid (HTe7.out.below hb8)
              have T8 := Lib.hid (T7.out.trans (hb8.mono T7.out.size))
              have HTf8 := Lib.hid hat
              have HZf := Lib.hid haz
              have HOFf := Lib.hid hof
              have HCAPf := Lib.hid (PutP.caps ha rfl (by decide) (HCAP.out))
              clear ha hat haz hb8 hof
              clear hng
              have HQ9 : Hid ((w8.alloc (.cells #[.slice none 0 0, .slice none 0 0, .slice none 0 0, .slice none 0 0, .slice none 0 0, .slice none 0 0, .slice none 0 0, .slice none 0 0, .slice none 0 0, .slice none 0 0, .slice none 0 0, .slice none 0 0, .slice none 0 0, .slice none 0 0, .int .i64 0] 37)).heap[w8.heap.size]? = some (.cells #[.slice none 0 0, .slice none 0 0, .slice none 0 0, .slice none 0 0, .slice none 0 0, .slice none 0 0, .slice none 0 0, .slice none 0 0, .slice none 0 0, .slice none 0 0, .slice none 0 0, .slice none 0 0, .slice none 0 0, .slice none 0 0, .int .i64 0] 37 (0, 0))) := Lib.hid (heap_alloc_new _ _)
              obtain ⟨w9, hw9⟩ : ∃ w', w' = (w8.alloc (.cells #[.slice none 0 0, .slice none 0 0, .slice none 0 0, .slice none 0 0, .slice none 0 0, .slice none 0 0, .slice none 0 0, .slice none 0 0, .slice none 0 0, .slice none 0 0, .slice none 0 0, .slice none 0 0, .slice none 0 0, .slice none 0 0, .int .i64 0] 37)).setRow w8.heap.size f.cells := ⟨_, rfl⟩
              have hb9 : Below w8.heap.size w8 w9 := by rw [hw9]; exact setRow_below ((Below.refl _ _).alloc (Nat.le_refl _) _) (Nat.le_refl _) _
              have HH9 := Lib.hid ((hb9.block _ (lt_of_block HH8.out)).trans HH8.out)
              have HK9 := Lib.hid ((hb9.block _ (lt_of_block HK8.out)).trans HK8.out)
              have HG9 := Lib.hid ((hb9.block _ (lt_of_block HG8.out)).trans HG8.out)
              have B9 := Lib.hid (B8.out.trans (hb9.mono B8.out.size))
              have HT9 := Lib.hid (HT8.out.below hb9)
              have HTd9 := Lib.hid (HTd8.out.below hb9)
              have HTe9 := Lib.hid (HTe8.out.below hb9)
              have HTf9 := Lib.hid (HTf8.out.below hb9)
              have T9 := Lib.hid (T8.out.trans (hb9.mono T8.out.size))
              have HF9 : Hid (w9.heap[w8.heap.size]? = some (.cells f.cells 37 (0, 0))) := Lib.hid (by rw [hw9]; exact setRow_heap _ _ _ _ _ _ HQ9.out)
              have HW9 := Lib.hid hw9
              clear hb9 hw9
              have HTf9 : Hid (HT f L w9) := Lib.hid (HT.congr HTf9.out (fun i hi => by
                have e8 : holdE (Ld 4) (Ky.mk kb ki kl ks) (-nq) = 0 := by have := HE2.out; omega
                by_cases h3 : i = 4
                · subst h3; rw [setE_at e8]; exact HL2.out
                · rw [setE_off e8 _ h3, HLD.out]; exact setE_off HEH.out _ h3 _))
              have HZC : Hid (f.z = h.z) := Lib.hid (by
                have e8 : holdE (Ld 4) (Ky.mk kb ki kl ks) (-nq) = 0 := by have := HE2.out; omega
                rw [HZf.out, e8, zE, if_pos rfl, HZd.out, HEH.out, zE, if_pos rfl])
              go_wp2_with (first
                | (refine wpList_store_row rfl 37 (.tmp 12) (.tmp 85) rfl w8.heap.size f.cells rfl rfl _ _ HQ9.out (HSH.out _) rfl (H1C.out _) ?_; rw [← HW9.out])
                | (refine BigFrame.wpList_want (by kernel_rfl) (fun K hK => Go.wp_load_mid 37 (.tmp 12) rfl w8.heap.size 0 rfl f.cells.toList _ (range_row0 HF9.out) huh rfl (HSHL.out _) (hK _ _ ?_)); clear hK K)
                | (refine BigFrame.wpList_want (by kernel_rfl) (fun K hK => Go.wp_load_mid 37 (.tmp 3) rfl w.heap.size 0 rfl h.cells.toList _ (range_row0 HH9.out) huh rfl (HSHL.out _) (hK _ _ ?_)); clear hK K)
                | fail)
              refine (same_true HTf9.out HT9.out HZC.out).mono ?_
              rintro e w10 ⟨rfl, hb10⟩
              have HH10 := Lib.hid ((hb10.block _ (lt_of_block HH9.out)).trans HH9.out)
              have HK10 := Lib.hid ((hb10.block _ (lt_of_block HK9.out)).trans HK9.out)
              have HG10 := Lib.hid ((hb10.block _ (lt_of_block HG9.out)).trans HG9.out)
              have HF10 := Lib.hid ((hb10.block _ (lt_of_block HF9.out)).trans HF9.out)
              have B10 := Lib.hid (B9.out.trans (hb10.mono B9.out.size))
              have HT10 := Lib.hid (HT9.out.below hb10)
              have HTd10 := Lib.hid (HTd9.out.below hb10)
              have HTe10 := Lib.hid (HTe9.out.below hb10)
              have HTf10 := Lib.hid (HTf9.out.below hb10)
              have T10 := Lib.hid (T9.out.trans (hb10.mono T9.out.size))
              clear hb10
              go_wp2_with fail
              refine (HAW.out _).mono ?_
              rintro e w11 ⟨rfl, hb11⟩
              have HH11 := Lib.hid ((hb11.block _ (lt_of_block HH10.out)).trans HH10.out)
              have HK11 := Lib.hid ((hb11.block _ (lt_of_block HK10.out)).trans HK10.out)
              have HG11 := Lib.hid ((hb11.block _ (lt_of_block HG10.out)).trans HG10.out)
              have HF11 := Lib.hid ((hb11.block _ (lt_of_block HF10.out)).trans HF10.out)
              have B11 := Lib.hid (B10.out.trans (hb11.mono B10.out.size))
              have HT11 := Lib.hid (HT10.out.below hb11)
              have HTd11 := Lib.hid (HTd10.out.below hb11)
              have HTe11 := Lib.hid (HTe10.out.below hb11)
              have HTf11 := Lib.hid (HTf10.out.below hb11)
              have T11 := Lib.hid (T10.out.trans (hb11.mono T10.out.size))
              clear hb11
              go_wp2_with fail
              go_ret
              exact ⟨rfl, B11.out⟩
            · have hjb : ((eh : Int) == 0) = false := by simpa using hh0
              clear hh0
              go_wp2_with (first
                | (refine wpList_store_row rfl 37 (.tmp 8) (.tmp 75) rfl w4.heap.size d.cells rfl rfl _ _ HG6.out (HSH.out _) rfl (H1C.out _) ?_; rw [← HW7.out])
                | fail)
              refine (HAW.out _).mono ?_
              rintro e w8 ⟨rfl, hb8⟩
              have HH8 := Lib.hid ((hb8.block _ (lt_of_block HH7.out)).trans HH7.out)
              have HK8 := Lib.hid ((hb8.block _ (lt_of_block HK7.out)).trans HK7.out)
              have HG8 := Lib.hid ((hb8.block _ (lt_of_block HG7.out)).trans HG7.out)
              have B8 := Lib.hid (B7.out.trans (hb8.mono B7.out.size))
              have HT8 := Lib.hid (HT7.out.below hb8)
              have HTd8 := Lib.hid (HTd7.out.below hb8)
              have T8 := Lib.hid (T7.out.trans (hb8.mono T7.out.size))
              clear hb8
              go_wp2_with fail
              go_ret
              exact ⟨rfl, B8.out⟩
theorem walk (C : Cons) (h : Hs) (L : Nat → List (List Value)) (cs : List Value) (z : Int) (w : World) (hin : HIn h L w) (fs : Fits kKey cs) (ms : ∀ u ∈ cs, Mild u) (hz : Wf z) :
    Calls Try.prog 3 #[.agg h.cells, .agg cs.toArray, .int .i64 z] w fun e w' => e = .returned (.bool true) ∧ Below w.heap.size w w' := by
  have e := ky_cells fs
  rw [show cs.toArray = (kyOf cs).cells.toArray from congrArg List.toArray e]
  exact walk0 C h L _ _ _ _ z w hin hz
end Go.Proofs.Ytjacodbmmhnopaa.stockBack
