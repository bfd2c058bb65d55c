/-
  THE LAW RulesFit, over the contracts. (By wip/tools/gen_fit13.py.)
-/
import Derived.Test.YtjphjblcahadkaaUHead
import Derived.Test.YtjphjblcahadkaaUFit
import Derived.Deep.RegionHeld3
import Derived.BigQuiet
namespace Go.Proofs.Ytjphjblcahadkaa.rulesFit
set_option linter.unusedVariables false
open Go.RowKit
open Pl (firstG findG putG)

set_option maxRecDepth 100000 in
set_option maxHeartbeats 12800000 in
theorem walk0 (C : Cons) (h : Hs) (L : Nat → List (List Value)) (st it : ByteArray) (nq : Int) (w : World) (hin : HIn h L w) (hq : Wf nq) :
    Calls Try.prog 3 #[.agg h.cells, .agg #[.string st, .string it, .int .i64 nq]] w fun e w' => e = .returned (.bool true) ∧ Below w.heap.size w w' := by
  have HIN := Lib.hid hin
  have HCO := Lib.hid C
  have HWQ := Lib.hid hq
  have HAW : Hid (∀ W, Calls Try.prog 6 #[] W fun e w' => e = .returned (.bool true) ∧ Below W.heap.size W w') := Lib.hid (fun W => awake_any C W)
  obtain ⟨rt, hrt⟩ : ∃ z, sugT (L 0) (L 2) (L 3) (L 4) (L 5) st it nq = z := ⟨_, rfl⟩
  obtain ⟨rn, hre⟩ : ∃ z : Nat, sugE (L 0) (L 2) (L 3) (L 4) (L 5) st it nq = z := ⟨_, rfl⟩
  have HFC := Lib.hid (fit_cases (L 0) (L 2) (L 3) (L 4) (L 5) st it nq)
  rw [hrt, hre] at HFC
  have HRT := Lib.hid hrt
  have HRE := Lib.hid hre
  obtain ⟨W0, hW0⟩ : ∃ W0, W0 = ((w.alloc (.cells h.cells 37)).alloc (.cells #[.string st, .string it, .int .i64 nq] 39)) := ⟨_, rfl⟩
  have B0 : Hid (Below w.heap.size w W0) := Lib.hid (by rw [hW0]; exact ((Below.refl _ _).alloc (Nat.le_refl _) _).alloc (by simp <;> omega) _)
  have HH0 : Hid (W0.heap[w.heap.size]? = some (.cells h.cells 37 (0, 0))) := Lib.hid (by
    rw [hW0]
    have hq := heap_alloc_new w (.cells h.cells 37)
    exact (Below.heap_alloc _ _ _ (by simp <;> omega)).trans (by simpa using hq))
  have HQ0 : Hid (W0.heap[w.heap.size + 1]? = some (.cells #[.string st, .string it, .int .i64 nq] 39 (0, 0))) := Lib.hid (by
    rw [hW0]
    have hq := heap_alloc_new (w.alloc (.cells h.cells 37)) (.cells #[.string st, .string it, .int .i64 nq] 39)
    exact by simpa using hq)
  have huh := Try.underlying37
  have HSH : Hid (∀ a : Hs, (Try.prog.info? 37).map (·.size) = some a.cells.size) := Lib.hid (fun a => by kernel_rfl)
  have HSHL : Hid (∀ a : Hs, (Try.prog.info? 37).map (·.size) = some a.cells.toList.length) := Lib.hid (fun a => by kernel_rfl)
  have H1C : Hid (∀ a : Hs, a.cells.all (·.oneCell') = true) := Lib.hid (fun a => by simp [Hs.cells, Value.oneCell'])
  have huAsk := Try.underlying39
  have HSAsk : Hid ((Try.prog.info? 39).map (·.size) = some 3) := Lib.hid (by kernel_rfl)
  have huBin := Try.underlying46
  have HSBin : Hid ((Try.prog.info? 46).map (·.size) = some 8) := Lib.hid (by kernel_rfl)
  clear hin hq hrt hre
  subst hW0
  go_enter Try.func3, Try.ntmps3
  go_wp2_with (first
    | (refine wpList_load_row rfl 37 (.tmp 2) rfl w.heap.size rfl _ _ _ _ HH0.out huh rfl (HSH.out _) ?_)
    | fail)
  refine (small_calls h _).mono ?_
  rintro e w1 ⟨⟨b, rfl, hb⟩, hb1⟩
  have HH1 := Lib.hid ((hb1.block _ (lt_of_block HH0.out)).trans HH0.out)
  have HQ1 := Lib.hid ((hb1.block _ (lt_of_block HQ0.out)).trans HQ0.out)
  have B1 := Lib.hid (B0.out.trans (hb1.mono B0.out.size))
  clear hb1
  cases b with
  | false =>
    clear hb
    go_wp2_with fail
    refine (HAW.out _).mono ?_
    rintro e w2 ⟨rfl, hb2⟩
    have HB2 := Lib.hid (B1.out.trans (hb2.mono B1.out.size))
    clear hb2
    go_wp2_with fail
    go_ret
    exact ⟨rfl, HB2.out⟩
  | true =>
    have HSM := Lib.hid (hb.1 rfl)
    clear hb
    have HT1 : Hid (HT h L w1) := Lib.hid (HIN.out.ht HSM.out B1.out)
    have HN : Hid (∀ i, i < 14 → h.n i ≤ 1000) := Lib.hid (fun i hi => Nat.le_trans (HSM.out i hi) (cap_le i hi))
    have CG : Hid (∀ W, HT h L W → Calls Try.prog 7 #[.agg h.cells, .string st, .string it, .int .i64 nq] W fun e w' => e = .returned (.tuple #[.string rt, .int .i64 (rn : Nat)]) ∧ Below W.heap.size W w') := Lib.hid (fun W hW => by rw [← HRT.out, ← HRE.out]; exact HCO.out.sug h L st it nq W hW (HN.out 3 (by decide)) (Nat.le_succ_of_le (HN.out 5 (by decide))) HWQ.out)
    have x0 : w1.cell? ⟨w.heap.size + 1, 0, none⟩ = some (.string st) := by rw [cell_of_block HQ1.out]; rfl
    have x1 : w1.cell? ⟨w.heap.size + 1, 1, none⟩ = some (.string it) := by rw [cell_of_block HQ1.out]; rfl
    have x2 : w1.cell? ⟨w.heap.size + 1, 2, none⟩ = some (.int .i64 nq) := by rw [cell_of_block HQ1.out]; rfl
    have xlt : w.heap.size + 1 < w1.heap.size := lt_of_block HQ1.out
    go_wp2_with (first
      | (refine wpList_load_row rfl 37 (.tmp 2) rfl w.heap.size rfl _ _ _ _ HH1.out huh rfl (HSH.out _) ?_)
      | fail)
    refine (CG.out _ HT1.out).mono ?_
    rintro e w2 ⟨rfl, hb2⟩
    have HH2 := Lib.hid ((hb2.block _ (lt_of_block HH1.out)).trans HH1.out)
    have HQ2 := Lib.hid ((hb2.block _ (lt_of_block HQ1.out)).trans HQ1.out)
    have B2 := Lib.hid (B1.out.trans (hb2.mono B1.out.size))
    have HT2 := Lib.hid (HT1.out.below hb2)
    clear hb2
    clear x0 x1 x2 xlt
    obtain ⟨m, hm⟩ : ∃ n, h.n 3 = n := ⟨_, rfl⟩
    obtain ⟨m5, hm5⟩ : ∃ n, h.n 5 = n := ⟨_, rfl⟩
    have HM : Hid (m = (L 3).length) := Lib.hid (by rw [← hm]; exact (HT2.out 3 (by decide)).1)
    have HM5 : Hid (m5 = (L 5).length) := Lib.hid (by rw [← hm5]; exact (HT2.out 5 (by decide)).1)
    have hm9 : m ≤ 1000 := by rw [← hm]; exact HN.out 3 (by decide)
    have hm8 : m5 ≤ 1000 := by rw [← hm5]; exact HN.out 5 (by decide)
    have HHX : Hid (∀ X, Below w2.heap.size w2 X → X.heap[w.heap.size]? = some (.cells h.cells 37 (0, 0)) ∧ X.cell? ⟨w.heap.size, 3, none⟩ = some (.slice (h.A 3) m (h.c 3)) ∧ X.cell? ⟨w.heap.size, 5, none⟩ = some (.slice (h.A 5) m5 (h.c 5)) ∧ w.heap.size < X.heap.size) := Lib.hid (fun X hX => by
      have q := (hX.block _ (lt_of_block HH2.out)).trans HH2.out
      exact ⟨q, by rw [cell_of_block q, ← hm]; rfl, by rw [cell_of_block q, ← hm5]; rfl, lt_of_block q⟩)
    have HQX : Hid (∀ X, Below w2.heap.size w2 X → X.cell? ⟨w.heap.size + 1, 0, none⟩ = some (.string st) ∧ X.cell? ⟨w.heap.size + 1, 1, none⟩ = some (.string it) ∧ X.cell? ⟨w.heap.size + 1, 2, none⟩ = some (.int .i64 nq) ∧ w.heap.size + 1 < X.heap.size) := Lib.hid (fun X hX => by
      have q := (hX.block _ (lt_of_block HQ2.out)).trans HQ2.out
      exact ⟨by rw [cell_of_block q]; rfl, by rw [cell_of_block q]; rfl, by rw [cell_of_block q]; rfl, lt_of_block q⟩)
    have HS8 : Hid ((Try.prog.info? 46).map (·.size) = some 8) := Lib.hid (by kernel_rfl)
    clear hm hm5
    rcases HFC.out with ⟨rfl, rfl⟩ | ⟨rfl, rfl, hj⟩ | ⟨rfl, j, hj⟩
    ·
      go_wp2_with fail
      refine (HAW.out _).mono ?_
      rintro e w7 ⟨rfl, hb7⟩
      have H7 := Lib.hid (Below.refl w2.heap.size w2 |>.trans hb7)
      clear hb7
      go_wp2_with fail
      go_ret
      exact ⟨rfl, B2.out.trans (H7.out.mono B2.out.size)⟩
    ·
      have HJ := Lib.hid hj
      clear hj
      go_wp2_with fail
      go_loopw [7] (fun i wr => ∃ k : Nat, k ≤ m ∧ i = .int .i64 (k : Int) ∧ Hid (Below w2.heap.size w2 wr)) (fun i _ => m - (intOf i).toNat)
      case atStart => exact ⟨0, by omega, rfl, Lib.hid (Below.refl _ _)⟩
      case round =>
        obtain ⟨k, hk, rfl, hw⟩ := hrel
        obtain ⟨_, d3, d5, dlt⟩ := HHX.out _ hw.out
        by_cases hlt : k < m
        ·
          have HTR : Hid (HT h L wr) := Lib.hid (HT2.out.below hw.out)
          obtain ⟨b, off, hA, hb, r1⟩ := bin_at HTR.out (k := k) (by rw [← HM.out]; exact hlt)
          obtain ⟨x, hx⟩ : ∃ x, bnA (L 3) k = x := ⟨_, rfl⟩
          rw [hx] at r1
          obtain ⟨xc, xz, xk, xa, xp, xv, xw, xf⟩ := x
          obtain ⟨ss, hss⟩ : ∃ z, siteT (L 2) (L 3) xc = z := ⟨_, rfl⟩
          obtain ⟨fr, hfr⟩ : ∃ z, roomE (L 0) (L 3) (L 4) xc it nq = z := ⟨_, rfl⟩
          obtain ⟨sp, hsp⟩ : ∃ z, spokeT (L 5) xz it = z := ⟨_, rfl⟩
          have HLB : Hid (lawB (L 0) (L 2) (L 3) (L 4) (L 5) st it nq (bnA (L 3) k) = (sp && xk == 1 && !xf && Pl.eqv ss st && decide (fr = 0))) := Lib.hid (by rw [hx, ← hss, ← hfr, ← hsp]; rfl)
          have HFL : Hid (lawB (L 0) (L 2) (L 3) (L 4) (L 5) st it nq (bnA (L 3) k) = false) := Lib.hid (HJ.out k (by rw [← HM.out]; exact hlt))
          have CS : Hid (∀ X, HT h L X → Calls Try.prog 8 #[.agg h.cells, .string xc] X fun e w' => e = .returned (.string ss) ∧ Below X.heap.size X w') := Lib.hid (fun X hX => by rw [← hss]; exact HCO.out.site h L xc X hX)
          have CF : Hid (∀ X, HT h L X → Calls Try.prog 9 #[.agg h.cells, .string xc, .string it, .int .i64 nq] X fun e w' => e = .returned (.int .i64 (fr : Nat)) ∧ Below X.heap.size X w') := Lib.hid (fun X hX => by rw [← hfr]; exact HCO.out.fits h L xc it nq X hX HWQ.out)
          have HRE1 : Hid (wr.rangeAt b (off + k * 8) [.string xc, .string xz, .int .i64 xk, .int .i64 xa, .int .i64 xp, .int .i64 xv, .int .i64 xw, .bool xf]) := Lib.hid r1
          have HSP := Lib.hid hsp
          obtain ⟨w4, hw4⟩ : ∃ w4, w4 = wr.alloc (.cells #[.string xc, .string xz, .int .i64 xk, .int .i64 xa, .int .i64 xp, .int .i64 xv, .int .i64 xw, .bool xf] 46) := ⟨_, rfl⟩
          have hb4 : Below wr.heap.size wr w4 := by rw [hw4]; exact (Below.refl _ _).alloc (Nat.le_refl _) _
          have HX4 : Hid (w4.heap[wr.heap.size]? = some (.cells #[.string xc, .string xz, .int .i64 xk, .int .i64 xa, .int .i64 xp, .int .i64 xv, .int .i64 xw, .bool xf] 46 (0, 0))) := Lib.hid (by rw [hw4]; exact heap_alloc_new _ _)
          have HB4 := Lib.hid (hw.out.trans (hb4.mono hw.out.size))
          have HW4 := Lib.hid hw4
          have h1 : (0 : Int) ≤ (k : Int) := by omega
          have h2 : (k : Int) < (m : Int) := by omega
          rw [hA] at d3
          obtain ⟨bx, hbx⟩ : ∃ g, g = wr.heap.size := ⟨_, rfl⟩
          rw [← hbx] at HX4
          have HBX := Lib.hid hbx
          clear hw4 hb4 r1 hx hss hfr hsp hA hbx
          go_upto_region 10 with (first
            | (refine wpList_load_mid rfl 46 (.tmp 44) rfl b (off + k * 8) rfl [.string xc, .string xz, .int .i64 xk, .int .i64 xa, .int .i64 xp, .int .i64 xv, .int .i64 xw, .bool xf] _ HRE1.out huBin rfl HS8.out ?_)
            | fail)
          rw [← HW4.out, ← HBX.out]
          clear d3 d5 dlt hb HRE1 HTR
          go_wp2_with fail
          go_loopw [9, 10] (fun z i wx => ∃ q : Nat, q ≤ m5 ∧ z = .bool (spokeT ((L 5).take q) xz it) ∧ i = .int .i64 (q : Int) ∧ Hid (Below w4.heap.size w4 wx)) (fun _ i _ => m5 - (intOf i).toNat)
          case atStart => exact ⟨0, by omega, rfl, rfl, Lib.hid (Below.refl _ _)⟩
          case round =>
            obtain ⟨q, hq, rfl, rfl, hx⟩ := hrel
            have HXX := Lib.hid (HB4.out.trans (hx.out.mono HB4.out.size))
            obtain ⟨hhh, d3, d5, dlt⟩ := HHX.out _ HXX.out
            have HHR := Lib.hid hhh
            clear hhh
            obtain ⟨β, hβ⟩ : ∃ β, spokeT ((L 5).take q) xz it = β := ⟨_, rfl⟩
            rw [hβ]
            have HXB : Hid (wr.heap[bx]? = some (.cells #[.string xc, .string xz, .int .i64 xk, .int .i64 xa, .int .i64 xp, .int .i64 xv, .int .i64 xw, .bool xf] 46 (0, 0))) := Lib.hid ((hx.out.block _ (lt_of_block HX4.out)).trans HX4.out)
            by_cases hqt : q < m5
            · have hql : q < (L 5).length := by rw [← HM5.out]; exact hqt
              have hsn := spokeT_snoc (L 5) xz it q hql
              rw [hβ] at hsn
              obtain ⟨b2, off2, hA2, hb2, r2⟩ := rule_at (HT2.out.below HXX.out) hql
              obtain ⟨y, hy⟩ : ∃ y, rlA (L 5) q = y := ⟨_, rfl⟩
              rw [hy] at r2 hsn
              obtain ⟨yi, yz, yr⟩ := y
              obtain ⟨zb, hzb⟩ : ∃ z, (yz.toList == xz.toList) = z := ⟨_, rfl⟩
              obtain ⟨eb, heb⟩ : ∃ z, yi.toList.isEmpty = z := ⟨_, rfl⟩
              obtain ⟨ib, hib⟩ : ∃ z, (yi.toList == it.toList) = z := ⟨_, rfl⟩
              have HSN : Hid (spokeT ((L 5).take (q + 1)) xz it = (β || (zb && (eb || ib)))) := Lib.hid (by rw [hsn, ← hzb, ← heb, ← hib]; rfl)
              have z0 : _ = some (Value.string yi) := r2 0 (.string yi) rfl
              have z1 : _ = some (Value.string yz) := r2 1 (.string yz) rfl
              rw [Nat.add_zero] at z0
              rw [hA2] at d5
              have y1 : wr.cell? ⟨bx, 1, none⟩ = some (.string xz) := by rw [cell_of_block HXB.out]; rfl
              have ylt : bx < wr.heap.size := lt_of_block HXB.out
              obtain ⟨_, a1, _, alt⟩ := HQX.out _ HXX.out
              have i1 : (0 : Int) ≤ (q : Int) := by omega
              have i2 : (q : Int) < (m5 : Int) := by omega
              clear hsn r2 hA2 hy hql hβ d3
              cases β with
              | true =>
                go_wp2_with fail
                go_quiet (fail)
                go_wp2_with fail
                go_roundw
                case rel => exact ⟨q + 1, by omega, by rw [HSN.out]; rfl, by go_num, Lib.hid (below_drewN hx.out _)⟩
                case measure => simp [intOf]; omega
              | false =>
                cases zb with
                | false =>
                  go_wp2_with fail
                  go_quiet (fail)
                  go_wp2_with fail
                  go_roundw
                  case rel => exact ⟨q + 1, by omega, by rw [HSN.out]; rfl, by go_num, Lib.hid (below_drewN hx.out _)⟩
                  case measure => simp [intOf]; omega
                | true =>
                  cases eb with
                  | true =>
                    go_wp2_with fail
                    go_quiet (fail)
                    go_wp2_with fail
                    go_roundw
                    case rel => exact ⟨q + 1, by omega, by rw [HSN.out]; rfl, by go_num, Lib.hid (below_drewN hx.out _)⟩
                    case measure => simp [intOf]; omega
                  | false =>
                    cases ib with
                    | false =>
                      go_wp2_with fail
                      go_quiet (fail)
                      go_wp2_with fail
                      go_roundw
                      case rel => exact ⟨q + 1, by omega, by rw [HSN.out]; rfl, by go_num, Lib.hid (below_drewN hx.out _)⟩
                      case measure => simp [intOf]; omega
                    | true =>
                      go_wp2_with fail
                      go_quiet (fail)
                      go_wp2_with fail
                      go_roundw
                      case rel => exact ⟨q + 1, by omega, by rw [HSN.out]; rfl, by go_num, Lib.hid (below_drewN hx.out _)⟩
                      case measure => simp [intOf]; omega
            · have hqe : (L 5).take q = L 5 := List.take_of_length_le (by rw [← HM5.out]; omega)
              rw [hqe, HSP.out] at hβ
              subst hβ
              clear hqe
              have RHH : Hid (∀ X : BW wr, X.W.heap[w.heap.size]? = some (.cells h.cells 37 (0, 0))) := Lib.hid (fun X => (X.h.block _ (lt_of_block HHR.out)).trans HHR.out)
              have HXT : Hid (HT h L wr) := Lib.hid (HT2.out.below HXX.out)
              have C1 : Hid (∀ X : BW wr, Calls Try.prog 8 #[.agg h.cells, .string xc] X.W fun e w' => e = .returned (.string ss) ∧ Below X.W.heap.size X.W w') := Lib.hid (fun X => CS.out X.W (HXT.out.below X.h))
              have C2 : Hid (∀ X : BW wr, Calls Try.prog 9 #[.agg h.cells, .string xc, .string it, .int .i64 nq] X.W fun e w' => e = .returned (.int .i64 (fr : Nat)) ∧ Below X.W.heap.size X.W w') := Lib.hid (fun X => CF.out X.W (HXT.out.below X.h))
              have y0 : ∀ X : BW wr, X.W.cell? ⟨bx, 0, none⟩ = some (.string xc) := fun X => by rw [cell_of_block ((X.h.block _ (lt_of_block HXB.out)).trans HXB.out)]; rfl
              have y2 : ∀ X : BW wr, X.W.cell? ⟨bx, 2, none⟩ = some (.int .i64 xk) := fun X => by rw [cell_of_block ((X.h.block _ (lt_of_block HXB.out)).trans HXB.out)]; rfl
              have y7 : ∀ X : BW wr, X.W.cell? ⟨bx, 7, none⟩ = some (.bool xf) := fun X => by rw [cell_of_block ((X.h.block _ (lt_of_block HXB.out)).trans HXB.out)]; rfl
              have a0 : ∀ X : BW wr, X.W.cell? ⟨w.heap.size + 1, 0, none⟩ = some (.string st) := fun X => (HQX.out _ (HXX.out.trans (X.h.mono HXX.out.size))).1
              have a1 : ∀ X : BW wr, X.W.cell? ⟨w.heap.size + 1, 1, none⟩ = some (.string it) := fun X => (HQX.out _ (HXX.out.trans (X.h.mono HXX.out.size))).2.1
              have a2 : ∀ X : BW wr, X.W.cell? ⟨w.heap.size + 1, 2, none⟩ = some (.int .i64 nq) := fun X => (HQX.out _ (HXX.out.trans (X.h.mono HXX.out.size))).2.2.1
              cases sp with
              | false =>
                go_wp2_with fail
                clear d3 d5 dlt
                refine wp_grow wr (by kernel_rfl) (by kernel_rfl) (Below.refl _ _) ?_
                simp only []
                iterate 32 go_big_quiet_step (fail)
                refine wpQuiet_nil ?_
                intro X
                clear y0 y2 y7 a0 a1 a2 C1 C2 RHH
                obtain ⟨w6, hb6⟩ := X
                simp only []
                have H6 := Lib.hid (HXX.out.trans (hb6.mono HXX.out.size))
                have HX6 := Lib.hid ((hb6.block _ (lt_of_block HXB.out)).trans HXB.out)
                clear hb6
                go_wp2_with fail
                go_roundw
                case rel => exact ⟨k + 1, by omega, by go_num, H6⟩
                case measure => simp [intOf]; omega
              | true =>
                rcases Classical.em (xk = 1) with hk1 | hk1
                ·
                  subst hk1
                  cases xf with
                  | true =>
                    go_wp2_with fail
                    clear d3 d5 dlt
                    refine wp_grow wr (by kernel_rfl) (by kernel_rfl) (Below.refl _ _) ?_
                    simp only []
                    iterate 32 go_big_quiet_step (fail)
                    refine wpQuiet_nil ?_
                    intro X
                    clear y0 y2 y7 a0 a1 a2 C1 C2 RHH
                    obtain ⟨w6, hb6⟩ := X
                    simp only []
                    have H6 := Lib.hid (HXX.out.trans (hb6.mono HXX.out.size))
                    have HX6 := Lib.hid ((hb6.block _ (lt_of_block HXB.out)).trans HXB.out)
                    clear hb6
                    go_wp2_with fail
                    go_roundw
                    case rel => exact ⟨k + 1, by omega, by go_num, H6⟩
                    case measure => simp [intOf]; omega
                  | false =>
                    cases hs1 : Pl.eqv ss st with
                    | false =>
                      have hs2 : (ss.toList == st.toList) = false := hs1
                      have HS1 := Lib.hid hs1
                      clear hs1
                      go_wp2_with fail
                      clear d3 d5 dlt
                      refine wp_grow wr (by kernel_rfl) (by kernel_rfl) (Below.refl _ _) ?_
                      simp only []
                      iterate 12 go_big_quiet_step (fail)
                      refine BigFrame.wpQuiet_want (by kernel_rfl) (fun K hK => quiet_load_mid 37 (.tmp 2) rfl w.heap.size 0 rfl h.cells.toList _ (fun W ⟨X, hX⟩ => by rw [hX]; exact range_row0 (RHH.out X)) huh rfl (HSHL.out _) (hK _ ?_))
                      simp only [Act.put, List.setIfInBounds_toArray, List.set_cons_zero, List.set_cons_succ, Array.toArray_toList]
                      iterate 2 go_big_quiet_step (fail)
                      go_big_quiet_step (exact grow_call _ (C1.out _))
                      iterate 16 go_big_quiet_step (fail)
                      refine wpQuiet_nil ?_
                      intro X
                      clear y0 y2 y7 a0 a1 a2 C1 C2 RHH
                      obtain ⟨w6, hb6⟩ := X
                      simp only []
                      have H6 := Lib.hid (HXX.out.trans (hb6.mono HXX.out.size))
                      have HX6 := Lib.hid ((hb6.block _ (lt_of_block HXB.out)).trans HXB.out)
                      clear hb6
                      go_wp2_with fail
                      go_roundw
                      case rel => exact ⟨k + 1, by omega, by go_num, H6⟩
                      case measure => simp [intOf]; omega
                    | true =>
                      have hs2 : (ss.toList == st.toList) = true := hs1
                      have HS1 := Lib.hid hs1
                      clear hs1
                      by_cases hf0 : fr = 0
                      ·
                        subst hf0
                        have HTR : Hid (lawB (L 0) (L 2) (L 3) (L 4) (L 5) st it nq (bnA (L 3) k) = true) := Lib.hid (by rw [HLB.out, HS1.out]; rfl)
                        exact absurd (HTR.out.symm.trans HFL.out) (by simp)
                      ·
                        have hf1 : ((fr : Int) == 0) = false := by simpa using hf0
                        have HF0 := Lib.hid hf0
                        clear hf0
                        go_wp2_with fail
                        clear d3 d5 dlt
                        refine wp_grow wr (by kernel_rfl) (by kernel_rfl) (Below.refl _ _) ?_
                        simp only []
                        iterate 12 go_big_quiet_step (fail)
                        refine BigFrame.wpQuiet_want (by kernel_rfl) (fun K hK => quiet_load_mid 37 (.tmp 2) rfl w.heap.size 0 rfl h.cells.toList _ (fun W ⟨X, hX⟩ => by rw [hX]; exact range_row0 (RHH.out X)) huh rfl (HSHL.out _) (hK _ ?_))
                        simp only [Act.put, List.setIfInBounds_toArray, List.set_cons_zero, List.set_cons_succ, Array.toArray_toList]
                        iterate 2 go_big_quiet_step (fail)
                        go_big_quiet_step (exact grow_call _ (C1.out _))
                        iterate 5 go_big_quiet_step (fail)
                        refine BigFrame.wpQuiet_want (by kernel_rfl) (fun K hK => quiet_load_mid 37 (.tmp 2) rfl w.heap.size 0 rfl h.cells.toList _ (fun W ⟨X, hX⟩ => by rw [hX]; exact range_row0 (RHH.out X)) huh rfl (HSHL.out _) (hK _ ?_))
                        simp only [Act.put, List.setIfInBounds_toArray, List.set_cons_zero, List.set_cons_succ, Array.toArray_toList]
                        iterate 6 go_big_quiet_step (fail)
                        go_big_quiet_step (exact grow_call _ (C2.out _))
                        iterate 3 go_big_quiet_step (fail)
                        refine wpQuiet_nil ?_
                        intro X
                        clear y0 y2 y7 a0 a1 a2 C1 C2 RHH
                        obtain ⟨w6, hb6⟩ := X
                        simp only []
                        have H6 := Lib.hid (HXX.out.trans (hb6.mono HXX.out.size))
                        have HX6 := Lib.hid ((hb6.block _ (lt_of_block HXB.out)).trans HXB.out)
                        clear hb6
                        go_wp2_with fail
                        go_roundw
                        case rel => exact ⟨k + 1, by omega, by go_num, H6⟩
                        case measure => simp [intOf]; omega
                ·
                  have hk2 : (xk == 1) = false := by simpa using hk1
                  have HK1 := Lib.hid hk2
                  clear hk1
                  go_wp2_with fail
                  clear d3 d5 dlt
                  refine wp_grow wr (by kernel_rfl) (by kernel_rfl) (Below.refl _ _) ?_
                  simp only []
                  iterate 32 go_big_quiet_step (fail)
                  refine wpQuiet_nil ?_
                  intro X
                  clear y0 y2 y7 a0 a1 a2 C1 C2 RHH
                  obtain ⟨w6, hb6⟩ := X
                  simp only []
                  have H6 := Lib.hid (HXX.out.trans (hb6.mono HXX.out.size))
                  have HX6 := Lib.hid ((hb6.block _ (lt_of_block HXB.out)).trans HXB.out)
                  clear hb6
                  go_wp2_with fail
                  go_roundw
                  case rel => exact ⟨k + 1, by omega, by go_num, H6⟩
                  case measure => simp [intOf]; omega
        ·
          go_wp2_with fail
          refine (HAW.out _).mono ?_
          rintro e w7 ⟨rfl, hb7⟩
          have H7 := Lib.hid (hw.out.trans (hb7.mono hw.out.size))
          clear hb7
          go_wp2_with fail
          go_ret
          exact ⟨rfl, B2.out.trans (H7.out.mono B2.out.size)⟩
    ·
      have HJ := Lib.hid hj
      clear hj
      go_wp2_with fail
      go_loopw [7] (fun i wr => ∃ k : Nat, k ≤ m ∧ k ≤ j ∧ i = .int .i64 (k : Int) ∧ Hid (Below w2.heap.size w2 wr)) (fun i _ => m - (intOf i).toNat)
      case atStart => exact ⟨0, by omega, by omega, rfl, Lib.hid (Below.refl _ _)⟩
      case round =>
        obtain ⟨k, hk, hkj, rfl, hw⟩ := hrel
        obtain ⟨_, d3, d5, dlt⟩ := HHX.out _ hw.out
        by_cases hlt : k < m
        ·
          have HTR : Hid (HT h L wr) := Lib.hid (HT2.out.below hw.out)
          obtain ⟨b, off, hA, hb, r1⟩ := bin_at HTR.out (k := k) (by rw [← HM.out]; exact hlt)
          obtain ⟨x, hx⟩ : ∃ x, bnA (L 3) k = x := ⟨_, rfl⟩
          rw [hx] at r1
          obtain ⟨xc, xz, xk, xa, xp, xv, xw, xf⟩ := x
          obtain ⟨ss, hss⟩ : ∃ z, siteT (L 2) (L 3) xc = z := ⟨_, rfl⟩
          obtain ⟨fr, hfr⟩ : ∃ z, roomE (L 0) (L 3) (L 4) xc it nq = z := ⟨_, rfl⟩
          obtain ⟨sp, hsp⟩ : ∃ z, spokeT (L 5) xz it = z := ⟨_, rfl⟩
          have HLB : Hid (lawB (L 0) (L 2) (L 3) (L 4) (L 5) st it nq (bnA (L 3) k) = (sp && xk == 1 && !xf && Pl.eqv ss st && decide (fr = 0))) := Lib.hid (by rw [hx, ← hss, ← hfr, ← hsp]; rfl)
          have HCD : Hid (k = j → xc = rt) := Lib.hid (fun e => by subst e; have := HJ.out.2.2; rw [hx] at this; exact this)
          have HNE : Hid (lawB (L 0) (L 2) (L 3) (L 4) (L 5) st it nq (bnA (L 3) k) = false → k + 1 ≤ j) := Lib.hid (fun e => by
            rcases Nat.lt_or_ge k j with h5 | h5
            · exact h5
            · obtain rfl : k = j := by omega
              rw [HJ.out.2.1] at e; cases e)
          have CS : Hid (∀ X, HT h L X → Calls Try.prog 8 #[.agg h.cells, .string xc] X fun e w' => e = .returned (.string ss) ∧ Below X.heap.size X w') := Lib.hid (fun X hX => by rw [← hss]; exact HCO.out.site h L xc X hX)
          have CF : Hid (∀ X, HT h L X → Calls Try.prog 9 #[.agg h.cells, .string xc, .string it, .int .i64 nq] X fun e w' => e = .returned (.int .i64 (fr : Nat)) ∧ Below X.heap.size X w') := Lib.hid (fun X hX => by rw [← hfr]; exact HCO.out.fits h L xc it nq X hX HWQ.out)
          have HRE1 : Hid (wr.rangeAt b (off + k * 8) [.string xc, .string xz, .int .i64 xk, .int .i64 xa, .int .i64 xp, .int .i64 xv, .int .i64 xw, .bool xf]) := Lib.hid r1
          have HSP := Lib.hid hsp
          obtain ⟨w4, hw4⟩ : ∃ w4, w4 = wr.alloc (.cells #[.string xc, .string xz, .int .i64 xk, .int .i64 xa, .int .i64 xp, .int .i64 xv, .int .i64 xw, .bool xf] 46) := ⟨_, rfl⟩
          have hb4 : Below wr.heap.size wr w4 := by rw [hw4]; exact (Below.refl _ _).alloc (Nat.le_refl _) _
          have HX4 : Hid (w4.heap[wr.heap.size]? = some (.cells #[.string xc, .string xz, .int .i64 xk, .int .i64 xa, .int .i64 xp, .int .i64 xv, .int .i64 xw, .bool xf] 46 (0, 0))) := Lib.hid (by rw [hw4]; exact heap_alloc_new _ _)
          have HB4 := Lib.hid (hw.out.trans (hb4.mono hw.out.size))
          have HW4 := Lib.hid hw4
          have h1 : (0 : Int) ≤ (k : Int) := by omega
          have h2 : (k : Int) < (m : Int) := by omega
          rw [hA] at d3
          obtain ⟨bx, hbx⟩ : ∃ g, g = wr.heap.size := ⟨_, rfl⟩
          rw [← hbx] at HX4
          have HBX := Lib.hid hbx
          clear hw4 hb4 r1 hx hss hfr hsp hA hbx
          go_upto_region 10 with (first
            | (refine wpList_load_mid rfl 46 (.tmp 44) rfl b (off + k * 8) rfl [.string xc, .string xz, .int .i64 xk, .int .i64 xa, .int .i64 xp, .int .i64 xv, .int .i64 xw, .bool xf] _ HRE1.out huBin rfl HS8.out ?_)
            | fail)
          rw [← HW4.out, ← HBX.out]
          clear d3 d5 dlt hb HRE1 HTR
          go_wp2_with fail
          go_loopw [9, 10] (fun z i wx => ∃ q : Nat, q ≤ m5 ∧ z = .bool (spokeT ((L 5).take q) xz it) ∧ i = .int .i64 (q : Int) ∧ Hid (Below w4.heap.size w4 wx)) (fun _ i _ => m5 - (intOf i).toNat)
          case atStart => exact ⟨0, by omega, rfl, rfl, Lib.hid (Below.refl _ _)⟩
          case round =>
            obtain ⟨q, hq, rfl, rfl, hx⟩ := hrel
            have HXX := Lib.hid (HB4.out.trans (hx.out.mono HB4.out.size))
            obtain ⟨hhh, d3, d5, dlt⟩ := HHX.out _ HXX.out
            have HHR := Lib.hid hhh
            clear hhh
            obtain ⟨β, hβ⟩ : ∃ β, spokeT ((L 5).take q) xz it = β := ⟨_, rfl⟩
            rw [hβ]
            have HXB : Hid (wr.heap[bx]? = some (.cells #[.string xc, .string xz, .int .i64 xk, .int .i64 xa, .int .i64 xp, .int .i64 xv, .int .i64 xw, .bool xf] 46 (0, 0))) := Lib.hid ((hx.out.block _ (lt_of_block HX4.out)).trans HX4.out)
            by_cases hqt : q < m5
            · have hql : q < (L 5).length := by rw [← HM5.out]; exact hqt
              have hsn := spokeT_snoc (L 5) xz it q hql
              rw [hβ] at hsn
              obtain ⟨b2, off2, hA2, hb2, r2⟩ := rule_at (HT2.out.below HXX.out) hql
              obtain ⟨y, hy⟩ : ∃ y, rlA (L 5) q = y := ⟨_, rfl⟩
              rw [hy] at r2 hsn
              obtain ⟨yi, yz, yr⟩ := y
              obtain ⟨zb, hzb⟩ : ∃ z, (yz.toList == xz.toList) = z := ⟨_, rfl⟩
              obtain ⟨eb, heb⟩ : ∃ z, yi.toList.isEmpty = z := ⟨_, rfl⟩
              obtain ⟨ib, hib⟩ : ∃ z, (yi.toList == it.toList) = z := ⟨_, rfl⟩
              have HSN : Hid (spokeT ((L 5).take (q + 1)) xz it = (β || (zb && (eb || ib)))) := Lib.hid (by rw [hsn, ← hzb, ← heb, ← hib]; rfl)
              have z0 : _ = some (Value.string yi) := r2 0 (.string yi) rfl
              have z1 : _ = some (Value.string yz) := r2 1 (.string yz) rfl
              rw [Nat.add_zero] at z0
              rw [hA2] at d5
              have y1 : wr.cell? ⟨bx, 1, none⟩ = some (.string xz) := by rw [cell_of_block HXB.out]; rfl
              have ylt : bx < wr.heap.size := lt_of_block HXB.out
              obtain ⟨_, a1, _, alt⟩ := HQX.out _ HXX.out
              have i1 : (0 : Int) ≤ (q : Int) := by omega
              have i2 : (q : Int) < (m5 : Int) := by omega
              clear hsn r2 hA2 hy hql hβ d3
              cases β with
              | true =>
                go_wp2_with fail
                go_quiet (fail)
                go_wp2_with fail
                go_roundw
                case rel => exact ⟨q + 1, by omega, by rw [HSN.out]; rfl, by go_num, Lib.hid (below_drewN hx.out _)⟩
                case measure => simp [intOf]; omega
              | false =>
                cases zb with
                | false =>
                  go_wp2_with fail
                  go_quiet (fail)
                  go_wp2_with fail
                  go_roundw
                  case rel => exact ⟨q + 1, by omega, by rw [HSN.out]; rfl, by go_num, Lib.hid (below_drewN hx.out _)⟩
                  case measure => simp [intOf]; omega
                | true =>
                  cases eb with
                  | true =>
                    go_wp2_with fail
                    go_quiet (fail)
                    go_wp2_with fail
                    go_roundw
                    case rel => exact ⟨q + 1, by omega, by rw [HSN.out]; rfl, by go_num, Lib.hid (below_drewN hx.out _)⟩
                    case measure => simp [intOf]; omega
                  | false =>
                    cases ib with
                    | false =>
                      go_wp2_with fail
                      go_quiet (fail)
                      go_wp2_with fail
                      go_roundw
                      case rel => exact ⟨q + 1, by omega, by rw [HSN.out]; rfl, by go_num, Lib.hid (below_drewN hx.out _)⟩
                      case measure => simp [intOf]; omega
                    | true =>
                      go_wp2_with fail
                      go_quiet (fail)
                      go_wp2_with fail
                      go_roundw
                      case rel => exact ⟨q + 1, by omega, by rw [HSN.out]; rfl, by go_num, Lib.hid (below_drewN hx.out _)⟩
                      case measure => simp [intOf]; omega
            · have hqe : (L 5).take q = L 5 := List.take_of_length_le (by rw [← HM5.out]; omega)
              rw [hqe, HSP.out] at hβ
              subst hβ
              clear hqe
              have RHH : Hid (∀ X : BW wr, X.W.heap[w.heap.size]? = some (.cells h.cells 37 (0, 0))) := Lib.hid (fun X => (X.h.block _ (lt_of_block HHR.out)).trans HHR.out)
              have HXT : Hid (HT h L wr) := Lib.hid (HT2.out.below HXX.out)
              have C1 : Hid (∀ X : BW wr, Calls Try.prog 8 #[.agg h.cells, .string xc] X.W fun e w' => e = .returned (.string ss) ∧ Below X.W.heap.size X.W w') := Lib.hid (fun X => CS.out X.W (HXT.out.below X.h))
              have C2 : Hid (∀ X : BW wr, Calls Try.prog 9 #[.agg h.cells, .string xc, .string it, .int .i64 nq] X.W fun e w' => e = .returned (.int .i64 (fr : Nat)) ∧ Below X.W.heap.size X.W w') := Lib.hid (fun X => CF.out X.W (HXT.out.below X.h))
              have y0 : ∀ X : BW wr, X.W.cell? ⟨bx, 0, none⟩ = some (.string xc) := fun X => by rw [cell_of_block ((X.h.block _ (lt_of_block HXB.out)).trans HXB.out)]; rfl
              have y2 : ∀ X : BW wr, X.W.cell? ⟨bx, 2, none⟩ = some (.int .i64 xk) := fun X => by rw [cell_of_block ((X.h.block _ (lt_of_block HXB.out)).trans HXB.out)]; rfl
              have y7 : ∀ X : BW wr, X.W.cell? ⟨bx, 7, none⟩ = some (.bool xf) := fun X => by rw [cell_of_block ((X.h.block _ (lt_of_block HXB.out)).trans HXB.out)]; rfl
              have a0 : ∀ X : BW wr, X.W.cell? ⟨w.heap.size + 1, 0, none⟩ = some (.string st) := fun X => (HQX.out _ (HXX.out.trans (X.h.mono HXX.out.size))).1
              have a1 : ∀ X : BW wr, X.W.cell? ⟨w.heap.size + 1, 1, none⟩ = some (.string it) := fun X => (HQX.out _ (HXX.out.trans (X.h.mono HXX.out.size))).2.1
              have a2 : ∀ X : BW wr, X.W.cell? ⟨w.heap.size + 1, 2, none⟩ = some (.int .i64 nq) := fun X => (HQX.out _ (HXX.out.trans (X.h.mono HXX.out.size))).2.2.1
              cases sp with
              | false =>
                go_wp2_with fail
                clear d3 d5 dlt
                refine wp_grow wr (by kernel_rfl) (by kernel_rfl) (Below.refl _ _) ?_
                simp only []
                iterate 32 go_big_quiet_step (fail)
                refine wpQuiet_nil ?_
                intro X
                clear y0 y2 y7 a0 a1 a2 C1 C2 RHH
                obtain ⟨w6, hb6⟩ := X
                simp only []
                have H6 := Lib.hid (HXX.out.trans (hb6.mono HXX.out.size))
                have HX6 := Lib.hid ((hb6.block _ (lt_of_block HXB.out)).trans HXB.out)
                clear hb6
                have HK := Lib.hid (HNE.out (by rw [HLB.out]; simp))
                have HX60 : w6.cell? ⟨bx, 0, none⟩ = some (.string xc) := by rw [cell_of_block HX6.out]; rfl
                have HX6l : bx < w6.heap.size := lt_of_block HX6.out
                obtain ⟨cb, hcb⟩ : ∃ z, (xc.toList == rt.toList) = z := ⟨_, rfl⟩
                cases cb with
                | true =>
                  go_wp2_with fail
                  go_roundw
                  case rel => exact ⟨k + 1, by omega, HK.out, by go_num, H6⟩
                  case measure => simp [intOf]; omega
                | false =>
                  go_wp2_with fail
                  go_roundw
                  case rel => exact ⟨k + 1, by omega, HK.out, by go_num, H6⟩
                  case measure => simp [intOf]; omega
              | true =>
                rcases Classical.em (xk = 1) with hk1 | hk1
                ·
                  subst hk1
                  cases xf with
                  | true =>
                    go_wp2_with fail
                    clear d3 d5 dlt
                    refine wp_grow wr (by kernel_rfl) (by kernel_rfl) (Below.refl _ _) ?_
                    simp only []
                    iterate 32 go_big_quiet_step (fail)
                    refine wpQuiet_nil ?_
                    intro X
                    clear y0 y2 y7 a0 a1 a2 C1 C2 RHH
                    obtain ⟨w6, hb6⟩ := X
                    simp only []
                    have H6 := Lib.hid (HXX.out.trans (hb6.mono HXX.out.size))
                    have HX6 := Lib.hid ((hb6.block _ (lt_of_block HXB.out)).trans HXB.out)
                    clear hb6
                    have HK := Lib.hid (HNE.out (by rw [HLB.out]; simp))
                    have HX60 : w6.cell? ⟨bx, 0, none⟩ = some (.string xc) := by rw [cell_of_block HX6.out]; rfl
                    have HX6l : bx < w6.heap.size := lt_of_block HX6.out
                    obtain ⟨cb, hcb⟩ : ∃ z, (xc.toList == rt.toList) = z := ⟨_, rfl⟩
                    cases cb with
                    | true =>
                      go_wp2_with fail
                      go_roundw
                      case rel => exact ⟨k + 1, by omega, HK.out, by go_num, H6⟩
                      case measure => simp [intOf]; omega
                    | false =>
                      go_wp2_with fail
                      go_roundw
                      case rel => exact ⟨k + 1, by omega, HK.out, by go_num, H6⟩
                      case measure => simp [intOf]; omega
                  | false =>
                    cases hs1 : Pl.eqv ss st with
                    | false =>
                      have hs2 : (ss.toList == st.toList) = false := hs1
                      have HS1 := Lib.hid hs1
                      clear hs1
                      go_wp2_with fail
                      clear d3 d5 dlt
                      refine wp_grow wr (by kernel_rfl) (by kernel_rfl) (Below.refl _ _) ?_
                      simp only []
                      iterate 12 go_big_quiet_step (fail)
                      refine BigFrame.wpQuiet_want (by kernel_rfl) (fun K hK => quiet_load_mid 37 (.tmp 2) rfl w.heap.size 0 rfl h.cells.toList _ (fun W ⟨X, hX⟩ => by rw [hX]; exact range_row0 (RHH.out X)) huh rfl (HSHL.out _) (hK _ ?_))
                      simp only [Act.put, List.setIfInBounds_toArray, List.set_cons_zero, List.set_cons_succ, Array.toArray_toList]
                      iterate 2 go_big_quiet_step (fail)
                      go_big_quiet_step (exact grow_call _ (C1.out _))
                      iterate 16 go_big_quiet_step (fail)
                      refine wpQuiet_nil ?_
                      intro X
                      clear y0 y2 y7 a0 a1 a2 C1 C2 RHH
                      obtain ⟨w6, hb6⟩ := X
                      simp only []
                      have H6 := Lib.hid (HXX.out.trans (hb6.mono HXX.out.size))
                      have HX6 := Lib.hid ((hb6.block _ (lt_of_block HXB.out)).trans HXB.out)
                      clear hb6
                      have HK := Lib.hid (HNE.out (by rw [HLB.out]; simp [HS1.out]))
                      have HX60 : w6.cell? ⟨bx, 0, none⟩ = some (.string xc) := by rw [cell_of_block HX6.out]; rfl
                      have HX6l : bx < w6.heap.size := lt_of_block HX6.out
                      obtain ⟨cb, hcb⟩ : ∃ z, (xc.toList == rt.toList) = z := ⟨_, rfl⟩
                      cases cb with
                      | true =>
                        go_wp2_with fail
                        go_roundw
                        case rel => exact ⟨k + 1, by omega, HK.out, by go_num, H6⟩
                        case measure => simp [intOf]; omega
                      | false =>
                        go_wp2_with fail
                        go_roundw
                        case rel => exact ⟨k + 1, by omega, HK.out, by go_num, H6⟩
                        case measure => simp [intOf]; omega
                    | true =>
                      have hs2 : (ss.toList == st.toList) = true := hs1
                      have HS1 := Lib.hid hs1
                      clear hs1
                      by_cases hf0 : fr = 0
                      ·
                        subst hf0
                        have HTR : Hid (lawB (L 0) (L 2) (L 3) (L 4) (L 5) st it nq (bnA (L 3) k) = true) := Lib.hid (by rw [HLB.out, HS1.out]; rfl)
                        go_wp2_with fail
                        clear d3 d5 dlt
                        refine wp_grow wr (by kernel_rfl) (by kernel_rfl) (Below.refl _ _) ?_
                        simp only []
                        iterate 12 go_big_quiet_step (fail)
                        refine BigFrame.wpQuiet_want (by kernel_rfl) (fun K hK => quiet_load_mid 37 (.tmp 2) rfl w.heap.size 0 rfl h.cells.toList _ (fun W ⟨X, hX⟩ => by rw [hX]; exact range_row0 (RHH.out X)) huh rfl (HSHL.out _) (hK _ ?_))
                        simp only [Act.put, List.setIfInBounds_toArray, List.set_cons_zero, List.set_cons_succ, Array.toArray_toList]
                        iterate 2 go_big_quiet_step (fail)
                        go_big_quiet_step (exact grow_call _ (C1.out _))
                        iterate 5 go_big_quiet_step (fail)
                        refine BigFrame.wpQuiet_want (by kernel_rfl) (fun K hK => quiet_load_mid 37 (.tmp 2) rfl w.heap.size 0 rfl h.cells.toList _ (fun W ⟨X, hX⟩ => by rw [hX]; exact range_row0 (RHH.out X)) huh rfl (HSHL.out _) (hK _ ?_))
                        simp only [Act.put, List.setIfInBounds_toArray, List.set_cons_zero, List.set_cons_succ, Array.toArray_toList]
                        iterate 6 go_big_quiet_step (fail)
                        go_big_quiet_step (exact grow_call _ (C2.out _))
                        iterate 3 go_big_quiet_step (fail)
                        refine wpQuiet_nil ?_
                        intro X
                        clear y0 y2 y7 a0 a1 a2 C1 C2 RHH
                        obtain ⟨w6, hb6⟩ := X
                        simp only []
                        have H6 := Lib.hid (HXX.out.trans (hb6.mono HXX.out.size))
                        have HX6 := Lib.hid ((hb6.block _ (lt_of_block HXB.out)).trans HXB.out)
                        clear hb6
                        have HX60 : w6.cell? ⟨bx, 0, none⟩ = some (.string xc) := by rw [cell_of_block HX6.out]; rfl
                        have HX6l : bx < w6.heap.size := lt_of_block HX6.out
                        cases hc1 : Pl.eqv xc rt with
                        | true =>
                          have hc2 : (xc.toList == rt.toList) = true := hc1
                          clear hc1
                          go_wp2_with fail
                          refine (HAW.out _).mono ?_
                          rintro e w7 ⟨rfl, hb7⟩
                          have H7 := Lib.hid (H6.out.trans (hb7.mono H6.out.size))
                          clear hb7
                          go_wp2_with fail
                          go_ret
                          exact ⟨rfl, B2.out.trans (H7.out.mono B2.out.size)⟩
                        | false =>
                          have hc2 : (xc.toList == rt.toList) = false := hc1
                          have HK : Hid (k + 1 ≤ j) := Lib.hid (by
                            rcases Nat.lt_or_ge k j with h5 | h5
                            · exact h5
                            · have := HCD.out (by omega)
                              rw [this, (Pl.eqv_iff _ _).2 rfl] at hc1; cases hc1)
                          clear hc1
                          go_wp2_with fail
                          go_roundw
                          case rel => exact ⟨k + 1, by omega, HK.out, by go_num, H6⟩
                          case measure => simp [intOf]; omega
                      ·
                        have hf1 : ((fr : Int) == 0) = false := by simpa using hf0
                        have HF0 := Lib.hid hf0
                        clear hf0
                        go_wp2_with fail
                        clear d3 d5 dlt
                        refine wp_grow wr (by kernel_rfl) (by kernel_rfl) (Below.refl _ _) ?_
                        simp only []
                        iterate 12 go_big_quiet_step (fail)
                        refine BigFrame.wpQuiet_want (by kernel_rfl) (fun K hK => quiet_load_mid 37 (.tmp 2) rfl w.heap.size 0 rfl h.cells.toList _ (fun W ⟨X, hX⟩ => by rw [hX]; exact range_row0 (RHH.out X)) huh rfl (HSHL.out _) (hK _ ?_))
                        simp only [Act.put, List.setIfInBounds_toArray, List.set_cons_zero, List.set_cons_succ, Array.toArray_toList]
                        iterate 2 go_big_quiet_step (fail)
                        go_big_quiet_step (exact grow_call _ (C1.out _))
                        iterate 5 go_big_quiet_step (fail)
                        refine BigFrame.wpQuiet_want (by kernel_rfl) (fun K hK => quiet_load_mid 37 (.tmp 2) rfl w.heap.size 0 rfl h.cells.toList _ (fun W ⟨X, hX⟩ => by rw [hX]; exact range_row0 (RHH.out X)) huh rfl (HSHL.out _) (hK _ ?_))
                        simp only [Act.put, List.setIfInBounds_toArray, List.set_cons_zero, List.set_cons_succ, Array.toArray_toList]
                        iterate 6 go_big_quiet_step (fail)
                        go_big_quiet_step (exact grow_call _ (C2.out _))
                        iterate 3 go_big_quiet_step (fail)
                        refine wpQuiet_nil ?_
                        intro X
                        clear y0 y2 y7 a0 a1 a2 C1 C2 RHH
                        obtain ⟨w6, hb6⟩ := X
                        simp only []
                        have H6 := Lib.hid (HXX.out.trans (hb6.mono HXX.out.size))
                        have HX6 := Lib.hid ((hb6.block _ (lt_of_block HXB.out)).trans HXB.out)
                        clear hb6
                        have HK := Lib.hid (HNE.out (by rw [HLB.out]; simp [HS1.out, HF0.out]))
                        have HX60 : w6.cell? ⟨bx, 0, none⟩ = some (.string xc) := by rw [cell_of_block HX6.out]; rfl
                        have HX6l : bx < w6.heap.size := lt_of_block HX6.out
                        obtain ⟨cb, hcb⟩ : ∃ z, (xc.toList == rt.toList) = z := ⟨_, rfl⟩
                        cases cb with
                        | true =>
                          go_wp2_with fail
                          go_roundw
                          case rel => exact ⟨k + 1, by omega, HK.out, by go_num, H6⟩
                          case measure => simp [intOf]; omega
                        | false =>
                          go_wp2_with fail
                          go_roundw
                          case rel => exact ⟨k + 1, by omega, HK.out, by go_num, H6⟩
                          case measure => simp [intOf]; omega
                ·
                  have hk2 : (xk == 1) = false := by simpa using hk1
                  have HK1 := Lib.hid hk2
                  clear hk1
                  go_wp2_with fail
                  clear d3 d5 dlt
                  refine wp_grow wr (by kernel_rfl) (by kernel_rfl) (Below.refl _ _) ?_
                  simp only []
                  iterate 32 go_big_quiet_step (fail)
                  refine wpQuiet_nil ?_
                  intro X
                  clear y0 y2 y7 a0 a1 a2 C1 C2 RHH
                  obtain ⟨w6, hb6⟩ := X
                  simp only []
                  have H6 := Lib.hid (HXX.out.trans (hb6.mono HXX.out.size))
                  have HX6 := Lib.hid ((hb6.block _ (lt_of_block HXB.out)).trans HXB.out)
                  clear hb6
                  have HK := Lib.hid (HNE.out (by rw [HLB.out]; simp [HK1.out]))
                  have HX60 : w6.cell? ⟨bx, 0, none⟩ = some (.string xc) := by rw [cell_of_block HX6.out]; rfl
                  have HX6l : bx < w6.heap.size := lt_of_block HX6.out
                  obtain ⟨cb, hcb⟩ : ∃ z, (xc.toList == rt.toList) = z := ⟨_, rfl⟩
                  cases cb with
                  | true =>
                    go_wp2_with fail
                    go_roundw
                    case rel => exact ⟨k + 1, by omega, HK.out, by go_num, H6⟩
                    case measure => simp [intOf]; omega
                  | false =>
                    go_wp2_with fail
                    go_roundw
                    case rel => exact ⟨k + 1, by omega, HK.out, by go_num, H6⟩
                    case measure => simp [intOf]; omega
        · have := HJ.out.1
          have := HM.out
          omega
theorem walk (C : Cons) (h : Hs) (L : Nat → List (List Value)) (cq : List Value) (w : World) (hin : HIn h L w) (fq : Fits kAsk cq) (mq : ∀ u ∈ cq, Mild u) :
    Calls Try.prog 3 #[.agg h.cells, .agg cq.toArray] w fun e w' => e = .returned (.bool true) ∧ Below w.heap.size w w' := by
  obtain ⟨s, t, n, rfl⟩ := ask_cells fq
  exact walk0 C h L s t n w hin (wf_of (mq _ (by simp)))
end Go.Proofs.Ytjphjblcahadkaa.rulesFit
