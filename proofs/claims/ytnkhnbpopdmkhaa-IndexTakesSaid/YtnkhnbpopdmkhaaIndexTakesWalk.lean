/-
  THE LAW IndexTakes, over the contracts. (By wip/tools/gen_laws15.py.)
-/
import Derived.Test.YtnkhnbpopdmkhaaWCon
import Derived.Test.YtnkhnbpopdmkhaaWAwake
import Derived.Test.YtnkhnbpopdmkhaaWRow
import Derived.Test.YtnkhnbpopdmkhaaHSmall
import Derived.Test.YtnkhnbpopdmkhaaHA
import Derived.Test.YtnkhnbpopdmkhaaWFacts
import Derived.Test.YtnkhnbpopdmkhaaQFind
import Derived.BigQuiet
import Derived.Deep.RegionHeld3
namespace Go.Proofs.Ytnkhnbpopdmkhaa.indexTakes
set_option linter.unusedVariables false
open Go.RowKit
open Pl (firstG findG putG It)

/-- The quants ahead of a place are plain, and unlike in their names. -/
def PlainK (L : Nat → List (List Value)) (k : Nat) : Prop := ∀ j, j < k → (0 ≤ (qnOf (qA (L 4) j)).qty ∧ (qnOf (qA (L 4) j)).qty ≤ 1000000000 ∧ 0 ≤ (qnOf (qA (L 4) j)).held ∧ (qnOf (qA (L 4) j)).held ≤ (qnOf (qA (L 4) j)).qty) ∧ ∀ i, i < j → (qnOf (qA (L 4) i)).ky ≠ (qnOf (qA (L 4) j)).ky
theorem plainK_zero (L : Nat → List (List Value)) : PlainK L 0 := fun j hj => absurd hj (Nat.not_lt_zero j)
theorem things_takes (LQ : List (List Value)) (P : List (Nat × Int)) : Things kTake (P.map (takeQ LQ)) := fun e he => by
  obtain ⟨p, _, rfl⟩ := List.mem_map.1 he
  exact takeQ_fits _ p
theorem gotQ_uniq {LQ : List (List Value)} (hu : ∀ i j, i < j → j < LQ.length → (qnOf (qA LQ i)).ky ≠ (qnOf (qA LQ j)).ky) {k : Nat} (hk : k < LQ.length) (hf : Fits kQuant (qA LQ k)) : gotQ LQ (qnOf (qA LQ k)).ky = (qnOf (qA LQ k)).cells ∧ (atQ LQ (qnOf (qA LQ k)).ky).isSome = true := by
  have h1 : atQ LQ (qnOf (qA LQ k)).ky = some k := Pl.firstG_some hk (fun j hj hjk => by
    cases hc : isKy (qnOf (qA LQ k)).ky LQ[j] with
    | false => rfl
    | true => exact absurd (by rw [qA_at _ j hj]; exact isKy_iff.1 hc) (hu j k hjk hk)) (isKy_iff.2 (by rw [qA_at _ k hk]))
  obtain ⟨hi, h2⟩ := gotQ_at h1
  rw [h1, h2, ← qA_at _ k hk]
  exact ⟨qn_cells hf, rfl⟩
set_option maxRecDepth 100000 in
set_option maxHeartbeats 6400000 in
theorem walk0 {IX : World → Nat → (Nat → Prop) → (Nat → List (List Value)) → Prop} (C : ConsX IX) (h : Hs) (L : Nat → List (List Value)) (s t : ByteArray) (na : Int) (w : World) (hin : HIn h L w) (hn : Wf na) :
    Calls Try.prog 3 #[.agg h.cells, .agg #[.string s, .string t, .int .i64 na]] w fun e w' => e = .returned (.bool true) ∧ Below w.heap.size w w' := by
  have HIN := Lib.hid hin
  have HCO := Lib.hid C
  have HWN := Lib.hid hn
  have HAW : Hid (∀ W, Calls Try.prog 7 #[] W fun e w' => e = .returned (.bool true) ∧ Below W.heap.size W w') := Lib.hid (fun W => awake_any C W)
  have hu4 := Try.underlying43
  have HSK : Hid ((Try.prog.info? 43).map (·.size) = some 4) := Lib.hid (by kernel_rfl)
  have HSQQ : Hid ((Try.prog.info? 45).map (·.size) = some 6) := Lib.hid (by kernel_rfl)
  have HSBB : Hid ((Try.prog.info? 53).map (·.size) = some 8) := Lib.hid (by kernel_rfl)
  obtain ⟨W0, hW0⟩ : ∃ W0, W0 = ((w.alloc (.cells h.cells 37)).alloc (.cells #[.string s, .string t, .int .i64 na] 39)) := ⟨_, rfl⟩
  have B0 : Hid (Below w.heap.size w W0) := Lib.hid (by rw [hW0]; exact ((Below.refl _ _).alloc (Nat.le_refl _) _).alloc (by simp <;> omega) _)
  have HH0 : Hid (W0.heap[w.heap.size]? = some (.cells h.cells 37 (0, 0))) := Lib.hid (by
    rw [hW0]
    have hq := heap_alloc_new w (.cells h.cells 37)
    exact (Below.heap_alloc _ _ _ (by simp <;> omega)).trans (by simpa using hq))
  have HX0 : Hid (W0.heap[w.heap.size + 1]? = some (.cells #[.string s, .string t, .int .i64 na] 39 (0, 0))) := Lib.hid (by
    rw [hW0]
    have hq := heap_alloc_new (w.alloc (.cells h.cells 37)) (.cells #[.string s, .string t, .int .i64 na] 39)
    exact by simpa using hq)
  have huh := Try.underlying37
  have HSH : Hid (∀ a : Hs, (Try.prog.info? 37).map (·.size) = some a.cells.size) := Lib.hid (fun a => by kernel_rfl)
  have HSHL : Hid (∀ a : Hs, (Try.prog.info? 37).map (·.size) = some a.cells.toList.length) := Lib.hid (fun a => by kernel_rfl)
  have H1C : Hid (∀ a : Hs, a.cells.all (·.oneCell') = true) := Lib.hid (fun a => by simp [Hs.cells, Value.oneCell'])
  have huAsk := Try.underlying39
  have HSAsk : Hid ((Try.prog.info? 39).map (·.size) = some 3) := Lib.hid (by kernel_rfl)
  clear hin hn
  subst hW0
  go_enter Try.func3, Try.ntmps3
  go_wp2_with (first
    | (refine wpList_load_row rfl 37 (.tmp 2) rfl w.heap.size rfl _ _ _ _ HH0.out huh rfl (HSH.out _) ?_)
    | fail)
  refine (small_calls h _).mono ?_
  rintro e w1 ⟨⟨b, rfl, hb⟩, hb1⟩
  have HH1 := Lib.hid ((hb1.block _ (lt_of_block HH0.out)).trans HH0.out)
  have HX1 := Lib.hid ((hb1.block _ (lt_of_block HX0.out)).trans HX0.out)
  have B1 := Lib.hid (B0.out.trans (hb1.mono B0.out.size))
  clear hb1
  cases b with
  | false =>
    clear hb
    go_wp2_with fail
    refine (HAW.out _).mono ?_
    rintro e w2 ⟨rfl, hb2⟩
    have HB2 := Lib.hid (B1.out.trans (hb2.mono B1.out.size))
    clear hb2
    go_wp2_with fail
    go_ret
    exact ⟨rfl, HB2.out⟩
  | true =>
    have HSM := Lib.hid (hb.1 rfl)
    clear hb
    have HT1 : Hid (HT h L w1) := Lib.hid (HIN.out.ht HSM.out B1.out)
    have HN : Hid (∀ i, i < 14 → h.n i ≤ 1000) := Lib.hid (fun i hi => Nat.le_trans (HSM.out i hi) (cap_le i hi))
    obtain ⟨m, hmm⟩ : ∃ m, h.n 4 = m := ⟨_, rfl⟩
    have HNM : Hid (m = (L 4).length) := Lib.hid (by rw [← hmm]; exact (HT1.out 4 (by decide)).1)
    have HM : Hid (m ≤ 1000) := Lib.hid (by rw [← hmm]; exact HN.out 4 (by decide))
    have HHW : Hid (∀ W, Below w1.heap.size w1 W → W.heap[w.heap.size]? = some (.cells h.cells 37 (0, 0))) := Lib.hid (fun W hW => (hW.block _ (lt_of_block HH1.out)).trans HH1.out)
    have HL4 : Hid (∀ W, Below w1.heap.size w1 W → W.cell? ⟨w.heap.size, 4, none⟩ = some (.slice (h.A 4) m (h.c 4)) ∧ w.heap.size < W.heap.size) := Lib.hid (fun W hW => ⟨by rw [cell_of_block (HHW.out W hW), ← hmm]; rfl, Nat.lt_of_lt_of_le (lt_of_block HH1.out) hW.size⟩)
    clear hmm
    go_wp2_with fail
    go_loopw [5] (fun i wr => ∃ k : Nat, k ≤ m ∧ i = .int .i64 (k : Int) ∧ Hid (Below w1.heap.size w1 wr) ∧ Hid (PlainK L k)) (fun i _ => m - (intOf i).toNat)
    case atStart => exact ⟨0, by omega, rfl, Lib.hid (Below.refl _ _), Lib.hid (plainK_zero L)⟩
    case round =>
      obtain ⟨k, hk, rfl, hw, hpk⟩ := hrel
      obtain ⟨d4, dlt⟩ := HL4.out _ hw.out
      by_cases hlt : k < m
      · have hkl : k < (L 4).length := by rw [← HNM.out]; exact hlt
        have HTR : Hid (HT h L wr) := Lib.hid (HT1.out.below hw.out)
        have BR : Hid (Below w.heap.size w wr) := Lib.hid (B1.out.trans (hw.out.mono B1.out.size))
        obtain ⟨b, off, hA, hb, r1⟩ := quant_atW HTR.out hkl
        obtain ⟨x, hx⟩ : ∃ x, qnOf (qA (L 4) k) = x := ⟨_, rfl⟩
        have HXQ := Lib.hid hx
        rw [hx] at r1
        obtain ⟨qb, qi, ql, qs, qq, qh⟩ := x
        have c4 : wr.cell? ⟨b, off + k * 6 + 4, none⟩ = some (.int .i64 qq) := r1 4 _ rfl
        have c5 : wr.cell? ⟨b, off + k * 6 + 5, none⟩ = some (.int .i64 qh) := r1 5 _ rfl
        have HR1 := Lib.hid r1
        have HBL := Lib.hid hb
        have HAB := Lib.hid hA
        clear hx r1
        have h1 : (0 : Int) ≤ (k : Int) := by omega
        have h2 : (k : Int) < (m : Int) := by omega
        rw [hA] at d4
        have hcase : qq < 0 ∨ (¬ qq < 0 ∧ 1000000000 < qq) ∨ (¬ qq < 0 ∧ ¬ 1000000000 < qq ∧ qh < 0) ∨ (¬ qq < 0 ∧ ¬ 1000000000 < qq ∧ ¬ qh < 0 ∧ qq < qh) ∨ (¬ qq < 0 ∧ ¬ 1000000000 < qq ∧ ¬ qh < 0 ∧ ¬ qq < qh) := by omega
        go_wp2_with fail
        rcases hcase with q0 | ⟨q0, q1⟩ | ⟨q0, q1, q2⟩ | ⟨q0, q1, q2, q3⟩ | ⟨q0, q1, q2, q3⟩
        · have d10 : decide (qq < 0) = true := by simpa using q0
          go_quiet (fail)
          have BD := Lib.hid (below_drewN BR.out nq)
          go_wp2_with fail
          refine (HAW.out _).mono ?_
          rintro e wz ⟨rfl, hbz⟩
          have BZ := Lib.hid (BD.out.trans (hbz.mono BD.out.size))
          clear hbz
          go_wp2_with fail
          go_ret
          exact ⟨rfl, BZ.out⟩
        · have d10 : decide (qq < 0) = false := by simpa using q0
          have d11 : decide (1000000000 < qq) = true := by simpa using q1
          go_quiet (fail)
          have BD := Lib.hid (below_drewN BR.out nq)
          go_wp2_with fail
          refine (HAW.out _).mono ?_
          rintro e wz ⟨rfl, hbz⟩
          have BZ := Lib.hid (BD.out.trans (hbz.mono BD.out.size))
          clear hbz
          go_wp2_with fail
          go_ret
          exact ⟨rfl, BZ.out⟩
        · have d10 : decide (qq < 0) = false := by simpa using q0
          have d11 : decide (1000000000 < qq) = false := by simpa using q1
          have d12 : decide (qh < 0) = true := by simpa using q2
          go_quiet (fail)
          have BD := Lib.hid (below_drewN BR.out nq)
          go_wp2_with fail
          refine (HAW.out _).mono ?_
          rintro e wz ⟨rfl, hbz⟩
          have BZ := Lib.hid (BD.out.trans (hbz.mono BD.out.size))
          clear hbz
          go_wp2_with fail
          go_ret
          exact ⟨rfl, BZ.out⟩
        · have d10 : decide (qq < 0) = false := by simpa using q0
          have d11 : decide (1000000000 < qq) = false := by simpa using q1
          have d12 : decide (qh < 0) = false := by simpa using q2
          have d13 : decide (qq < qh) = true := by simpa using q3
          go_quiet (fail)
          have BD := Lib.hid (below_drewN BR.out nq)
          go_wp2_with fail
          refine (HAW.out _).mono ?_
          rintro e wz ⟨rfl, hbz⟩
          have BZ := Lib.hid (BD.out.trans (hbz.mono BD.out.size))
          clear hbz
          go_wp2_with fail
          go_ret
          exact ⟨rfl, BZ.out⟩
        · have d10 : decide (qq < 0) = false := by simpa using q0
          have d11 : decide (1000000000 < qq) = false := by simpa using q1
          have d12 : decide (qh < 0) = false := by simpa using q2
          have d13 : decide (qq < qh) = false := by simpa using q3
          go_quiet (fail)
          have HWD := Lib.hid (below_drewN hw.out nq)
          obtain ⟨wd, hwd⟩ : ∃ W, wr.drewN nq = W := ⟨_, rfl⟩
          rw [hwd] at HWD ⊢
          clear hwd d4 c4 c5 d10 d11 d12 d13
          go_wp2_with fail
          go_loopw [6] (fun i wv => ∃ j : Nat, j ≤ k ∧ i = .int .i64 (j : Int) ∧ Hid (Below w1.heap.size w1 wv) ∧ Hid (∀ i, i < j → (qnOf (qA (L 4) i)).ky ≠ (qnOf (qA (L 4) k)).ky)) (fun i _ => k - (intOf i).toNat)
          case atStart => exact ⟨0, by omega, rfl, HWD, Lib.hid (fun i hi => absurd hi (Nat.not_lt_zero i))⟩
          case round =>
            obtain ⟨j, hj, rfl, hv, hun⟩ := hrel
            by_cases hjk : j < k
            · have HTV : Hid (HT h L wr) := Lib.hid (HT1.out.below hv.out)
              have BV : Hid (Below w.heap.size w wr) := Lib.hid (B1.out.trans (hv.out.mono B1.out.size))
              have hjl : j < (L 4).length := by omega
              obtain ⟨b2, off2, hA2, hb2, r2⟩ := quant_atW HTV.out hjl
              obtain ⟨b3, off3, hA3, hb3, r3⟩ := quant_atW HTV.out hkl
              have e2 := hA2.symm.trans HAB.out
              have e3 := hA3.symm.trans HAB.out
              injection e2 with e2
              injection e3 with e3
              injection e2 with e21 e22
              injection e3 with e31 e32
              rw [e21, e22] at r2
              rw [e21] at hb2
              rw [e31, e32] at r3
              clear e21 e22 e31 e32 hb3
              rw [HXQ.out] at r3
              obtain ⟨y, hy⟩ : ∃ y, qnOf (qA (L 4) j) = y := ⟨_, rfl⟩
              have HYQ := Lib.hid hy
              rw [hy] at r2
              obtain ⟨yb, yi, yl, ys, yq, yh⟩ := y
              have RJ : Hid (∀ X : BW wr, X.W.rangeAt b (off + j * 6) [.string yb, .string yi, .string yl, .int .i64 ys]) := Lib.hid (fun X i v hv => rangeAt_below r2 hb2 X.h i v (by unfold Qn.cells; have hi : i < 4 := (List.getElem?_eq_some_iff.1 hv).1; match i, hi with | 0, _ | 1, _ | 2, _ | 3, _ => exact hv))
              have RK : Hid (∀ X : BW wr, X.W.rangeAt b (off + k * 6) [.string qb, .string qi, .string ql, .int .i64 qs]) := Lib.hid (fun X i v hv => rangeAt_below r3 hb2 X.h i v (by unfold Qn.cells; have hi : i < 4 := (List.getElem?_eq_some_iff.1 hv).1; match i, hi with | 0, _ | 1, _ | 2, _ | 3, _ => exact hv))
              have x4 : ∀ X : BW wr, X.W.cell? ⟨w.heap.size, 4, none⟩ = some (.slice (some ⟨b, off, none⟩) m (h.c 4)) := fun X => by have := (HL4.out _ (hv.out.trans (X.h.mono hv.out.size))).1; rwa [HAB.out] at this
              have h3 : (0 : Int) ≤ (j : Int) := by omega
              have h4 : (j : Int) < (m : Int) := by omega
              clear hy r2 r3 hA2 hA3 hb2
              by_cases hky : (Qn.mk yb yi yl ys yq yh).ky = (Qn.mk qb qi ql qs qq qh).ky
              · have heq : ∀ W, (binOp .eql 43 (.agg #[.string yb, .string yi, .string yl, .int .i64 ys]) (.agg #[.string qb, .string qi, .string ql, .int .i64 qs])).run Try.prog W = .ok (.bool true) W := fun W => by
                  obtain ⟨b, e1, e2⟩ := eql_struct (P := Try.prog) eqKey (by decide) (Qn.mk yb yi yl ys yq yh).ky.cells (Qn.mk qb qi ql qs qq qh).ky.cells W (Ky.fits _) (Ky.fits _)
                  rw [show b = true from e2.2 (by rw [hky])] at e1
                  exact e1
                go_wp2_with fail
                refine wp_grow wr (by kernel_rfl) (by kernel_rfl) (Below.refl _ _) ?_
                simp only []
                iterate 5 go_big_quiet_step (fail)
                refine BigFrame.wpQuiet_want (by kernel_rfl) (fun K hK => quiet_load_mid 43 (.tmp 76) rfl b (off + j * 6) rfl [.string yb, .string yi, .string yl, .int .i64 ys] _ (fun W ⟨X, hX⟩ => by rw [hX]; exact RJ.out X) hu4 rfl HSK.out (hK _ ?_))
                simp only [ax]
                iterate 5 go_big_quiet_step (fail)
                refine BigFrame.wpQuiet_want (by kernel_rfl) (fun K hK => quiet_load_mid 43 (.tmp 82) rfl b (off + k * 6) rfl [.string qb, .string qi, .string ql, .int .i64 qs] _ (fun W ⟨X, hX⟩ => by rw [hX]; exact RK.out X) hu4 rfl HSK.out (hK _ ?_))
                simp only [ax]
                go_big_quiet_step (fail)
                refine wpQuiet_nil ?_
                intro X
                clear x4 heq RJ RK
                obtain ⟨wn, hb1⟩ := X
                simp only []
                go_wp2_with fail
                refine (HAW.out _).mono ?_
                rintro e wz ⟨rfl, hbz⟩
                have BZ := Lib.hid (BV.out.trans ((hb1.trans (hbz.mono hb1.size)).mono BV.out.size))
                clear hbz hb1
                go_wp2_with fail
                go_ret
                exact ⟨rfl, BZ.out⟩
              · have heq : ∀ W, (binOp .eql 43 (.agg #[.string yb, .string yi, .string yl, .int .i64 ys]) (.agg #[.string qb, .string qi, .string ql, .int .i64 qs])).run Try.prog W = .ok (.bool false) W := fun W => by
                  obtain ⟨b, e1, e2⟩ := eql_struct (P := Try.prog) eqKey (by decide) (Qn.mk yb yi yl ys yq yh).ky.cells (Qn.mk qb qi ql qs qq qh).ky.cells W (Ky.fits _) (Ky.fits _)
                  rw [show b = false from by cases b with | false => rfl | true => exact absurd (Ky.cells_inj (e2.1 rfl)) hky] at e1
                  exact e1
                have HUN : Hid (∀ i, i < j + 1 → (qnOf (qA (L 4) i)).ky ≠ (qnOf (qA (L 4) k)).ky) := Lib.hid (fun i hi => by
                  by_cases e : i = j
                  · subst e; rw [HYQ.out, HXQ.out]; exact hky
                  · exact hun.out i (by omega))
                go_wp2_with fail
                refine wp_grow wr (by kernel_rfl) (by kernel_rfl) (Below.refl _ _) ?_
                simp only []
                iterate 5 go_big_quiet_step (fail)
                refine BigFrame.wpQuiet_want (by kernel_rfl) (fun K hK => quiet_load_mid 43 (.tmp 76) rfl b (off + j * 6) rfl [.string yb, .string yi, .string yl, .int .i64 ys] _ (fun W ⟨X, hX⟩ => by rw [hX]; exact RJ.out X) hu4 rfl HSK.out (hK _ ?_))
                simp only [ax]
                iterate 5 go_big_quiet_step (fail)
                refine BigFrame.wpQuiet_want (by kernel_rfl) (fun K hK => quiet_load_mid 43 (.tmp 82) rfl b (off + k * 6) rfl [.string qb, .string qi, .string ql, .int .i64 qs] _ (fun W ⟨X, hX⟩ => by rw [hX]; exact RK.out X) hu4 rfl HSK.out (hK _ ?_))
                simp only [ax]
                go_big_quiet_step (fail)
                refine wpQuiet_nil ?_
                intro X
                clear x4 heq RJ RK
                obtain ⟨wn, hb1⟩ := X
                simp only []
                have HV1 := Lib.hid (hv.out.trans (hb1.mono hv.out.size))
                clear hb1
                have hm9 := HM.out
                go_wp2_with fail
                go_roundw
                case rel => exact ⟨j + 1, by omega, by go_num, HV1, HUN⟩
                case measure => simp [intOf]; omega
            · have HPK : Hid (PlainK L (k + 1)) := Lib.hid (fun i hi => by
                by_cases e : i = k
                · subst e
                  refine ⟨?_, fun i' hi' => hun.out i' (by omega)⟩
                  rw [HXQ.out]
                  simp only []
                  omega
                · exact hpk.out i (by omega))
              have hm9 := HM.out
              go_wp2_with fail
              go_roundw
              case rel => exact ⟨k + 1, by omega, by go_num, hv, HPK⟩
              case measure => simp [intOf]; omega
      · have HTR : Hid (HT h L wr) := Lib.hid (HT1.out.below hw.out)
        have HPN : Hid (PlainN (L 4)) := Lib.hid (fun e he => by
          obtain ⟨i, hi, rfl⟩ := List.getElem_of_mem he
          have := (hpk.out i (by have := HNM.out; omega)).1
          rwa [qA_at _ i hi] at this)
        have HUN : Hid (∀ i j, i < j → j < (L 4).length → (qnOf (qA (L 4) i)).ky ≠ (qnOf (qA (L 4) j)).ky) := Lib.hid (fun i j hij hj => (hpk.out j (by have := HNM.out; omega)).2 i hij)
        have HH2 := Lib.hid (HHW.out _ hw.out)
        have HX2 := Lib.hid ((hw.out.block _ (lt_of_block HX1.out)).trans HX1.out)
        have BR : Hid (Below w.heap.size w wr) := Lib.hid (B1.out.trans (hw.out.mono B1.out.size))
        have x0 : wr.cell? ⟨w.heap.size + 1, 0, none⟩ = some (.string s) := by rw [cell_of_block HX2.out]; rfl
        have x1 : wr.cell? ⟨w.heap.size + 1, 1, none⟩ = some (.string t) := by rw [cell_of_block HX2.out]; rfl
        have x2 : wr.cell? ⟨w.heap.size + 1, 2, none⟩ = some (.int .i64 na) := by rw [cell_of_block HX2.out]; rfl
        clear hpk
        go_wp2_with (first
          | (refine wpList_load_row rfl 37 (.tmp 2) rfl w.heap.size rfl _ _ _ _ HH2.out huh rfl (HSH.out _) ?_)
          | fail)
        refine (HCO.out.naive h L s t na _ HTR.out HN.out HWN.out).mono ?_
        rintro e w3 ⟨hb3, A, c, rfl, ho⟩
        have HO3 := Lib.hid ho
        have HH3 := Lib.hid ((hb3.block _ (lt_of_block HH2.out)).trans HH2.out)
        have HX3 := Lib.hid ((hb3.block _ (lt_of_block HX2.out)).trans HX2.out)
        have HT3 := Lib.hid (HTR.out.below hb3)
        have B3 := Lib.hid (BR.out.trans (hb3.mono BR.out.size))
        clear hb3 ho x0 x1 x2 HH2 HX2 HTR BR
        go_wp2_with fail
        -- TAKES
        obtain ⟨P, hP⟩ : ∃ P, pickI L s t na = P := ⟨_, rfl⟩
        obtain ⟨m9, hm9⟩ : ∃ z, (pickL L s t na).length = z := ⟨_, rfl⟩
        have hpl : pickL L s t na = P.map (takeQ (L 4)) := by rw [← hP]; rfl
        have HMP : Hid (m9 = P.length) := Lib.hid (by rw [← hm9, hpl, List.length_map])
        rw [hm9]
        have HLP : Hid (Rd w3 w3.heap.size A (P.map (takeQ (L 4))).flatten) := Lib.hid (by rw [← hpl]; exact HO3.out)
        have HPM : Hid (∀ p ∈ P, p.1 < (L 4).length ∧ mayB (L 2) (L 3) s t (qA (L 4) p.1) = true ∧ 1 ≤ p.2 ∧ p.2 ≤ frQ (qA (L 4) p.1)) := Lib.hid (fun p hp => pick_mem (by rw [hP]; exact hp))
        have HND : Hid ((P.map Prod.fst).Nodup) := Lib.hid (by rw [← hP]; exact pick_nodup L s t na)
        have HPS : Hid ((P.map Prod.snd).sum = min (max na 0) (openZ L s t)) := Lib.hid (by rw [← hP]; exact pick_sum s t na HPN.out (by rw [← HNM.out]; exact HM.out))
        have HM9 : Hid (m9 ≤ 1000) := Lib.hid (by rw [← hm9]; exact Nat.le_trans (pick_len L s t na) (by rw [← HNM.out]; exact HM.out))
        clear hP hm9 hpl
        have hm91 := HM9.out
        go_loopw [8, 9] (fun nv iv wr => ∃ (j : Nat) (z : Int), j ≤ m9 ∧ iv = .int .i64 (j : Int) ∧ nv = .int .i64 z ∧ 0 ≤ z ∧ z ≤ (j : Int) * 1000000000 ∧ Hid (z = ((P.take j).map Prod.snd).sum) ∧ Hid (Below w3.heap.size w3 wr)) (fun _ iv _ => m9 - (intOf iv).toNat)
        case atStart => exact ⟨0, 0, by omega, rfl, rfl, by omega, by omega, Lib.hid (by simp), Lib.hid (Below.refl _ _)⟩
        case round =>
          obtain ⟨j, z, hj, rfl, rfl, hz0, hz1, hzs, hw⟩ := hrel
          by_cases hlt : j < m9
          · skip
            have hjl : j < P.length := by rw [← HMP.out]; exact hlt
            obtain ⟨kq, tn, hpe⟩ : ∃ kq tn, P[j] = (kq, tn) := ⟨_, _, rfl⟩
            have hpm := HPM.out _ (List.getElem_mem hjl)
            rw [hpe] at hpm
            obtain ⟨hkl, hmay, ht1, htf⟩ := hpm
            simp only [] at hkl hmay ht1 htf
            have hjm : j < (P.map (takeQ (L 4))).length := by rw [List.length_map]; exact hjl
            obtain ⟨lb, lo, hAe, hlb, hcs⟩ := HLP.out.thing (things_takes (L 4) P) (by decide) hjm
            have rj := hcs j hjm
            rw [List.getElem_map, hpe] at rj
            have hof : lo + j * kTake.length = lo + j * 5 := rfl
            rw [hof] at rj
            subst hAe
            obtain ⟨x, hx⟩ : ∃ x, qnOf (qA (L 4) kq) = x := ⟨_, rfl⟩
            have hfp := frQ_plain HPN.out (e := qA (L 4) kq) (by rw [qA_at _ kq hkl]; exact List.getElem_mem hkl)
            have htq : takeQ (L 4) (kq, tn) = [.string x.bin, .string x.item, .string x.lot, .int .i64 x.st, .int .i64 tn] := by rw [← hx]; rfl
            rw [htq] at rj
            have hgq : gotQ (L 4) x.ky = x.cells ∧ (atQ (L 4) x.ky).isSome = true := by rw [← hx]; exact gotQ_uniq HUN.out hkl (by rw [qA_at _ kq hkl]; exact (HT3.out 4 (by decide)).2.2.1 _ (List.getElem_mem hkl))
            unfold mayB at hmay
            simp only [Bool.and_eq_true, beq_iff_eq, Bool.not_eq_true'] at hmay
            rw [hx] at hmay hfp
            obtain ⟨hmi, hms, hmb, hmk, hmf, hmsi, hmfr⟩ := hmay
            have hmi := ((Pl.eqv_iff _ _).1 hmi).symm
            have HXQ := Lib.hid hx
            clear hx htq hmsi hmfr hcs hof
            obtain ⟨qb, qi, ql, qs, qq, qh⟩ := x
            simp only [] at hmi hms hmb hmk hmf
            subst hmi hms
            obtain ⟨⟨yc, yz, kd, ai, pl, vo, we, fz⟩, hy, hyb⟩ := bin_eight HT3.out qb
            rw [hyb] at hmk hmf
            unfold Bn.cells at hy
            simp only [] at hmk hmf
            subst hmk hmf
            have HTW := Lib.hid (HT3.out.below hw.out)
            have HHR : Hid (wr.heap[w.heap.size]? = some (.cells h.cells 37 (0, 0))) := Lib.hid ((hw.out.block _ (lt_of_block HH3.out)).trans HH3.out)
            have HXR := Lib.hid ((hw.out.block _ (lt_of_block HX3.out)).trans HX3.out)
            have HRJ : Hid (∀ W, Below w3.heap.size w3 W → W.rangeAt lb (lo + j * 5) [.string qb, .string t, .string ql, .int .i64 1, .int .i64 tn]) := Lib.hid (fun W hW => rangeAt_below rj hlb hW)
            have CQ : Hid (∀ W, HT h L W → Calls Try.prog 9 #[.agg h.cells, .agg #[.string qb, .string t, .string ql, .int .i64 1]] W fun e w' => e = .returned (.tuple #[.agg #[.string qb, .string t, .string ql, .int .i64 1, .int .i64 qq, .int .i64 qh], .bool true]) ∧ Below W.heap.size W w') := Lib.hid (fun W hW => by
              have h1 := frq hW qb t ql 1
              have h2 : Ky.mk qb t ql 1 = (Qn.mk qb t ql 1 qq qh).ky := rfl
              rw [h2, hgq.1, hgq.2] at h1
              exact h1)
            have CB : Hid (∀ W, HT h L W → Calls Try.prog 10 #[.agg h.cells, .string qb] W fun e w' => e = .returned (.tuple #[.agg #[.string yc, .string yz, .int .i64 1, .int .i64 ai, .int .i64 pl, .int .i64 vo, .int .i64 we, .bool false], .bool true]) ∧ Below W.heap.size W w') := Lib.hid (fun W hW => by
              have h1 := frBin hW qb
              rw [hy, hmb] at h1
              exact h1)
            obtain ⟨fr, hfr⟩ : ∃ z, frQ (qA (L 4) kq) = z := ⟨_, rfl⟩
            rw [hfr] at hfp htf
            obtain ⟨hfe, hf0, hf9⟩ := hfp
            simp only [] at hfe
            have HNDJ := HND.out
            clear hgq hy hyb hmb rj hlb hfr
            have h1 : (0 : Int) ≤ (j : Int) := by omega
            have h2 : (j : Int) < (m9 : Int) := by omega
            have HST : Hid (∀ X, Below wr.heap.size wr X → X.rangeAt w.heap.size 0 h.cells.toList ∧ X.rangeAt lb (lo + j * 5) [.string qb, .string t, .string ql, .int .i64 1]) := Lib.hid (fun X hX => ⟨range_row0 ((hX.block _ (lt_of_block HHR.out)).trans HHR.out), fun i v hv => HRJ.out X (hw.out.trans (hX.mono hw.out.size)) i v (by have hi : i < 4 := (List.getElem?_eq_some_iff.1 hv).1; match i, hi with | 0, _ | 1, _ | 2, _ | 3, _ => exact hv)⟩)
            go_wp2_with fail
            apply region_to1 (R := fun g W => Hid (Below wr.heap.size wr W ∧ wr.heap.size ≤ g ∧ W.heap[g]? = some (.cells #[.string qb, .string t, .string ql, .int .i64 1, .int .i64 qq, .int .i64 qh] 45 (0, 0))))
            · refine wp_region_held_drew (S := (fun w' => w'.rangeAt w.heap.size 0 h.cells.toList ∧ w'.rangeAt lb (lo + j * 5) [.string qb, .string t, .string ql, .int .i64 1])) (by kernel_rfl) (HST.out _ (Below.refl wr.heap.size wr).drew) (fun dd0 => ?_)
              refine wpAnyH_take (i := 0) (v := .agg h.cells) rfl (by kernel_rfl) (by kernel_rfl) (by kernel_rfl) (fun _ _ _ h => nomatch h.1) (yieldsIf_load_mid (by kernel_rfl) 37 (.tmp 2) rfl w.heap.size 0 rfl h.cells.toList _ (fun w h => h.1) huh rfl (HSHL.out _)) (by assumption) ?_
              (try simp only [Act.put, List.getElem_toArray, List.getElem_cons_zero, List.setIfInBounds_toArray, List.set_cons_zero, List.set_cons_succ])
              refine wpAnyH_take (i := 1) (v := .slice (some ⟨lb, lo, none⟩) m9 c) rfl (by kernel_rfl) (by kernel_rfl) (by kernel_rfl) (fun _ _ _ h => nomatch h.1) (.inl ⟨by kernel_rfl, fun w hw => by clear hw; go_simp⟩) (by assumption) ?_
              (try simp only [Act.put, List.getElem_toArray, List.getElem_cons_succ, List.getElem_cons_zero, List.setIfInBounds_toArray, List.set_cons_zero, List.set_cons_succ])
              refine wpAnyH_take (i := 2) (v := .int .i64 (j : Int)) rfl (by kernel_rfl) (by kernel_rfl) (by kernel_rfl) (fun _ _ _ h => nomatch h.1) (.inl ⟨by kernel_rfl, fun w hw => by clear hw; go_simp⟩) (by assumption) ?_
              (try simp only [Act.put, List.getElem_toArray, List.getElem_cons_succ, List.getElem_cons_zero, List.setIfInBounds_toArray, List.set_cons_zero, List.set_cons_succ])
              refine wpAnyH_take (i := 3) (v := .pointer (some ⟨lb, lo + j * 5, none⟩)) rfl (by kernel_rfl) (by kernel_rfl) (by kernel_rfl) (fun _ _ _ h => nomatch h.1) (.inl ⟨by kernel_rfl, fun w hw => by clear hw; go_simp⟩) (by assumption) ?_
              (try simp only [Act.put, List.getElem_toArray, List.getElem_cons_succ, List.getElem_cons_zero, List.setIfInBounds_toArray, List.set_cons_zero, List.set_cons_succ])
              refine wpAnyH_take (i := 4) (v := .pointer (some ⟨lb, lo + j * 5, none⟩)) rfl (by kernel_rfl) (by kernel_rfl) (by kernel_rfl) (fun _ _ _ h => nomatch h.1) (.inl ⟨by kernel_rfl, fun w hw => by clear hw; go_simp⟩) (by assumption) ?_
              (try simp only [Act.put, List.getElem_toArray, List.getElem_cons_succ, List.getElem_cons_zero, List.setIfInBounds_toArray, List.set_cons_zero, List.set_cons_succ])
              refine wpAnyH_take (i := 5) (v := .agg #[.string qb, .string t, .string ql, .int .i64 1]) rfl (by kernel_rfl) (by kernel_rfl) (by kernel_rfl) (fun _ _ _ h => nomatch h.1) (yieldsIf_load_mid (by kernel_rfl) 43 (.tmp 105) rfl lb (lo + j * 5) rfl [.string qb, .string t, .string ql, .int .i64 1] _ (fun w h => h.2) hu4 rfl HSK.out) (by assumption) ?_
              (try simp only [Act.put, List.getElem_toArray, List.getElem_cons_succ, List.getElem_cons_zero, List.setIfInBounds_toArray, List.set_cons_zero, List.set_cons_succ])
              refine wpAnyH_ready (rs := [6, 10]) (by kernel_rfl) (by simp) ?_
              refine AllReadyH.cons rfl (fun K' hK => ?_) (AllReadyH.cons rfl (fun K' hK => ?_) AllReadyH.nil)
              ·
                go_simp
                refine (CQ.out wr.drew (HTW.out.below (Below.refl wr.heap.size wr).drew)).mono ?_
                rintro e y1 ⟨rfl, hb1⟩
                have BY1 := Lib.hid ((Below.refl wr.heap.size wr).drew.trans (hb1.mono (Below.refl wr.heap.size wr).drew.size))
                refine hK.out _ _ (HST.out _ BY1.out) (fun _ => ?_)
                clear hK K' hb1
                (try simp only [Act.put, List.getElem_toArray, List.getElem_cons_succ, List.getElem_cons_zero, List.setIfInBounds_toArray, List.set_cons_zero, List.set_cons_succ])
                refine wpAnyH_take (i := 7) (v := .tuple #[.agg #[.string qb, .string t, .string ql, .int .i64 1, .int .i64 qq, .int .i64 qh], .bool true]) rfl (by kernel_rfl) (by kernel_rfl) (by kernel_rfl) (fun _ _ _ h => nomatch h.1) (.inl ⟨by kernel_rfl, fun w hw => by clear hw; go_simp⟩) (by assumption) ?_
                (try simp only [Act.put, List.getElem_toArray, List.getElem_cons_succ, List.getElem_cons_zero, List.setIfInBounds_toArray, List.set_cons_zero, List.set_cons_succ])
                refine wpAnyH_take (i := 8) (v := .agg #[.string qb, .string t, .string ql, .int .i64 1, .int .i64 qq, .int .i64 qh]) rfl (by kernel_rfl) (by kernel_rfl) (by kernel_rfl) (fun _ _ _ h => nomatch h.1) (.inl ⟨by kernel_rfl, fun w hw => by clear hw; go_simp⟩) (by assumption) ?_
                (try simp only [Act.put, List.getElem_toArray, List.getElem_cons_succ, List.getElem_cons_zero, List.setIfInBounds_toArray, List.set_cons_zero, List.set_cons_succ])
                refine wpAnyH_take (i := 9) (v := .bool true) rfl (by kernel_rfl) (by kernel_rfl) (by kernel_rfl) (fun _ _ _ h => nomatch h.1) (.inl ⟨by kernel_rfl, fun w hw => by clear hw; go_simp⟩) (by assumption) ?_
                (try simp only [Act.put, List.getElem_toArray, List.getElem_cons_succ, List.getElem_cons_zero, List.setIfInBounds_toArray, List.set_cons_zero, List.set_cons_succ])
                refine wpAnyH_ready (rs := [10]) (by kernel_rfl) (by simp) ?_
                refine AllReadyH.cons rfl (fun K' hK => ?_) AllReadyH.nil
                go_simp
                obtain ⟨y2, hy2⟩ : ∃ W, W = (y1.alloc (.cells #[.string ⟨#[]⟩, .string ⟨#[]⟩, .string ⟨#[]⟩, .int .i64 0, .int .i64 0, .int .i64 0] 45)) := ⟨_, rfl⟩
                obtain ⟨g, hg⟩ : ∃ g, g = y1.heap.size := ⟨_, rfl⟩
                have HGW : Hid (wr.heap.size ≤ g) := Lib.hid (by rw [hg]; exact BY1.out.size)
                have hb2 : Below y1.heap.size y1 y2 := by rw [hy2]; exact ((Below.refl _ _).alloc (Nat.le_refl _) _)
                have BY2 := Lib.hid (BY1.out.trans (hb2.mono BY1.out.size))
                have HGX : Hid (y2.heap[g]? = some (.cells #[.string ⟨#[]⟩, .string ⟨#[]⟩, .string ⟨#[]⟩, .int .i64 0, .int .i64 0, .int .i64 0] 45 (0, 0))) := Lib.hid (by rw [hy2, hg]; exact heap_alloc_new y1 _)
                rw [← hy2, ← hg]
                refine hK.out _ _ (HST.out _ BY2.out) (fun _ => ?_)
                clear hK K' hy2 hb2 hg
                (try simp only [Act.put, List.getElem_toArray, List.getElem_cons_succ, List.getElem_cons_zero, List.setIfInBounds_toArray, List.set_cons_zero, List.set_cons_succ])
                refine wpAnyH_ready (rs := [11]) (by kernel_rfl) (by simp) ?_
                refine AllReadyH.cons rfl (fun K' hK => ?_) AllReadyH.nil
                rw [if_pos (by kernel_rfl)]
                refine wp_store_row 45 (.tmp 10) (.tmp 108) rfl g #[.string qb, .string t, .string ql, .int .i64 1, .int .i64 qq, .int .i64 qh] rfl rfl _ _ HGX.out HSQQ.out rfl (by simp [Value.oneCell']) ?_
                obtain ⟨y3, hy3⟩ : ∃ W, W = y2.setRow g #[.string qb, .string t, .string ql, .int .i64 1, .int .i64 qq, .int .i64 qh] := ⟨_, rfl⟩
                have BY3 : Hid (Below wr.heap.size wr y3) := Lib.hid (by rw [hy3]; exact setRow_below BY2.out HGW.out _)
                have HGY : Hid (y3.heap[g]? = some (.cells #[.string qb, .string t, .string ql, .int .i64 1, .int .i64 qq, .int .i64 qh] 45 (0, 0))) := Lib.hid (by rw [hy3]; exact setRow_heap _ _ _ _ _ _ HGX.out)
                rw [← hy3]
                have HGX := HGY
                refine hK.out _ _ (HST.out _ BY3.out) (fun _ => ?_)
                clear hK K' hy3
                (try simp only [Act.put, List.getElem_toArray, List.getElem_cons_succ, List.getElem_cons_zero])
                refine wpAnyH_take (i := 12) (v := .bool true) rfl (by kernel_rfl) (by kernel_rfl) (by kernel_rfl) (fun _ _ _ h => nomatch h.1) (.inl ⟨by kernel_rfl, fun w hw => by clear hw; go_simp⟩) (by assumption) ?_
                (try simp only [Act.put, List.getElem_toArray, List.getElem_cons_succ, List.getElem_cons_zero, List.setIfInBounds_toArray, List.set_cons_zero, List.set_cons_succ])
                refine wpAnyH_done (by kernel_rfl) ?_ _
                exact ⟨rfl, g, rfl, Lib.hid ⟨BY3.out, HGW.out, HGX.out⟩⟩
              ·
                go_simp
                obtain ⟨y4, hy4⟩ : ∃ W, W = (wr.alloc (.cells #[.string ⟨#[]⟩, .string ⟨#[]⟩, .string ⟨#[]⟩, .int .i64 0, .int .i64 0, .int .i64 0] 45)).drew := ⟨_, rfl⟩
                obtain ⟨g, hg⟩ : ∃ g, g = wr.heap.size := ⟨_, rfl⟩
                have HGW : Hid (wr.heap.size ≤ g) := Lib.hid (by rw [hg]; exact Nat.le_refl _)
                have hb4 : Below wr.heap.size wr y4 := by rw [hy4]; exact ((Below.refl _ _).alloc (Nat.le_refl _) _).drew
                have BY4 := Lib.hid (hb4)
                have HGX : Hid (y4.heap[g]? = some (.cells #[.string ⟨#[]⟩, .string ⟨#[]⟩, .string ⟨#[]⟩, .int .i64 0, .int .i64 0, .int .i64 0] 45 (0, 0))) := Lib.hid (by rw [hy4, hg]; exact heap_alloc_new wr _)
                rw [← hy4, ← hg]
                refine hK.out _ _ (HST.out _ BY4.out) (fun _ => ?_)
                clear hK K' hy4 hb4 hg
                (try simp only [Act.put, List.getElem_toArray, List.getElem_cons_succ, List.getElem_cons_zero, List.setIfInBounds_toArray, List.set_cons_zero, List.set_cons_succ])
                refine wpAnyH_ready (rs := [6]) (by kernel_rfl) (by simp) ?_
                refine AllReadyH.cons rfl (fun K' hK => ?_) AllReadyH.nil
                go_simp
                refine (CQ.out y4 (HTW.out.below BY4.out)).mono ?_
                rintro e y5 ⟨rfl, hb5⟩
                have BY5 := Lib.hid (BY4.out.trans (hb5.mono BY4.out.size))
                have HGX := Lib.hid ((hb5.block _ (lt_of_block HGX.out)).trans HGX.out)
                refine hK.out _ _ (HST.out _ BY5.out) (fun _ => ?_)
                clear hK K' hb5
                (try simp only [Act.put, List.getElem_toArray, List.getElem_cons_succ, List.getElem_cons_zero, List.setIfInBounds_toArray, List.set_cons_zero, List.set_cons_succ])
                refine wpAnyH_take (i := 7) (v := .tuple #[.agg #[.string qb, .string t, .string ql, .int .i64 1, .int .i64 qq, .int .i64 qh], .bool true]) rfl (by kernel_rfl) (by kernel_rfl) (by kernel_rfl) (fun _ _ _ h => nomatch h.1) (.inl ⟨by kernel_rfl, fun w hw => by clear hw; go_simp⟩) (by assumption) ?_
                (try simp only [Act.put, List.getElem_toArray, List.getElem_cons_succ, List.getElem_cons_zero, List.setIfInBounds_toArray, List.set_cons_zero, List.set_cons_succ])
                refine wpAnyH_take (i := 8) (v := .agg #[.string qb, .string t, .string ql, .int .i64 1, .int .i64 qq, .int .i64 qh]) rfl (by kernel_rfl) (by kernel_rfl) (by kernel_rfl) (fun _ _ _ h => nomatch h.1) (.inl ⟨by kernel_rfl, fun w hw => by clear hw; go_simp⟩) (by assumption) ?_
                (try simp only [Act.put, List.getElem_toArray, List.getElem_cons_succ, List.getElem_cons_zero, List.setIfInBounds_toArray, List.set_cons_zero, List.set_cons_succ])
                refine wpAnyH_take (i := 9) (v := .bool true) rfl (by kernel_rfl) (by kernel_rfl) (by kernel_rfl) (fun _ _ _ h => nomatch h.1) (.inl ⟨by kernel_rfl, fun w hw => by clear hw; go_simp⟩) (by assumption) ?_
                (try simp only [Act.put, List.getElem_toArray, List.getElem_cons_succ, List.getElem_cons_zero, List.setIfInBounds_toArray, List.set_cons_zero, List.set_cons_succ])
                refine wpAnyH_ready (rs := [11]) (by kernel_rfl) (by simp) ?_
                refine AllReadyH.cons rfl (fun K' hK => ?_) AllReadyH.nil
                rw [if_pos (by kernel_rfl)]
                refine wp_store_row 45 (.tmp 10) (.tmp 108) rfl g #[.string qb, .string t, .string ql, .int .i64 1, .int .i64 qq, .int .i64 qh] rfl rfl _ _ HGX.out HSQQ.out rfl (by simp [Value.oneCell']) ?_
                obtain ⟨y6, hy6⟩ : ∃ W, W = y5.setRow g #[.string qb, .string t, .string ql, .int .i64 1, .int .i64 qq, .int .i64 qh] := ⟨_, rfl⟩
                have BY6 : Hid (Below wr.heap.size wr y6) := Lib.hid (by rw [hy6]; exact setRow_below BY5.out HGW.out _)
                have HGY : Hid (y6.heap[g]? = some (.cells #[.string qb, .string t, .string ql, .int .i64 1, .int .i64 qq, .int .i64 qh] 45 (0, 0))) := Lib.hid (by rw [hy6]; exact setRow_heap _ _ _ _ _ _ HGX.out)
                rw [← hy6]
                have HGX := HGY
                refine hK.out _ _ (HST.out _ BY6.out) (fun _ => ?_)
                clear hK K' hy6
                (try simp only [Act.put, List.getElem_toArray, List.getElem_cons_succ, List.getElem_cons_zero])
                refine wpAnyH_take (i := 12) (v := .bool true) rfl (by kernel_rfl) (by kernel_rfl) (by kernel_rfl) (fun _ _ _ h => nomatch h.1) (.inl ⟨by kernel_rfl, fun w hw => by clear hw; go_simp⟩) (by assumption) ?_
                (try simp only [Act.put, List.getElem_toArray, List.getElem_cons_succ, List.getElem_cons_zero, List.setIfInBounds_toArray, List.set_cons_zero, List.set_cons_succ])
                refine wpAnyH_done (by kernel_rfl) ?_ _
                exact ⟨rfl, g, rfl, Lib.hid ⟨BY6.out, HGW.out, HGX.out⟩⟩
            · intro g1 v1 hR1
              have HVA := Lib.hid (hR1.out.1)
              have HVX := Lib.hid (hR1.out.2.2)
              have HVG := Lib.hid (hR1.out.2.1)
              clear HST hR1
              have HTA := Lib.hid (HTW.out.below HVA.out)
              have HW1 := Lib.hid (hw.out.trans (HVA.out.mono hw.out.size))
              have HHA : Hid (v1.heap[w.heap.size]? = some (.cells h.cells 37 (0, 0))) := Lib.hid ((HVA.out.block _ (lt_of_block HHR.out)).trans HHR.out)
              have HST : Hid (∀ X, Below v1.heap.size v1 X → X.rangeAt w.heap.size 0 h.cells.toList ∧ X.cell? ⟨lb, lo + j * 5, none⟩ = some (.string qb)) := Lib.hid (fun X hX => ⟨range_row0 ((hX.block _ (lt_of_block HHA.out)).trans HHA.out), HRJ.out X (HW1.out.trans (hX.mono HW1.out.size)) 0 _ rfl⟩)
              go_wp2_with fail
              apply region_to1 (R := fun g W => Hid (Below v1.heap.size v1 W ∧ v1.heap.size ≤ g ∧ W.heap[g]? = some (.cells #[.string yc, .string yz, .int .i64 1, .int .i64 ai, .int .i64 pl, .int .i64 vo, .int .i64 we, .bool false] 53 (0, 0))))
              · refine wp_region_held_drew (S := (fun w' => w'.rangeAt w.heap.size 0 h.cells.toList ∧ w'.cell? ⟨lb, lo + j * 5, none⟩ = some (.string qb))) (by kernel_rfl) (HST.out _ (Below.refl v1.heap.size v1).drew) (fun dd0 => ?_)
                refine wpAnyH_take (i := 0) (v := .agg h.cells) rfl (by kernel_rfl) (by kernel_rfl) (by kernel_rfl) (fun _ _ _ h => nomatch h.1) (yieldsIf_load_mid (by kernel_rfl) 37 (.tmp 2) rfl w.heap.size 0 rfl h.cells.toList _ (fun w h => h.1) huh rfl (HSHL.out _)) (by assumption) ?_
                (try simp only [Act.put, List.getElem_toArray, List.getElem_cons_zero, List.setIfInBounds_toArray, List.set_cons_zero, List.set_cons_succ])
                refine wpAnyH_take (i := 1) (v := .slice (some ⟨lb, lo, none⟩) m9 c) rfl (by kernel_rfl) (by kernel_rfl) (by kernel_rfl) (fun _ _ _ h => nomatch h.1) (.inl ⟨by kernel_rfl, fun w hw => by clear hw; go_simp⟩) (by assumption) ?_
                (try simp only [Act.put, List.getElem_toArray, List.getElem_cons_succ, List.getElem_cons_zero, List.setIfInBounds_toArray, List.set_cons_zero, List.set_cons_succ])
                refine wpAnyH_take (i := 2) (v := .int .i64 (j : Int)) rfl (by kernel_rfl) (by kernel_rfl) (by kernel_rfl) (fun _ _ _ h => nomatch h.1) (.inl ⟨by kernel_rfl, fun w hw => by clear hw; go_simp⟩) (by assumption) ?_
                (try simp only [Act.put, List.getElem_toArray, List.getElem_cons_succ, List.getElem_cons_zero, List.setIfInBounds_toArray, List.set_cons_zero, List.set_cons_succ])
                refine wpAnyH_take (i := 3) (v := .pointer (some ⟨lb, lo + j * 5, none⟩)) rfl (by kernel_rfl) (by kernel_rfl) (by kernel_rfl) (fun _ _ _ h => nomatch h.1) (.inl ⟨by kernel_rfl, fun w hw => by clear hw; go_simp⟩) (by assumption) ?_
                (try simp only [Act.put, List.getElem_toArray, List.getElem_cons_succ, List.getElem_cons_zero, List.setIfInBounds_toArray, List.set_cons_zero, List.set_cons_succ])
                refine wpAnyH_take (i := 4) (v := .pointer (some ⟨lb, lo + j * 5, none⟩)) rfl (by kernel_rfl) (by kernel_rfl) (by kernel_rfl) (fun _ _ _ h => nomatch h.1) (.inl ⟨by kernel_rfl, fun w hw => by clear hw; go_simp⟩) (by assumption) ?_
                (try simp only [Act.put, List.getElem_toArray, List.getElem_cons_succ, List.getElem_cons_zero, List.setIfInBounds_toArray, List.set_cons_zero, List.set_cons_succ])
                refine wpAnyH_take (i := 5) (v := .pointer (some ⟨lb, lo + j * 5, none⟩)) rfl (by kernel_rfl) (by kernel_rfl) (by kernel_rfl) (fun _ _ _ h => nomatch h.1) (.inl ⟨by kernel_rfl, fun w hw => by clear hw; go_simp⟩) (by assumption) ?_
                (try simp only [Act.put, List.getElem_toArray, List.getElem_cons_succ, List.getElem_cons_zero, List.setIfInBounds_toArray, List.set_cons_zero, List.set_cons_succ])
                refine wpAnyH_take (i := 6) (v := .string qb) rfl (by kernel_rfl) (by kernel_rfl) (by kernel_rfl) (fun _ _ _ h => nomatch h.1) (.inl ⟨by kernel_rfl, fun w h => by have hw := h.2; clear h; go_simp⟩) (by assumption) ?_
                (try simp only [Act.put, List.getElem_toArray, List.getElem_cons_succ, List.getElem_cons_zero, List.setIfInBounds_toArray, List.set_cons_zero, List.set_cons_succ])
                refine wpAnyH_ready (rs := [7, 11]) (by kernel_rfl) (by simp) ?_
                refine AllReadyH.cons rfl (fun K' hK => ?_) (AllReadyH.cons rfl (fun K' hK => ?_) AllReadyH.nil)
                ·
                  go_simp
                  refine (CB.out v1.drew (HTA.out.below (Below.refl v1.heap.size v1).drew)).mono ?_
                  rintro e y1 ⟨rfl, hb1⟩
                  have BY1 := Lib.hid ((Below.refl v1.heap.size v1).drew.trans (hb1.mono (Below.refl v1.heap.size v1).drew.size))
                  refine hK.out _ _ (HST.out _ BY1.out) (fun _ => ?_)
                  clear hK K' hb1
                  (try simp only [Act.put, List.getElem_toArray, List.getElem_cons_succ, List.getElem_cons_zero, List.setIfInBounds_toArray, List.set_cons_zero, List.set_cons_succ])
                  refine wpAnyH_take (i := 8) (v := .tuple #[.agg #[.string yc, .string yz, .int .i64 1, .int .i64 ai, .int .i64 pl, .int .i64 vo, .int .i64 we, .bool false], .bool true]) rfl (by kernel_rfl) (by kernel_rfl) (by kernel_rfl) (fun _ _ _ h => nomatch h.1) (.inl ⟨by kernel_rfl, fun w hw => by clear hw; go_simp⟩) (by assumption) ?_
                  (try simp only [Act.put, List.getElem_toArray, List.getElem_cons_succ, List.getElem_cons_zero, List.setIfInBounds_toArray, List.set_cons_zero, List.set_cons_succ])
                  refine wpAnyH_take (i := 9) (v := .agg #[.string yc, .string yz, .int .i64 1, .int .i64 ai, .int .i64 pl, .int .i64 vo, .int .i64 we, .bool false]) rfl (by kernel_rfl) (by kernel_rfl) (by kernel_rfl) (fun _ _ _ h => nomatch h.1) (.inl ⟨by kernel_rfl, fun w hw => by clear hw; go_simp⟩) (by assumption) ?_
                  (try simp only [Act.put, List.getElem_toArray, List.getElem_cons_succ, List.getElem_cons_zero, List.setIfInBounds_toArray, List.set_cons_zero, List.set_cons_succ])
                  refine wpAnyH_take (i := 10) (v := .bool true) rfl (by kernel_rfl) (by kernel_rfl) (by kernel_rfl) (fun _ _ _ h => nomatch h.1) (.inl ⟨by kernel_rfl, fun w hw => by clear hw; go_simp⟩) (by assumption) ?_
                  (try simp only [Act.put, List.getElem_toArray, List.getElem_cons_succ, List.getElem_cons_zero, List.setIfInBounds_toArray, List.set_cons_zero, List.set_cons_succ])
                  refine wpAnyH_ready (rs := [11]) (by kernel_rfl) (by simp) ?_
                  refine AllReadyH.cons rfl (fun K' hK => ?_) AllReadyH.nil
                  go_simp
                  obtain ⟨y2, hy2⟩ : ∃ W, W = (y1.alloc (.cells #[.string ⟨#[]⟩, .string ⟨#[]⟩, .int .i64 0, .int .i64 0, .int .i64 0, .int .i64 0, .int .i64 0, .bool false] 53)) := ⟨_, rfl⟩
                  obtain ⟨g, hg⟩ : ∃ g, g = y1.heap.size := ⟨_, rfl⟩
                  have HGW : Hid (v1.heap.size ≤ g) := Lib.hid (by rw [hg]; exact BY1.out.size)
                  have hb2 : Below y1.heap.size y1 y2 := by rw [hy2]; exact ((Below.refl _ _).alloc (Nat.le_refl _) _)
                  have BY2 := Lib.hid (BY1.out.trans (hb2.mono BY1.out.size))
                  have HGX : Hid (y2.heap[g]? = some (.cells #[.string ⟨#[]⟩, .string ⟨#[]⟩, .int .i64 0, .int .i64 0, .int .i64 0, .int .i64 0, .int .i64 0, .bool false] 53 (0, 0))) := Lib.hid (by rw [hy2, hg]; exact heap_alloc_new y1 _)
                  rw [← hy2, ← hg]
                  refine hK.out _ _ (HST.out _ BY2.out) (fun _ => ?_)
                  clear hK K' hy2 hb2 hg
                  (try simp only [Act.put, List.getElem_toArray, List.getElem_cons_succ, List.getElem_cons_zero, List.setIfInBounds_toArray, List.set_cons_zero, List.set_cons_succ])
                  refine wpAnyH_ready (rs := [12]) (by kernel_rfl) (by simp) ?_
                  refine AllReadyH.cons rfl (fun K' hK => ?_) AllReadyH.nil
                  rw [if_pos (by kernel_rfl)]
                  refine wp_store_row 53 (.tmp 12) (.tmp 119) rfl g #[.string yc, .string yz, .int .i64 1, .int .i64 ai, .int .i64 pl, .int .i64 vo, .int .i64 we, .bool false] rfl rfl _ _ HGX.out HSBB.out rfl (by simp [Value.oneCell']) ?_
                  obtain ⟨y3, hy3⟩ : ∃ W, W = y2.setRow g #[.string yc, .string yz, .int .i64 1, .int .i64 ai, .int .i64 pl, .int .i64 vo, .int .i64 we, .bool false] := ⟨_, rfl⟩
                  have BY3 : Hid (Below v1.heap.size v1 y3) := Lib.hid (by rw [hy3]; exact setRow_below BY2.out HGW.out _)
                  have HGY : Hid (y3.heap[g]? = some (.cells #[.string yc, .string yz, .int .i64 1, .int .i64 ai, .int .i64 pl, .int .i64 vo, .int .i64 we, .bool false] 53 (0, 0))) := Lib.hid (by rw [hy3]; exact setRow_heap _ _ _ _ _ _ HGX.out)
                  rw [← hy3]
                  have HGX := HGY
                  refine hK.out _ _ (HST.out _ BY3.out) (fun _ => ?_)
                  clear hK K' hy3
                  (try simp only [Act.put, List.getElem_toArray, List.getElem_cons_succ, List.getElem_cons_zero])
                  refine wpAnyH_take (i := 13) (v := .bool true) rfl (by kernel_rfl) (by kernel_rfl) (by kernel_rfl) (fun _ _ _ h => nomatch h.1) (.inl ⟨by kernel_rfl, fun w hw => by clear hw; go_simp⟩) (by assumption) ?_
                  (try simp only [Act.put, List.getElem_toArray, List.getElem_cons_succ, List.getElem_cons_zero, List.setIfInBounds_toArray, List.set_cons_zero, List.set_cons_succ])
                  refine wpAnyH_done (by kernel_rfl) ?_ _
                  exact ⟨rfl, g, rfl, Lib.hid ⟨BY3.out, HGW.out, HGX.out⟩⟩
                ·
                  go_simp
                  obtain ⟨y4, hy4⟩ : ∃ W, W = (v1.alloc (.cells #[.string ⟨#[]⟩, .string ⟨#[]⟩, .int .i64 0, .int .i64 0, .int .i64 0, .int .i64 0, .int .i64 0, .bool false] 53)).drew := ⟨_, rfl⟩
                  obtain ⟨g, hg⟩ : ∃ g, g = v1.heap.size := ⟨_, rfl⟩
                  have HGW : Hid (v1.heap.size ≤ g) := Lib.hid (by rw [hg]; exact Nat.le_refl _)
                  have hb4 : Below v1.heap.size v1 y4 := by rw [hy4]; exact ((Below.refl _ _).alloc (Nat.le_refl _) _).drew
                  have BY4 := Lib.hid (hb4)
                  have HGX : Hid (y4.heap[g]? = some (.cells #[.string ⟨#[]⟩, .string ⟨#[]⟩, .int .i64 0, .int .i64 0, .int .i64 0, .int .i64 0, .int .i64 0, .bool false] 53 (0, 0))) := Lib.hid (by rw [hy4, hg]; exact heap_alloc_new v1 _)
                  rw [← hy4, ← hg]
                  refine hK.out _ _ (HST.out _ BY4.out) (fun _ => ?_)
                  clear hK K' hy4 hb4 hg
                  (try simp only [Act.put, List.getElem_toArray, List.getElem_cons_succ, List.getElem_cons_zero, List.setIfInBounds_toArray, List.set_cons_zero, List.set_cons_succ])
                  refine wpAnyH_ready (rs := [7]) (by kernel_rfl) (by simp) ?_
                  refine AllReadyH.cons rfl (fun K' hK => ?_) AllReadyH.nil
                  go_simp
                  refine (CB.out y4 (HTA.out.below BY4.out)).mono ?_
                  rintro e y5 ⟨rfl, hb5⟩
                  have BY5 := Lib.hid (BY4.out.trans (hb5.mono BY4.out.size))
                  have HGX := Lib.hid ((hb5.block _ (lt_of_block HGX.out)).trans HGX.out)
                  refine hK.out _ _ (HST.out _ BY5.out) (fun _ => ?_)
                  clear hK K' hb5
                  (try simp only [Act.put, List.getElem_toArray, List.getElem_cons_succ, List.getElem_cons_zero, List.setIfInBounds_toArray, List.set_cons_zero, List.set_cons_succ])
                  refine wpAnyH_take (i := 8) (v := .tuple #[.agg #[.string yc, .string yz, .int .i64 1, .int .i64 ai, .int .i64 pl, .int .i64 vo, .int .i64 we, .bool false], .bool true]) rfl (by kernel_rfl) (by kernel_rfl) (by kernel_rfl) (fun _ _ _ h => nomatch h.1) (.inl ⟨by kernel_rfl, fun w hw => by clear hw; go_simp⟩) (by assumption) ?_
                  (try simp only [Act.put, List.getElem_toArray, List.getElem_cons_succ, List.getElem_cons_zero, List.setIfInBounds_toArray, List.set_cons_zero, List.set_cons_succ])
                  refine wpAnyH_take (i := 9) (v := .agg #[.string yc, .string yz, .int .i64 1, .int .i64 ai, .int .i64 pl, .int .i64 vo, .int .i64 we, .bool false]) rfl (by kernel_rfl) (by kernel_rfl) (by kernel_rfl) (fun _ _ _ h => nomatch h.1) (.inl ⟨by kernel_rfl, fun w hw => by clear hw; go_simp⟩) (by assumption) ?_
                  (try simp only [Act.put, List.getElem_toArray, List.getElem_cons_succ, List.getElem_cons_zero, List.setIfInBounds_toArray, List.set_cons_zero, List.set_cons_succ])
                  refine wpAnyH_take (i := 10) (v := .bool true) rfl (by kernel_rfl) (by kernel_rfl) (by kernel_rfl) (fun _ _ _ h => nomatch h.1) (.inl ⟨by kernel_rfl, fun w hw => by clear hw; go_simp⟩) (by assumption) ?_
                  (try simp only [Act.put, List.getElem_toArray, List.getElem_cons_succ, List.getElem_cons_zero, List.setIfInBounds_toArray, List.set_cons_zero, List.set_cons_succ])
                  refine wpAnyH_ready (rs := [12]) (by kernel_rfl) (by simp) ?_
                  refine AllReadyH.cons rfl (fun K' hK => ?_) AllReadyH.nil
                  rw [if_pos (by kernel_rfl)]
                  refine wp_store_row 53 (.tmp 12) (.tmp 119) rfl g #[.string yc, .string yz, .int .i64 1, .int .i64 ai, .int .i64 pl, .int .i64 vo, .int .i64 we, .bool false] rfl rfl _ _ HGX.out HSBB.out rfl (by simp [Value.oneCell']) ?_
                  obtain ⟨y6, hy6⟩ : ∃ W, W = y5.setRow g #[.string yc, .string yz, .int .i64 1, .int .i64 ai, .int .i64 pl, .int .i64 vo, .int .i64 we, .bool false] := ⟨_, rfl⟩
                  have BY6 : Hid (Below v1.heap.size v1 y6) := Lib.hid (by rw [hy6]; exact setRow_below BY5.out HGW.out _)
                  have HGY : Hid (y6.heap[g]? = some (.cells #[.string yc, .string yz, .int .i64 1, .int .i64 ai, .int .i64 pl, .int .i64 vo, .int .i64 we, .bool false] 53 (0, 0))) := Lib.hid (by rw [hy6]; exact setRow_heap _ _ _ _ _ _ HGX.out)
                  rw [← hy6]
                  have HGX := HGY
                  refine hK.out _ _ (HST.out _ BY6.out) (fun _ => ?_)
                  clear hK K' hy6
                  (try simp only [Act.put, List.getElem_toArray, List.getElem_cons_succ, List.getElem_cons_zero])
                  refine wpAnyH_take (i := 13) (v := .bool true) rfl (by kernel_rfl) (by kernel_rfl) (by kernel_rfl) (fun _ _ _ h => nomatch h.1) (.inl ⟨by kernel_rfl, fun w hw => by clear hw; go_simp⟩) (by assumption) ?_
                  (try simp only [Act.put, List.getElem_toArray, List.getElem_cons_succ, List.getElem_cons_zero, List.setIfInBounds_toArray, List.set_cons_zero, List.set_cons_succ])
                  refine wpAnyH_done (by kernel_rfl) ?_ _
                  exact ⟨rfl, g, rfl, Lib.hid ⟨BY6.out, HGW.out, HGX.out⟩⟩
              · intro g2 v2 hR2
                have HVB := Lib.hid (hR2.out.1)
                have HBX := Lib.hid (hR2.out.2.2)
                clear HST hR2
                have HW2 := Lib.hid (HW1.out.trans (HVB.out.mono HW1.out.size))
                have HQX := Lib.hid ((HVB.out.block _ (lt_of_block HVX.out)).trans HVX.out)
                have HX2 := Lib.hid ((HW2.out.block _ (lt_of_block HX3.out)).trans HX3.out)
                have c1 : v2.cell? ⟨lb, lo + j * 5 + 1, none⟩ = some (.string t) := HRJ.out _ HW2.out 1 _ rfl
                have c3 : v2.cell? ⟨lb, lo + j * 5 + 3, none⟩ = some (.int .i64 1) := HRJ.out _ HW2.out 3 _ rfl
                have c4 : v2.cell? ⟨lb, lo + j * 5 + 4, none⟩ = some (.int .i64 tn) := HRJ.out _ HW2.out 4 _ rfl
                have e1 : v2.cell? ⟨w.heap.size + 1, 1, none⟩ = some (.string t) := by rw [cell_of_block HX2.out]; rfl
                have b2 : v2.cell? ⟨g2, 2, none⟩ = some (.int .i64 1) := by rw [cell_of_block HBX.out]; rfl
                have b7 : v2.cell? ⟨g2, 7, none⟩ = some (.bool false) := by rw [cell_of_block HBX.out]; rfl
                have q4 : v2.cell? ⟨g1, 4, none⟩ = some (.int .i64 qq) := by rw [cell_of_block HQX.out]; rfl
                have q5 : v2.cell? ⟨g1, 5, none⟩ = some (.int .i64 qh) := by rw [cell_of_block HQX.out]; rfl
                have hwf : IntKind.i64.wrap (qq - qh) = fr := by rw [IntWalk.i64_in _ (by omega), hfe]
                have d1 : decide (tn < 1) = false := by simpa using ht1
                have d2 : decide (fr < tn) = false := by simpa using htf
                go_wp2_with fail
                go_quiet (fail)
                have HWD := Lib.hid (below_drewN HW2.out nq)
                obtain ⟨wd, hwd⟩ : ∃ W, v2.drewN nq = W := ⟨_, rfl⟩
                rw [hwd] at HWD ⊢
                clear hwd c1 c3 c4 e1 b2 b7 q4 q5 hwf d1 d2 HVG
                go_wp2_with fail
                go_loopw [14] (fun iv wv => ∃ k : Nat, k ≤ j ∧ iv = .int .i64 (k : Int) ∧ Hid (Below w3.heap.size w3 wv)) (fun iv _ => j - (intOf iv).toNat)
                case atStart => exact ⟨0, by omega, rfl, HWD⟩
                case round =>
                  obtain ⟨k, hkj, rfl, hv⟩ := hrel
                  by_cases hlk : k < j
                  · skip
                    have hkP : k < P.length := by omega
                    obtain ⟨k2, t2, hp2⟩ : ∃ k2 t2, P[k] = (k2, t2) := ⟨_, _, rfl⟩
                    have hk2 := (HPM.out _ (List.getElem_mem hkP)).1
                    rw [hp2] at hk2
                    simp only [] at hk2
                    have hne : k2 ≠ kq := fun e => by
                      have h3 : (P.map Prod.fst)[k]'(by rw [List.length_map]; exact hkP) = (P.map Prod.fst)[j]'(by rw [List.length_map]; exact hjl) := by rw [List.getElem_map, List.getElem_map, hp2, hpe]; exact e
                      exact List.pairwise_iff_getElem.1 HNDJ k j (by rw [List.length_map]; exact hkP) (by rw [List.length_map]; exact hjl) hlk h3
                    have hky : (qnOf (qA (L 4) k2)).ky ≠ (qnOf (qA (L 4) kq)).ky := by
                      rcases Nat.lt_or_gt_of_ne hne with h3 | h3
                      · exact HUN.out k2 kq h3 hkl
                      · exact fun e => HUN.out kq k2 h3 hk2 e.symm
                    rw [HXQ.out] at hky
                    obtain ⟨lb2, lo2, hA2, hlb2, hcs2⟩ := HLP.out.thing (things_takes (L 4) P) (by decide) (i := k) (by rw [List.length_map]; exact hkP)
                    have r2 := hcs2 k (by rw [List.length_map]; exact hkP)
                    rw [List.getElem_map, hp2] at r2
                    injection hA2 with hA2
                    injection hA2 with hA21 hA22
                    subst hA21 hA22
                    have hof2 : lo + k * kTake.length = lo + k * 5 := rfl
                    rw [hof2] at r2
                    obtain ⟨y, hy⟩ : ∃ y, qnOf (qA (L 4) k2) = y := ⟨_, rfl⟩
                    have htq2 : takeQ (L 4) (k2, t2) = [.string y.bin, .string y.item, .string y.lot, .int .i64 y.st, .int .i64 t2] := by rw [← hy]; rfl
                    rw [htq2] at r2
                    rw [hy] at hky
                    obtain ⟨yb, yi, yl, ys, yq, yh⟩ := y
                    clear htq2 hy hcs2 hof2
                    have RK : Hid (∀ X : BW wr, X.W.rangeAt lb (lo + k * 5) [.string yb, .string yi, .string yl, .int .i64 ys]) := Lib.hid (fun X i v hv2 => rangeAt_below r2 hlb2 (hv.out.trans (X.h.mono hv.out.size)) i v (by have hi : i < 4 := (List.getElem?_eq_some_iff.1 hv2).1; match i, hi with | 0, _ | 1, _ | 2, _ | 3, _ => exact hv2))
                    have RJ : Hid (∀ X : BW wr, X.W.rangeAt lb (lo + j * 5) [.string qb, .string t, .string ql, .int .i64 1]) := Lib.hid (fun X i v hv2 => HRJ.out X.W (hv.out.trans (X.h.mono hv.out.size)) i v (by have hi : i < 4 := (List.getElem?_eq_some_iff.1 hv2).1; match i, hi with | 0, _ | 1, _ | 2, _ | 3, _ => exact hv2))
                    have heq : ∀ W, (binOp .eql 43 (.agg #[.string yb, .string yi, .string yl, .int .i64 ys]) (.agg #[.string qb, .string t, .string ql, .int .i64 1])).run Try.prog W = .ok (.bool false) W := fun W => by
                      obtain ⟨b, e1, e2⟩ := eql_struct (P := Try.prog) eqKey (by decide) (Qn.mk yb yi yl ys yq yh).ky.cells (Qn.mk qb t ql 1 qq qh).ky.cells W (Ky.fits _) (Ky.fits _)
                      rw [show b = false from by cases b with | false => rfl | true => exact absurd (Ky.cells_inj (e2.1 rfl)) hky] at e1
                      exact e1
                    have h3 : (0 : Int) ≤ (k : Int) := by omega
                    have h4 : (k : Int) < (m9 : Int) := by omega
                    clear r2 hlb2 hky
                    go_wp2_with fail
                    refine wp_grow wr (by kernel_rfl) (by kernel_rfl) (Below.refl _ _) ?_
                    simp only []
                    iterate 4 go_big_quiet_step (fail)
                    refine BigFrame.wpQuiet_want (by kernel_rfl) (fun K hK => quiet_load_mid 43 (.tmp 185) rfl lb (lo + k * 5) rfl [.string yb, .string yi, .string yl, .int .i64 ys] _ (fun W ⟨X, hX⟩ => by rw [hX]; exact RK.out X) hu4 rfl HSK.out (hK _ ?_))
                    simp only [ax]
                    iterate 4 go_big_quiet_step (fail)
                    refine BigFrame.wpQuiet_want (by kernel_rfl) (fun K hK => quiet_load_mid 43 (.tmp 190) rfl lb (lo + j * 5) rfl [.string qb, .string t, .string ql, .int .i64 1] _ (fun W ⟨X, hX⟩ => by rw [hX]; exact RJ.out X) hu4 rfl HSK.out (hK _ ?_))
                    simp only [ax]
                    go_big_quiet_step (fail)
                    refine wpQuiet_nil ?_
                    intro X
                    clear heq RJ RK
                    obtain ⟨wn, hbn⟩ := X
                    simp only []
                    have HV1 := Lib.hid (hv.out.trans (hbn.mono hv.out.size))
                    clear hbn
                    go_wp2_with fail
                    go_roundw
                    case rel => exact ⟨k + 1, by omega, by go_num, HV1⟩
                    case measure => simp [intOf]; omega
                  · skip
                    have c4 : wr.cell? ⟨lb, lo + j * 5 + 4, none⟩ = some (.int .i64 tn) := HRJ.out _ hv.out 4 _ rfl
                    have hwz : IntKind.i64.wrap (z + tn) = z + tn := IntWalk.i64_in _ (by omega)
                    have HZS : Hid (z + tn = ((P.take (j + 1)).map Prod.snd).sum) := Lib.hid (by
                      rw [List.take_succ_eq_append_getElem hjl, List.map_append, List.sum_append, ← hzs.out, hpe]
                      simp)
                    go_wp2_with fail
                    go_roundw
                    case rel => exact ⟨j + 1, z + tn, by omega, by go_num, rfl, by omega, by push_cast; omega, HZS, hv⟩
                    case measure => simp [intOf]; omega
          · skip
            have hje : j = m9 := by omega
            have HZE : Hid (z = min (max na 0) (openZ L s t)) := Lib.hid (by rw [hzs.out, hje, HMP.out, List.take_length]; exact HPS.out)
            have HTW := Lib.hid (HT3.out.below hw.out)
            have BWR := Lib.hid (B3.out.trans (hw.out.mono B3.out.size))
            have HHR : Hid (wr.heap[w.heap.size]? = some (.cells h.cells 37 (0, 0))) := Lib.hid ((hw.out.block _ (lt_of_block HH3.out)).trans HH3.out)
            have HXR := Lib.hid ((hw.out.block _ (lt_of_block HX3.out)).trans HX3.out)
            obtain ⟨zo, hzo⟩ : ∃ z, openZ L s t = z := ⟨_, rfl⟩
            have HZO := Lib.hid hzo
            rw [hzo] at HZE
            clear hzo
            have hze := HZE.out
            clear HZE
            subst hze
            have RHH : Hid (∀ X : BW wr, X.W.heap[w.heap.size]? = some (.cells h.cells 37 (0, 0))) := Lib.hid (fun X => (X.h.block _ (lt_of_block HHR.out)).trans HHR.out)
            have x0 : ∀ X : BW wr, X.W.cell? ⟨w.heap.size + 1, 0, none⟩ = some (.string s) := fun X => by rw [cell_of_block ((X.h.block _ (lt_of_block HXR.out)).trans HXR.out)]; rfl
            have x1 : ∀ X : BW wr, X.W.cell? ⟨w.heap.size + 1, 1, none⟩ = some (.string t) := fun X => by rw [cell_of_block ((X.h.block _ (lt_of_block HXR.out)).trans HXR.out)]; rfl
            have x2 : ∀ X : BW wr, X.W.cell? ⟨w.heap.size + 1, 2, none⟩ = some (.int .i64 na) := fun X => by rw [cell_of_block ((X.h.block _ (lt_of_block HXR.out)).trans HXR.out)]; rfl
            have CA : Hid (∀ X : BW wr, Calls Try.prog 11 #[.agg h.cells, .string s, .string t] X.W fun e w' => e = .returned (.int .i64 zo) ∧ Below X.W.heap.size X.W w') := Lib.hid (fun X => by have := HCO.out.opens h L s t X.W (HTW.out.below X.h) HN.out; rwa [HZO.out] at this)
            go_wp2_with fail
            refine wp_grow wr (by kernel_rfl) (by kernel_rfl) (Below.refl _ _) ?_
            simp only []
            iterate 4 go_big_quiet_step (fail)
            refine BigFrame.wpQuiet_want (by kernel_rfl) (fun K hK => quiet_load_mid 37 (.tmp 2) rfl w.heap.size 0 rfl h.cells.toList _ (fun W ⟨X, hX⟩ => by rw [hX]; exact range_row0 (RHH.out X)) huh rfl (HSHL.out _) (hK _ ?_))
            simp only [Act.put, List.setIfInBounds_toArray, List.set_cons_zero, List.set_cons_succ, Array.toArray_toList]
            iterate 4 go_big_quiet_step (fail)
            go_big_quiet_step (exact grow_call _ (CA.out _))
            iterate 3 go_big_quiet_step (fail)
            go_big_quiet_step (exact grow_call _ (HAW.out _))
            iterate 2 go_big_quiet_step (fail)
            refine wpQuiet_nil ?_
            intro X
            go_wp2_with fail
            go_ret
            exact ⟨rfl, BWR.out.trans (X.h.mono BWR.out.size)⟩

theorem walk {IX : World → Nat → (Nat → Prop) → (Nat → List (List Value)) → Prop} (C : ConsX IX) (h : Hs) (L : Nat → List (List Value)) (cs : List Value) (w : World) (hin : HIn h L w) (fs : Fits kAsk cs) (ms : ∀ u ∈ cs, Mild u) :
    Calls Try.prog 3 #[.agg h.cells, .agg cs.toArray] w fun e w' => e = .returned (.bool true) ∧ Below w.heap.size w w' := by
  obtain ⟨s, t, n, rfl⟩ := ask_cells fs
  exact walk0 C h L s t n w hin (wf_of (ms (.int .i64 n) (by simp)))
end Go.Proofs.Ytnkhnbpopdmkhaa.indexTakes
