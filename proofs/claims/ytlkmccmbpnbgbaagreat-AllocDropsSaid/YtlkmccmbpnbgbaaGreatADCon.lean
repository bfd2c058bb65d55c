/-
 CONTRACTS of AllocDrops' own words: are the quants plain, are the claims? (By wip/tools/gen_adcon.py.)
-/
import Derived.Test.YtlkmccmbpnbgbaaGreatADPl
import Derived.Test.YtlkmccmbpnbgbaaGreatKSum
import Derived.Test.YtlkmccmbpnbgbaaGreatWRefA
import Derived.Test.YtlkmccmbpnbgbaaGreatHA
import Derived.Deep.CutRange
import Derived.BigQuiet
namespace Go.Proofs.YtlkmccmbpnbgbaaGreat
set_option linter.unusedVariables false
open Go.RowKit
open Pl (firstG firstG_none firstG_some findG overG putG dropG It)

/-- What a test of a house answers: if it says yes, P. -/
def AnsP (P : Prop) (w : World) (e : Ending) (w' : World) : Prop := Below w.heap.size w w' ∧ ∃ b : Bool, e = .returned (.bool b) ∧ (b = true → P)
/-- The quants ahead of a place are plain, and unlike in their names. -/
def PlainD (LQ : List (List Value)) (k : Nat) : Prop := ∀ j, j < k → (0 ≤ (qnOf (qA LQ j)).held ∧ (qnOf (qA LQ j)).held ≤ (qnOf (qA LQ j)).qty ∧ 1 ≤ (qnOf (qA LQ j)).qty ∧ (qnOf (qA LQ j)).qty ≤ 1000000000) ∧ ∀ i, i < j → (qnOf (qA LQ i)).ky ≠ (qnOf (qA LQ j)).ky
theorem plainD_zero (LQ : List (List Value)) : PlainD LQ 0 := fun j hj => absurd hj (Nat.not_lt_zero j)
theorem PlainD.done {LQ : List (List Value)} (hT : Things kQuant LQ) (h : PlainD LQ LQ.length) : PlainQ LQ := ⟨hT, fun e he => by
 obtain ⟨i, hi, rfl⟩ := List.getElem_of_mem he
 have := (h i hi).1
 rwa [qA_at _ i hi] at this, fun i j hi hj hij => by
 rw [← qA_at LQ i hi, ← qA_at LQ j hj] at hij
 rcases Nat.lt_trichotomy i j with h1 | h1 | h1
 · exact absurd hij ((h j hj).2 i h1)
 · exact h1
 · exact absurd hij.symm ((h i hi).2 j h1)⟩
set_option maxRecDepth 100000 in
set_option maxHeartbeats 3200000 in
theorem cclaims (h : Hs) (L : Nat → List (List Value)) (w : World) (hh : HT h L w) :
 Calls Tryz.prog 24 #[.agg h.cells] w (AnsP (True) w) := by
 have HHT := Lib.hid hh
 have hn9 := (hh 8 (by decide)).2.1
 have HTT := Lib.hid (hh 8 (by decide)).2.2.1
 obtain ⟨m, hmm⟩ : ∃ m, h.n 8 = m := ⟨_, rfl⟩
 have HNM : Hid (m = (L 8).length) := Lib.hid (by rw [← hmm]; exact (hh 8 (by decide)).1)
 rw [hmm] at hn9
 have HMM := Lib.hid hmm
 clear hmm
 obtain ⟨W0, hW0⟩ : ∃ W0, W0 = (w.alloc (.cells h.cells 37)) := ⟨_, rfl⟩
 have hb0 : Below w.heap.size w W0 := by rw [hW0]; exact (Below.refl _ _).alloc (Nat.le_refl _) _
 have hs0 : W0.heap.size = w.heap.size + 1 := by rw [hW0]; simp
 have HH : Hid (∀ W, Below W0.heap.size W0 W → W.heap[w.heap.size]? = some (.cells h.cells 37 (0, 0))) := Lib.hid (fun W hW => (hW.block _ (by omega)).trans (by
  rw [hW0]
  have hq := heap_alloc_new w (.cells h.cells 37)
  exact (by simpa using hq)))
 have HBW : Hid (∀ W, Below W0.heap.size W0 W → Below w.heap.size w W ∧ w.heap.size + 1 ≤ W.heap.size) := Lib.hid (fun W hW => ⟨hb0.trans (hW.mono (by omega)), by have := hW.size; omega⟩)
 have HLC : Hid (∀ W, Below W0.heap.size W0 W → W.cell? ⟨w.heap.size, 8, none⟩ = some (.slice (h.A 8) m (h.c 8)) ∧ w.heap.size < W.heap.size) := Lib.hid (fun W hW => ⟨by rw [cell_of_block (HH.out W hW), ← HMM.out]; rfl, by have := hW.size; omega⟩)
 have H0 := Lib.hid (Below.refl W0.heap.size W0)
 clear hb0 hs0 hh
 subst hW0
 go_enter Tryz.func24, Tryz.ntmps24
 go_wp2_with fail
 go_loopw [3] (fun i wr => ∃ k : Nat, k ≤ m ∧ i = .int .i64 (k : Int) ∧ Hid (Below (w.alloc (.cells h.cells 37)).heap.size (w.alloc (.cells h.cells 37)) wr)) (fun i _ => m - (intOf i).toNat)
 case atStart => exact ⟨0, by omega, rfl, H0⟩
 case round =>
  obtain ⟨k, hk, rfl, hw⟩ := hrel
  obtain ⟨d8, dlt⟩ := HLC.out _ hw.out
  by_cases hlt : k < m
  · have hkl : k < (L 8).length := by rw [← HNM.out]; exact hlt
    have HTR : HT h L wr := HHT.out.below (HBW.out _ hw.out).1
    obtain ⟨b, off, hA, hb, r1⟩ := claim_at HTR hkl
    obtain ⟨q, hq⟩ : ∃ q, clOf (L 8)[k] = q := ⟨_, rfl⟩
    rw [hq] at r1
    obtain ⟨yo, yn, yb, yi, yl, ys, yq, yt⟩ := q
    unfold Cl.cells at r1
    have z6 : wr.cell? ⟨b, off + k * 8 + 6, none⟩ = some (.int .i64 yq) := r1 6 _ rfl
    rw [hA] at d8
    have h1 : (0 : Int) ≤ (k : Int) := by omega
    have h2 : (k : Int) < (m : Int) := by omega
    clear r1 hq hkl HTR hA hb
    have hc : yq < 1 ∨ (¬ yq < 1 ∧ 1000000000 < yq) ∨ (¬ yq < 1 ∧ ¬ 1000000000 < yq) := by omega
    rcases hc with c | ⟨c, c'⟩ | ⟨c, c'⟩
    · have e1 : decide (yq < 1) = true := by simpa using c
      go_wp2_with fail
      go_ret
      exact ⟨(HBW.out _ hw.out).1, false, rfl, fun h => nomatch h⟩
    · have e1 : decide (yq < 1) = false := by simpa using c
      have e2 : decide (1000000000 < yq) = true := by simpa using c'
      go_wp2_with fail
      go_ret
      exact ⟨(HBW.out _ hw.out).1, false, rfl, fun h => nomatch h⟩
    · have e1 : decide (yq < 1) = false := by simpa using c
      have e2 : decide (1000000000 < yq) = false := by simpa using c'
      go_wp2_with fail
      go_roundw
      case rel => exact ⟨k + 1, by omega, by go_num, hw⟩
      case measure => simp [intOf]; omega
  · go_wp2_with fail
    go_ret
    exact ⟨(HBW.out _ hw.out).1, true, rfl, fun _ => trivial⟩
set_option maxRecDepth 100000 in
set_option maxHeartbeats 3200000 in
theorem cplain (h : Hs) (L : Nat → List (List Value)) (w : World) (hh : HT h L w) :
 Calls Tryz.prog 23 #[.agg h.cells] w (AnsP (PlainQ (L 4)) w) := by
 have HHT := Lib.hid hh
 have hn9 := (hh 4 (by decide)).2.1
 have HTT := Lib.hid (hh 4 (by decide)).2.2.1
 obtain ⟨m, hmm⟩ : ∃ m, h.n 4 = m := ⟨_, rfl⟩
 have HNM : Hid (m = (L 4).length) := Lib.hid (by rw [← hmm]; exact (hh 4 (by decide)).1)
 rw [hmm] at hn9
 have HMM := Lib.hid hmm
 clear hmm
 obtain ⟨W0, hW0⟩ : ∃ W0, W0 = (w.alloc (.cells h.cells 37)) := ⟨_, rfl⟩
 have hb0 : Below w.heap.size w W0 := by rw [hW0]; exact (Below.refl _ _).alloc (Nat.le_refl _) _
 have hs0 : W0.heap.size = w.heap.size + 1 := by rw [hW0]; simp
 have HH : Hid (∀ W, Below W0.heap.size W0 W → W.heap[w.heap.size]? = some (.cells h.cells 37 (0, 0))) := Lib.hid (fun W hW => (hW.block _ (by omega)).trans (by
  rw [hW0]
  have hq := heap_alloc_new w (.cells h.cells 37)
  exact (by simpa using hq)))
 have HBW : Hid (∀ W, Below W0.heap.size W0 W → Below w.heap.size w W ∧ w.heap.size + 1 ≤ W.heap.size) := Lib.hid (fun W hW => ⟨hb0.trans (hW.mono (by omega)), by have := hW.size; omega⟩)
 have HLC : Hid (∀ W, Below W0.heap.size W0 W → W.cell? ⟨w.heap.size, 4, none⟩ = some (.slice (h.A 4) m (h.c 4)) ∧ w.heap.size < W.heap.size) := Lib.hid (fun W hW => ⟨by rw [cell_of_block (HH.out W hW), ← HMM.out]; rfl, by have := hW.size; omega⟩)
 have H0 := Lib.hid (Below.refl W0.heap.size W0)
 have huq := Tryz.underlying62
 have HSQ6 : Hid ((Tryz.prog.info? 62).map (·.size) = some 6) := Lib.hid (by kernel_rfl)
 have hu4 := Tryz.underlying44
 have HSK : Hid ((Tryz.prog.info? 44).map (·.size) = some 4) := Lib.hid (by kernel_rfl)
 clear hb0 hs0 hh
 subst hW0
 go_enter Tryz.func23, Tryz.ntmps23
 go_wp2_with fail
 go_loopw [3] (fun i wr => ∃ k : Nat, k ≤ m ∧ i = .int .i64 (k : Int) ∧ Hid (Below (w.alloc (.cells h.cells 37)).heap.size (w.alloc (.cells h.cells 37)) wr) ∧ Hid (PlainD (L 4) k)) (fun i _ => m - (intOf i).toNat)
 case atStart => exact ⟨0, by omega, rfl, H0, Lib.hid (plainD_zero _)⟩
 case round =>
  obtain ⟨k, hk, rfl, hw, hpk⟩ := hrel
  obtain ⟨d8, dlt⟩ := HLC.out _ hw.out
  by_cases hlt : k < m
  · have hkl : k < (L 4).length := by rw [← HNM.out]; exact hlt
    have HTR : HT h L wr := HHT.out.below (HBW.out _ hw.out).1
    obtain ⟨b, off, hA, hb, r1⟩ := quant_atW HTR hkl
    obtain ⟨x, hx⟩ : ∃ x, qnOf (qA (L 4) k) = x := ⟨_, rfl⟩
    have HXQ := Lib.hid hx
    rw [hx] at r1
    obtain ⟨qb, qi, ql, qs, qq, qh⟩ := x
    unfold Qn.cells at r1
    have HRE : Hid (wr.rangeAt b (off + k * 6) [.string qb, .string qi, .string ql, .int .i64 qs, .int .i64 qq, .int .i64 qh]) := Lib.hid r1
    obtain ⟨wq, hwq⟩ : ∃ W, W = wr.alloc (.cells #[.string qb, .string qi, .string ql, .int .i64 qs, .int .i64 qq, .int .i64 qh] 62) := ⟨_, rfl⟩
    have HB1 : Hid (Below (w.alloc (.cells h.cells 37)).heap.size (w.alloc (.cells h.cells 37)) wq) := Lib.hid (by rw [hwq]; exact hw.out.alloc hw.out.size _)
    have HBX : Hid (wq.heap[wr.heap.size]? = some (.cells #[.string qb, .string qi, .string ql, .int .i64 qs, .int .i64 qq, .int .i64 qh] 62 (0, 0))) := Lib.hid (by rw [hwq]; exact heap_alloc_new _ _)
    have HWQ := Lib.hid hwq
    have HAB := Lib.hid hA
    rw [hA] at d8
    have h1 : (0 : Int) ≤ (k : Int) := by omega
    have h2 : (k : Int) < (m : Int) := by omega
    clear r1 hx HTR hA hb hwq
    have hc : qh < 0 ∨ (¬ qh < 0 ∧ qq < qh) ∨ (¬ qh < 0 ∧ ¬ qq < qh ∧ qq < 1) ∨ (¬ qh < 0 ∧ ¬ qq < qh ∧ ¬ qq < 1 ∧ 1000000000 < qq) ∨ (¬ qh < 0 ∧ ¬ qq < qh ∧ ¬ qq < 1 ∧ ¬ 1000000000 < qq) := by omega
    rcases hc with c1 | ⟨c1, c2⟩ | ⟨c1, c2, c3⟩ | ⟨c1, c2, c3, c4⟩ | ⟨c1, c2, c3, c4⟩
    · have e1 : decide (qh < 0) = true := by simpa using c1
      go_wp2_with (first
       | (refine wpList_load_mid rfl 62 (.tmp 16) rfl b (off + k * 6) rfl [.string qb, .string qi, .string ql, .int .i64 qs, .int .i64 qq, .int .i64 qh] _ HRE.out huq rfl HSQ6.out ?_)
       | fail)
      go_ret
      rw [← HWQ.out]
      exact ⟨(HBW.out _ HB1.out).1, false, rfl, fun h => nomatch h⟩
    · have e1 : decide (qh < 0) = false := by simpa using c1
      have e2 : decide (qq < qh) = true := by simpa using c2
      go_wp2_with (first
       | (refine wpList_load_mid rfl 62 (.tmp 16) rfl b (off + k * 6) rfl [.string qb, .string qi, .string ql, .int .i64 qs, .int .i64 qq, .int .i64 qh] _ HRE.out huq rfl HSQ6.out ?_)
       | fail)
      go_ret
      rw [← HWQ.out]
      exact ⟨(HBW.out _ HB1.out).1, false, rfl, fun h => nomatch h⟩
    · have e1 : decide (qh < 0) = false := by simpa using c1
      have e2 : decide (qq < qh) = false := by simpa using c2
      have e3 : decide (qq < 1) = true := by simpa using c3
      go_wp2_with (first
       | (refine wpList_load_mid rfl 62 (.tmp 16) rfl b (off + k * 6) rfl [.string qb, .string qi, .string ql, .int .i64 qs, .int .i64 qq, .int .i64 qh] _ HRE.out huq rfl HSQ6.out ?_)
       | fail)
      go_ret
      rw [← HWQ.out]
      exact ⟨(HBW.out _ HB1.out).1, false, rfl, fun h => nomatch h⟩
    · have e1 : decide (qh < 0) = false := by simpa using c1
      have e2 : decide (qq < qh) = false := by simpa using c2
      have e3 : decide (qq < 1) = false := by simpa using c3
      have e4 : decide (1000000000 < qq) = true := by simpa using c4
      go_wp2_with (first
       | (refine wpList_load_mid rfl 62 (.tmp 16) rfl b (off + k * 6) rfl [.string qb, .string qi, .string ql, .int .i64 qs, .int .i64 qq, .int .i64 qh] _ HRE.out huq rfl HSQ6.out ?_)
       | fail)
      go_ret
      rw [← HWQ.out]
      exact ⟨(HBW.out _ HB1.out).1, false, rfl, fun h => nomatch h⟩
    · have HC : Hid (0 ≤ qh ∧ qh ≤ qq ∧ 1 ≤ qq ∧ qq ≤ 1000000000) := Lib.hid (by omega)
      have e1 : decide (qh < 0) = false := by simpa using c1
      have e2 : decide (qq < qh) = false := by simpa using c2
      have e3 : decide (qq < 1) = false := by simpa using c3
      have e4 : decide (1000000000 < qq) = false := by simpa using c4
      go_wp2_with (first
       | (refine wpList_load_mid rfl 62 (.tmp 16) rfl b (off + k * 6) rfl [.string qb, .string qi, .string ql, .int .i64 qs, .int .i64 qq, .int .i64 qh] _ HRE.out huq rfl HSQ6.out ?_)
       | fail)
      rw [← HWQ.out]
      clear e1 e2 e3 e4 c1 c2 c3 c4 d8 dlt
      obtain ⟨gq, hgq⟩ : ∃ g, g = wr.heap.size := ⟨_, rfl⟩
      have HGW : Hid (w.heap.size + 1 ≤ gq) := Lib.hid (by rw [hgq]; exact (HBW.out _ hw.out).2)
      rw [← hgq] at HBX ⊢
      clear hgq HWQ HRE
      go_loopw [5] (fun i wv => ∃ j : Nat, j ≤ k ∧ i = .int .i64 (j : Int) ∧ Hid (Below wq.heap.size wq wv) ∧ Hid (∀ i, i < j → (qnOf (qA (L 4) i)).ky ≠ (qnOf (qA (L 4) k)).ky)) (fun i _ => k - (intOf i).toNat)
      case atStart => exact ⟨0, by omega, rfl, Lib.hid (Below.refl _ _), Lib.hid (fun i hi => absurd hi (Nat.not_lt_zero i))⟩
      case round =>
       obtain ⟨j, hj, rfl, hv, hun⟩ := hrel
       have HV0 : Hid (Below (w.alloc (.cells h.cells 37)).heap.size (w.alloc (.cells h.cells 37)) wr) := Lib.hid (HB1.out.trans (hv.out.mono HB1.out.size))
       by_cases hjk : j < k
       · have hjl : j < (L 4).length := by omega
         have HTV : HT h L wr := HHT.out.below (HBW.out _ HV0.out).1
         obtain ⟨b2, off2, hA2, hb2, r2⟩ := quant_atW HTV hjl
         have e2 := hA2.symm.trans HAB.out
         injection e2 with e2
         injection e2 with e21 e22
         rw [e21, e22] at r2
         rw [e21] at hb2
         clear e21 e22
         obtain ⟨y, hy⟩ : ∃ y, qnOf (qA (L 4) j) = y := ⟨_, rfl⟩
         have HYQ := Lib.hid hy
         rw [hy] at r2
         obtain ⟨yb, yi, yl, ys, yq, yh⟩ := y
         have RJ : Hid (∀ X : BW wr, X.W.rangeAt b (off + j * 6) [.string yb, .string yi, .string yl, .int .i64 ys]) := Lib.hid (fun X i v hv => rangeAt_below r2 hb2 X.h i v (by unfold Qn.cells; have hi : i < 4 := (List.getElem?_eq_some_iff.1 hv).1; match i, hi with | 0, _ | 1, _ | 2, _ | 3, _ => exact hv))
         have RK : Hid (∀ X : BW wr, X.W.rangeAt gq 0 [.string qb, .string qi, .string ql, .int .i64 qs]) := Lib.hid (fun X i v hi2 => range_row0 (((hv.out.trans (X.h.mono hv.out.size)).block _ (lt_of_block HBX.out)).trans HBX.out) i v (by have hv := hi2; have hi : i < 4 := (List.getElem?_eq_some_iff.1 hv).1; match i, hi with | 0, _ | 1, _ | 2, _ | 3, _ => exact hv))
         have x4 : ∀ X : BW wr, X.W.cell? ⟨w.heap.size, 4, none⟩ = some (.slice (some ⟨b, off, none⟩) m (h.c 4)) := fun X => by have := (HLC.out _ (HV0.out.trans (X.h.mono HV0.out.size))).1; rwa [HAB.out] at this
         have h3 : (0 : Int) ≤ (j : Int) := by omega
         have h4 : (j : Int) < (m : Int) := by omega
         clear hy r2 hA2 hb2 HTV
         by_cases hky : (Qn.mk yb yi yl ys yq yh).ky = (Qn.mk qb qi ql qs qq qh).ky
         · skip
           have heq : ∀ W, (binOp .eql 44 (.agg #[.string yb, .string yi, .string yl, .int .i64 ys]) (.agg #[.string qb, .string qi, .string ql, .int .i64 qs])).run Tryz.prog W = .ok (.bool true) W := fun W => by
             obtain ⟨b, e1, e2⟩ := eql_struct (P := Tryz.prog) eqKey (by decide) (Qn.mk yb yi yl ys yq yh).ky.cells (Qn.mk qb qi ql qs qq qh).ky.cells W (Ky.fits _) (Ky.fits _)
             rw [show b = true from e2.2 (by rw [hky])] at e1
             exact e1
           go_wp2_with fail
           refine wp_grow wr (by kernel_rfl) (by kernel_rfl) (Below.refl _ _) ?_
           simp only []
           iterate 5 go_big_quiet_step (fail)
           refine BigFrame.wpQuiet_want (by kernel_rfl) (fun K hK => quiet_load_mid 44 (.tmp 47) rfl b (off + j * 6) rfl [.string yb, .string yi, .string yl, .int .i64 ys] _ (fun W ⟨X, hX⟩ => by rw [hX]; exact RJ.out X) hu4 rfl HSK.out (hK _ ?_))
           simp only [ax]
           go_big_quiet_step (fail)
           refine BigFrame.wpQuiet_want (by kernel_rfl) (fun K hK => quiet_load_mid 44 (.tmp 49) rfl gq 0 rfl [.string qb, .string qi, .string ql, .int .i64 qs] _ (fun W ⟨X, hX⟩ => by rw [hX]; exact RK.out X) hu4 rfl HSK.out (hK _ ?_))
           simp only [ax]
           go_big_quiet_step (fail)
           refine wpQuiet_nil ?_
           intro X
           clear x4 heq RJ RK
           obtain ⟨wn, hb1⟩ := X
           simp only []
           have HV1 := Lib.hid (hv.out.trans (hb1.mono hv.out.size))
           have HV2 := Lib.hid (HV0.out.trans (hb1.mono HV0.out.size))
           clear hb1
           go_wp2_with fail
           go_ret
           exact ⟨(HBW.out _ HV2.out).1, false, rfl, fun h => nomatch h⟩
         · skip
           have heq : ∀ W, (binOp .eql 44 (.agg #[.string yb, .string yi, .string yl, .int .i64 ys]) (.agg #[.string qb, .string qi, .string ql, .int .i64 qs])).run Tryz.prog W = .ok (.bool false) W := fun W => by
             obtain ⟨b, e1, e2⟩ := eql_struct (P := Tryz.prog) eqKey (by decide) (Qn.mk yb yi yl ys yq yh).ky.cells (Qn.mk qb qi ql qs qq qh).ky.cells W (Ky.fits _) (Ky.fits _)
             rw [show b = false from by cases b with | false => rfl | true => exact absurd (Ky.cells_inj (e2.1 rfl)) hky] at e1
             exact e1
           have HUN : Hid (∀ i, i < j + 1 → (qnOf (qA (L 4) i)).ky ≠ (qnOf (qA (L 4) k)).ky) := Lib.hid (fun i hi => by
             by_cases e : i = j
             · subst e; rw [HYQ.out, HXQ.out]; exact hky
             · exact hun.out i (by omega))
           go_wp2_with fail
           refine wp_grow wr (by kernel_rfl) (by kernel_rfl) (Below.refl _ _) ?_
           simp only []
           iterate 5 go_big_quiet_step (fail)
           refine BigFrame.wpQuiet_want (by kernel_rfl) (fun K hK => quiet_load_mid 44 (.tmp 47) rfl b (off + j * 6) rfl [.string yb, .string yi, .string yl, .int .i64 ys] _ (fun W ⟨X, hX⟩ => by rw [hX]; exact RJ.out X) hu4 rfl HSK.out (hK _ ?_))
           simp only [ax]
           go_big_quiet_step (fail)
           refine BigFrame.wpQuiet_want (by kernel_rfl) (fun K hK => quiet_load_mid 44 (.tmp 49) rfl gq 0 rfl [.string qb, .string qi, .string ql, .int .i64 qs] _ (fun W ⟨X, hX⟩ => by rw [hX]; exact RK.out X) hu4 rfl HSK.out (hK _ ?_))
           simp only [ax]
           go_big_quiet_step (fail)
           refine wpQuiet_nil ?_
           intro X
           clear x4 heq RJ RK
           obtain ⟨wn, hb1⟩ := X
           simp only []
           have HV1 := Lib.hid (hv.out.trans (hb1.mono hv.out.size))
           have HV2 := Lib.hid (HV0.out.trans (hb1.mono HV0.out.size))
           clear hb1
           go_wp2_with fail
           go_roundw
           case rel => exact ⟨j + 1, by omega, by go_num, HV1, HUN⟩
           case measure => simp [intOf]; omega
       · have HPK : Hid (PlainD (L 4) (k + 1)) := Lib.hid (fun i hi => by
          by_cases e : i = k
          · subst e
            refine ⟨?_, fun i' hi' => hun.out i' (by omega)⟩
            rw [HXQ.out]
            exact HC.out
          · exact hpk.out i (by omega))
         go_wp2_with fail
         go_roundw
         case rel => exact ⟨k + 1, by omega, by go_num, HV0, HPK⟩
         case measure => simp [intOf]; omega
  · have HE : Hid (PlainQ (L 4)) := Lib.hid (PlainD.done HTT.out (by have := hpk.out; rwa [show k = (L 4).length from by rw [← HNM.out]; omega] at this))
    go_wp2_with fail
    go_ret
    exact ⟨(HBW.out _ hw.out).1, true, rfl, fun _ => HE.out⟩
end Go.Proofs.YtlkmccmbpnbgbaaGreat
