/-
  CONTRACTS of the rows' FindQuant, Quant. (By wip/tools/port16.py.)
  CONTRACT of the reference's Hold. (By wip/tools/gen_aref.py.)
  (By wip/tools/merge.py.)
-/
import Derived.Test.YtlkmccmbpnbgbaaGreatQOrd
import Derived.Test.YtlkmccmbpnbgbaaGreatOPl
import Derived.Test.YtlkmccmbpnbgbaaGreatGRQ
import Derived.Test.YtlkmccmbpnbgbaaGreatGT
import Derived.Test.YtlkmccmbpnbgbaaGreatHKept
import Derived.Deep.CutRange
import Derived.BigQuiet
namespace Go.Proofs.YtlkmccmbpnbgbaaGreat
set_option linter.unusedVariables false
open Go.RowKit
open Pl (firstG firstG_none firstG_some findG overG putG dropG It)

set_option maxRecDepth 100000 in
set_option maxHeartbeats 3200000 in
theorem rfindq (h : Hs) (L : List (List Value)) (kb ki kl : ByteArray) (ks : Int) (w : World) (hn : h.n 4 = L.length) (hn6 : h.n 4 ≤ 1000000) (hL : Things kQuant L) (hr : Rd w w.heap.size (h.A 4) L.flatten) :
 Calls Tryz.prog 105 #[.agg h.cells, .agg #[.string kb, .string ki, .string kl, .int .i64 ks]] w fun e w' => e = .returned (.tuple #[.agg (gotQ L (Ky.mk kb ki kl ks)).toArray, .bool (atQ L (Ky.mk kb ki kl ks)).isSome]) ∧ Below w.heap.size w w' := by
 have HLL := Lib.hid hL
 have HRR := Lib.hid hr
 obtain ⟨m, hmm⟩ : ∃ m, h.n 4 = m := ⟨_, rfl⟩
 rw [hmm] at hn hn6
 have HNM := Lib.hid hn
 have HMM := Lib.hid hmm
 have HS4 : Hid ((Tryz.prog.info? 44).map (·.size) = some 4) := Lib.hid (by kernel_rfl)
 have HS6 : Hid (∀ y, Fits kQuant y → (Tryz.prog.info? 62).map (·.size) = some y.toArray.size) := Lib.hid (fun y hy => by rw [show (Tryz.prog.info? 62).map (·.size) = some 6 from by kernel_rfl, List.size_toArray, hy.length]; rfl)
 have HAT : Hid (atQ L (Ky.mk kb ki kl ks) = firstG (isKy (Ky.mk kb ki kl ks)) L) := Lib.hid rfl
 clear hmm hL hr
 obtain ⟨W0, hW0⟩ : ∃ W0, W0 = (((w.alloc (.cells h.cells 37)).alloc (.cells #[.string kb, .string ki, .string kl, .int .i64 ks] 44)).alloc (.cells #[.string ⟨#[]⟩, .string ⟨#[]⟩, .string ⟨#[]⟩, .int .i64 0, .int .i64 0, .int .i64 0] 62)) := ⟨_, rfl⟩
 have hb0 : Below w.heap.size w W0 := by rw [hW0]; exact (((Below.refl _ _).alloc (Nat.le_refl _) _).alloc (by simp <;> omega) _).alloc (by simp <;> omega) _
 have hs0 : W0.heap.size = w.heap.size + 3 := by rw [hW0]; simp
 have HH : Hid (∀ W, Below W0.heap.size W0 W → W.heap[w.heap.size]? = some (.cells h.cells 37 (0, 0))) := Lib.hid (fun W hW => (hW.block _ (by omega)).trans (by
  rw [hW0]
  have hq := heap_alloc_new w (.cells h.cells 37)
  exact (Below.heap_alloc _ _ _ (by simp <;> omega)).trans ((Below.heap_alloc _ _ _ (by simp <;> omega)).trans ((by simpa using hq)))))
 have HK : Hid (∀ W, Below W0.heap.size W0 W → W.heap[w.heap.size + 1]? = some (.cells #[.string kb, .string ki, .string kl, .int .i64 ks] 44 (0, 0))) := Lib.hid (fun W hW => (hW.block _ (by omega)).trans (by
  rw [hW0]
  have hq := heap_alloc_new (w.alloc (.cells h.cells 37)) (.cells #[.string kb, .string ki, .string kl, .int .i64 ks] 44)
  exact (Below.heap_alloc _ _ _ (by simp <;> omega)).trans ((by simpa using hq))))
 have HR : Hid (∀ W, Below W0.heap.size W0 W → W.heap[w.heap.size + 2]? = some (.cells #[.string ⟨#[]⟩, .string ⟨#[]⟩, .string ⟨#[]⟩, .int .i64 0, .int .i64 0, .int .i64 0] 62 (0, 0))) := Lib.hid (fun W hW => (hW.block _ (by omega)).trans (by
  rw [hW0]
  have hq := heap_alloc_new ((w.alloc (.cells h.cells 37)).alloc (.cells #[.string kb, .string ki, .string kl, .int .i64 ks] 44)) (.cells #[.string ⟨#[]⟩, .string ⟨#[]⟩, .string ⟨#[]⟩, .int .i64 0, .int .i64 0, .int .i64 0] 62)
  exact (by simpa using hq)))
 have HBW : Hid (∀ W, Below W0.heap.size W0 W → Below w.heap.size w W ∧ w.heap.size + 3 ≤ W.heap.size) := Lib.hid (fun W hW => ⟨hb0.trans (hW.mono (by omega)), by have := hW.size; omega⟩)
 have huh := Tryz.underlying37
 have HSH : Hid (∀ a : Hs, (Tryz.prog.info? 37).map (·.size) = some a.cells.size) := Lib.hid (fun a => by kernel_rfl)
 have huHK := Tryz.underlying44
 have HSHK : Hid ((Tryz.prog.info? 44).map (·.size) = some 4) := Lib.hid (by kernel_rfl)
 have HCHK : Hid (∀ W, Below W0.heap.size W0 W → W.cell? ⟨w.heap.size + 1, 0, none⟩ = some (.string kb) ∧ W.cell? ⟨w.heap.size + 1, 1, none⟩ = some (.string ki) ∧ W.cell? ⟨w.heap.size + 1, 2, none⟩ = some (.string kl) ∧ W.cell? ⟨w.heap.size + 1, 3, none⟩ = some (.int .i64 ks) ∧ w.heap.size + 1 < W.heap.size) := Lib.hid (fun W hW => ⟨by rw [cell_of_block (HK.out W hW)]; rfl, by rw [cell_of_block (HK.out W hW)]; rfl, by rw [cell_of_block (HK.out W hW)]; rfl, by rw [cell_of_block (HK.out W hW)]; rfl, by have := hW.size; omega⟩)
 have huHR := Tryz.underlying62
 have HSHR : Hid ((Tryz.prog.info? 62).map (·.size) = some 6) := Lib.hid (by kernel_rfl)
 have HCHR : Hid (∀ W, Below W0.heap.size W0 W → W.cell? ⟨w.heap.size + 2, 0, none⟩ = some (.string ⟨#[]⟩) ∧ W.cell? ⟨w.heap.size + 2, 1, none⟩ = some (.string ⟨#[]⟩) ∧ W.cell? ⟨w.heap.size + 2, 2, none⟩ = some (.string ⟨#[]⟩) ∧ W.cell? ⟨w.heap.size + 2, 3, none⟩ = some (.int .i64 0) ∧ W.cell? ⟨w.heap.size + 2, 4, none⟩ = some (.int .i64 0) ∧ W.cell? ⟨w.heap.size + 2, 5, none⟩ = some (.int .i64 0) ∧ w.heap.size + 2 < W.heap.size) := Lib.hid (fun W hW => ⟨by rw [cell_of_block (HR.out W hW)]; rfl, by rw [cell_of_block (HR.out W hW)]; rfl, by rw [cell_of_block (HR.out W hW)]; rfl, by rw [cell_of_block (HR.out W hW)]; rfl, by rw [cell_of_block (HR.out W hW)]; rfl, by rw [cell_of_block (HR.out W hW)]; rfl, by have := hW.size; omega⟩)
 have HL4 : Hid (∀ W, Below W0.heap.size W0 W → W.cell? ⟨w.heap.size, 4, none⟩ = some (.slice (h.A 4) m (h.c 4)) ∧ w.heap.size < W.heap.size) := Lib.hid (fun W hW => ⟨by rw [cell_of_block (HH.out W hW), ← HMM.out]; rfl, by have := hW.size; omega⟩)
 have H0 := Lib.hid (Below.refl W0.heap.size W0)
 clear hb0 hs0 hn
 subst hW0
 go_enter Tryz.func105, Tryz.ntmps105
 go_wp2_with fail
 go_loopw [6] (fun i wr => ∃ q : Nat, q ≤ m ∧ i = .int .i64 (q : Int) ∧ Hid (∀ j (hj : j < L.length), j < q → isKy (Ky.mk kb ki kl ks) L[j] = false) ∧ Hid (Below (((w.alloc (.cells h.cells 37)).alloc (.cells #[.string kb, .string ki, .string kl, .int .i64 ks] 44)).alloc (.cells #[.string ⟨#[]⟩, .string ⟨#[]⟩, .string ⟨#[]⟩, .int .i64 0, .int .i64 0, .int .i64 0] 62)).heap.size (((w.alloc (.cells h.cells 37)).alloc (.cells #[.string kb, .string ki, .string kl, .int .i64 ks] 44)).alloc (.cells #[.string ⟨#[]⟩, .string ⟨#[]⟩, .string ⟨#[]⟩, .int .i64 0, .int .i64 0, .int .i64 0] 62)) wr)) (fun i _ => m - (intOf i).toNat)
 case atStart => exact ⟨0, by omega, rfl, Lib.hid (fun j hj h => by omega), H0⟩
 case round =>
  obtain ⟨q, hq, rfl, hno, hw⟩ := hrel
  obtain ⟨d4, dlt⟩ := HL4.out _ hw.out
  have HBR : Hid (Below w.heap.size w wr) := Lib.hid (HBW.out _ hw.out).1
  by_cases hlt : q < m
  · have hl : q < L.length := by rw [← HNM.out]; exact hlt
    obtain ⟨b, off, hA, hb, hc⟩ := HRR.out.thing HLL.out (by decide) hl
    have fx := HLL.out _ (List.getElem_mem hl)
    have r1 := rangeAt_below (hc q hl) hb HBR.out
    rw [show kQuant.length = 6 from rfl] at r1
    obtain ⟨x, hx⟩ : ∃ x, L[q] = x := ⟨_, rfl⟩
    rw [hx] at fx r1
    have HX := Lib.hid hx
    have HF := Lib.hid fx
    have hxr := qn_cells fx
    obtain ⟨y, hy⟩ : ∃ y, qnOf x = y := ⟨_, rfl⟩
    rw [hy] at hxr
    obtain ⟨yb, yi, yl, ys, yq, yh⟩ := y
    have HY := Lib.hid hy
    have hbl : b < wr.heap.size := Nat.lt_of_lt_of_le hb HBR.out.size
    have HRX : Hid (∀ X : BW wr, X.W.rangeAt b (off + q * 6) x) := Lib.hid (fun X => rangeAt_below r1 hbl X.h)
    have HRK : Hid (∀ X : BW wr, X.W.rangeAt b (off + q * 6) [.string yb, .string yi, .string yl, .int .i64 ys]) := Lib.hid (fun X i v hv => HRX.out X i v (by rw [hxr]; unfold Qn.cells; have hi : i < 4 := (List.getElem?_eq_some_iff.1 hv).1; match i, hi with | 0, _ | 1, _ | 2, _ | 3, _ => exact hv))
    have RHH : Hid (∀ X : BW wr, X.W.cell? ⟨w.heap.size, 4, none⟩ = some (.slice (some ⟨b, off, none⟩) m (h.c 4)) ∧ w.heap.size < X.W.heap.size) := Lib.hid (fun X => by have := HL4.out _ (hw.out.trans (X.h.mono hw.out.size)); rwa [hA] at this)
    have RKK : Hid (∀ X : BW wr, X.W.heap[w.heap.size + 1]? = some (.cells #[.string kb, .string ki, .string kl, .int .i64 ks] 44 (0, 0))) := Lib.hid (fun X => HK.out _ (hw.out.trans (X.h.mono hw.out.size)))
    rw [hA] at d4
    have h1 : (0 : Int) ≤ (q : Int) := by omega
    have h2 : (q : Int) < (m : Int) := by omega
    have HIX : Hid ((Tryz.prog.info? 62).map (·.size) = some x.length) := Lib.hid (by have := HS6.out x fx; rwa [List.size_toArray] at this)
    have HOZ : Hid ((#[.string ⟨#[]⟩, .string ⟨#[]⟩, .string ⟨#[]⟩, .int .i64 0, .int .i64 0, .int .i64 0] : Array Value).size = x.toArray.size) := Lib.hid (by rw [List.size_toArray, List.size_toArray, fx.length]; rfl)
    have HOC : Hid (x.toArray.all (·.oneCell') = true) := Lib.hid (all_oneCell_toArray (fits_one fx))
    clear hc r1 hx fx hb hA hxr hy
    go_wp2_with fail
    clear d4 dlt
    by_cases hk : (Qn.mk yb yi yl ys yq yh).ky = (Ky.mk kb ki kl ks)
    · have heq : ∀ W, (binOp .eql 44 (.agg #[.string yb, .string yi, .string yl, .int .i64 ys]) (.agg #[.string kb, .string ki, .string kl, .int .i64 ks])).run Tryz.prog W = .ok (.bool true) W := fun W => by
       obtain ⟨b, e1, e2⟩ := eql_struct (P := Tryz.prog) eqKey (by decide) (Qn.mk yb yi yl ys yq yh).ky.cells (Ky.mk kb ki kl ks).cells W (Ky.fits _) (Ky.fits _)
       rw [show b = true from e2.2 (by rw [hk])] at e1
       exact e1
      have x4 : ∀ X : BW wr, X.W.cell? ⟨w.heap.size, 4, none⟩ = some (.slice (some ⟨b, off, none⟩) m (h.c 4)) := fun X => (RHH.out X).1
      refine wp_grow wr (by kernel_rfl) (by kernel_rfl) (Below.refl _ _) ?_
      simp only []
      iterate 5 go_big_quiet_step (fail)
      refine BigFrame.wpQuiet_want (by kernel_rfl) (fun K hK => quiet_load_mid 44 (.tmp 18) rfl b (off + q * 6) rfl [.string yb, .string yi, .string yl, .int .i64 ys] _ (fun W ⟨X, hX⟩ => by rw [hX]; exact HRK.out X) huHK rfl HS4.out (hK _ ?_))
      simp only [ax]
      refine BigFrame.wpQuiet_want (by kernel_rfl) (fun K hK => quiet_load_mid 44 (.tmp 3) rfl (w.heap.size + 1) 0 rfl [.string kb, .string ki, .string kl, .int .i64 ks] _ (fun W ⟨X, hX⟩ => by rw [hX]; exact range_row0 (RKK.out X)) huHK rfl HS4.out (hK _ ?_))
      simp only [ax]
      go_big_quiet_step (fail)
      refine wpQuiet_nil ?_
      intro X
      clear x4 heq
      obtain ⟨w1, hb1⟩ := X
      obtain ⟨d4, dlt⟩ := RHH.out ⟨w1, hb1⟩
      have HX1 := Lib.hid (HRX.out ⟨w1, hb1⟩)
      have H1 := Lib.hid (hw.out.trans (hb1.mono hw.out.size))
      have hbl1 : b < w1.heap.size := Nat.lt_of_lt_of_le hbl hb1.size
      simp only [] at d4 dlt HX1 ⊢
      clear hb1 RHH RKK HRK HRX hbl
      have HG : Hid (atQ L (Ky.mk kb ki kl ks) = some q) := Lib.hid (by rw [HAT.out]; exact Pl.firstG_some hl (fun j hj hjk => hno.out j hj hjk) (by rw [HX.out]; exact isKy_iff.2 (by rw [HY.out]; exact hk)))
      have HG2 : Hid (gotQ L (Ky.mk kb ki kl ks) = x) := Lib.hid (by unfold gotQ; rw [HG.out]; simp only []; rw [List.getD_eq_getElem?_getD, List.getElem?_eq_getElem hl]; exact HX.out)
      have HR1 := Lib.hid (HR.out _ H1.out)
      have HBE : Hid (Below w.heap.size w (w1.setRow (w.heap.size + 2) x.toArray)) := Lib.hid (setRow_below (HBW.out _ H1.out).1 (by omega) _)
      go_wp2_with (first
       | (refine wpList_load_mid rfl 62 (.tmp 25) rfl b (off + q * 6) rfl x _ HX1.out huHR rfl HIX.out ?_)
       | (refine wpList_store_row rfl 62 (.tmp 4) (.tmp 26) rfl (w.heap.size + 2) x.toArray rfl rfl _ _ HR1.out (HS6.out _ HF.out) HOZ.out HOC.out ?_)
       | fail)
      exact bodyPost_ret (results_row_tmp rfl _ _ (w.heap.size + 2) _ _ _ _ rfl (setRow_heap _ _ _ _ _ _ HR1.out) huHR rfl (HS6.out _ HF.out)) rfl ⟨by rw [HG2.out, HG.out]; rfl, HBE.out⟩
    · have heq : ∀ W, (binOp .eql 44 (.agg #[.string yb, .string yi, .string yl, .int .i64 ys]) (.agg #[.string kb, .string ki, .string kl, .int .i64 ks])).run Tryz.prog W = .ok (.bool false) W := fun W => by
       obtain ⟨b, e1, e2⟩ := eql_struct (P := Tryz.prog) eqKey (by decide) (Qn.mk yb yi yl ys yq yh).ky.cells (Ky.mk kb ki kl ks).cells W (Ky.fits _) (Ky.fits _)
       rw [show b = false from by cases b with | false => rfl | true => exact absurd (Ky.cells_inj (e2.1 rfl)) hk] at e1
       exact e1
      have HNO : Hid (∀ j (hj : j < L.length), j < q + 1 → isKy (Ky.mk kb ki kl ks) L[j] = false) := Lib.hid (fun j hj hjk => by
       by_cases e : j = q
       · subst e; rw [HX.out]; cases hi : isKy (Ky.mk kb ki kl ks) x with | false => rfl | true => exact absurd (by rw [← HY.out]; exact isKy_iff.1 hi) hk
       · exact hno.out j hj (by omega))
      have x4 : ∀ X : BW wr, X.W.cell? ⟨w.heap.size, 4, none⟩ = some (.slice (some ⟨b, off, none⟩) m (h.c 4)) := fun X => (RHH.out X).1
      refine wp_grow wr (by kernel_rfl) (by kernel_rfl) (Below.refl _ _) ?_
      simp only []
      iterate 5 go_big_quiet_step (fail)
      refine BigFrame.wpQuiet_want (by kernel_rfl) (fun K hK => quiet_load_mid 44 (.tmp 18) rfl b (off + q * 6) rfl [.string yb, .string yi, .string yl, .int .i64 ys] _ (fun W ⟨X, hX⟩ => by rw [hX]; exact HRK.out X) huHK rfl HS4.out (hK _ ?_))
      simp only [ax]
      refine BigFrame.wpQuiet_want (by kernel_rfl) (fun K hK => quiet_load_mid 44 (.tmp 3) rfl (w.heap.size + 1) 0 rfl [.string kb, .string ki, .string kl, .int .i64 ks] _ (fun W ⟨X, hX⟩ => by rw [hX]; exact range_row0 (RKK.out X)) huHK rfl HS4.out (hK _ ?_))
      simp only [ax]
      go_big_quiet_step (fail)
      refine wpQuiet_nil ?_
      intro X
      clear x4 heq
      obtain ⟨w1, hb1⟩ := X
      obtain ⟨d4, dlt⟩ := RHH.out ⟨w1, hb1⟩
      have HX1 := Lib.hid (HRX.out ⟨w1, hb1⟩)
      have H1 := Lib.hid (hw.out.trans (hb1.mono hw.out.size))
      have hbl1 : b < w1.heap.size := Nat.lt_of_lt_of_le hbl hb1.size
      simp only [] at d4 dlt HX1 ⊢
      clear hb1 RHH RKK HRK HRX hbl
      go_wp2_with fail
      go_roundw
      case rel => exact ⟨q + 1, by omega, by go_num, HNO, H1⟩
      case measure => simp [intOf]; omega
  · have HG : Hid (atQ L (Ky.mk kb ki kl ks) = none) := Lib.hid (by rw [HAT.out]; exact Pl.firstG_none (fun j hj => hno.out j hj (by have := HNM.out; omega)))
    have HG2 : Hid (gotQ L (Ky.mk kb ki kl ks) = zeroQuant) := Lib.hid (by unfold gotQ; rw [HG.out])
    have HR1 := Lib.hid (HR.out _ hw.out)
    have HZO : Hid ((#[.string ⟨#[]⟩, .string ⟨#[]⟩, .string ⟨#[]⟩, .int .i64 0, .int .i64 0, .int .i64 0] : Array Value).all (·.oneCell') = true) := Lib.hid (by simp [Value.oneCell'])
    have HSZ : Hid ((Tryz.prog.info? 62).map (·.size) = some (#[.string ⟨#[]⟩, .string ⟨#[]⟩, .string ⟨#[]⟩, .int .i64 0, .int .i64 0, .int .i64 0] : Array Value).size) := Lib.hid (by kernel_rfl)
    go_wp2_with (first
     | (refine wpList_store_row rfl 62 (.tmp 4) (.tmp 27) rfl (w.heap.size + 2) #[.string ⟨#[]⟩, .string ⟨#[]⟩, .string ⟨#[]⟩, .int .i64 0, .int .i64 0, .int .i64 0] rfl rfl _ _ HR1.out HSZ.out rfl HZO.out ?_)
     | fail)
    exact bodyPost_ret (results_row_tmp rfl _ _ (w.heap.size + 2) _ _ _ _ rfl (setRow_heap _ _ _ _ _ _ HR1.out) huHR rfl HSZ.out) rfl ⟨by rw [HG2.out, HG.out]; rfl, setRow_below HBR.out (by omega) _⟩

set_option maxRecDepth 100000 in
set_option maxHeartbeats 3200000 in
theorem rupq (h : Hs) (L : List (List Value)) (qb qi ql : ByteArray) (qs qq qh : Int) (w : World) (hn : h.n 4 = L.length) (hn6 : h.n 4 ≤ 10000) (hL : Things kQuant L) (hr : Rd w w.heap.size (h.A 4) L.flatten) :
 Calls Tryz.prog 106 #[.agg h.cells, .agg #[.string qb, .string qi, .string ql, .int .i64 qs, .int .i64 qq, .int .i64 qh]] w fun e w' => Below w.heap.size w w' ∧ ∃ A n c, n = (upQ L (Qn.mk qb qi ql qs qq qh)).length ∧ w'.ownsRow w.heap.size 62 6 (.slice A n c) n (upQ L (Qn.mk qb qi ql qs qq qh)).flatten ∧ e = .returned (.agg (h.set 4 A n c).cells) := by
 have HPD : Hid (∀ W, Below w.heap.size w W → Calls Tryz.prog 137 #[.slice (h.A 4) (h.n 4) (h.c 4), .agg #[.string qb, .string qi, .string ql, .int .i64 qs, .int .i64 qq, .int .i64 qh], .func (.func 138) #[] #[]] W (NewQuant W (dropG ordQuant L (Qn.mk qb qi ql qs qq qh).cells))) := Lib.hid (fun W hW => rdropQuant (h.A 4) (h.n 4) (h.c 4) 138 ordQuant (Qn.mk qb qi ql qs qq qh).cells L W hn (by omega) hL (Qn.fits _) ((hr.below hW).mono hW.size) (tellsRQ W))
 have HPU : Hid (∀ W, Below w.heap.size w W → Calls Tryz.prog 139 #[.slice (h.A 4) (h.n 4) (h.c 4), .agg #[.string qb, .string qi, .string ql, .int .i64 qs, .int .i64 qq, .int .i64 qh], .func (.func 138) #[] #[]] W (NewQuant W (putG ordQuant L (Qn.mk qb qi ql qs qq qh).cells))) := Lib.hid (fun W hW => rputQuant (h.A 4) (h.n 4) (h.c 4) 138 ordQuant (Qn.mk qb qi ql qs qq qh).cells L W hn (by omega) hL (Qn.fits _) ((hr.below hW).mono hW.size) (tellsRQ W))
 have HUP : Hid (upQ L (Qn.mk qb qi ql qs qq qh) = if qq = 0 then dropG ordQuant L (Qn.mk qb qi ql qs qq qh).cells else putG ordQuant L (Qn.mk qb qi ql qs qq qh).cells) := Lib.hid rfl
 obtain ⟨lx, hlx⟩ : ∃ l, upQ L (Qn.mk qb qi ql qs qq qh) = l := ⟨_, rfl⟩
 rw [hlx] at HUP ⊢
 clear hlx
 obtain ⟨m, hmm⟩ : ∃ m, h.n 4 = m := ⟨_, rfl⟩
 rw [hmm] at HPD HPU
 have HMM := Lib.hid hmm
 clear hmm
 obtain ⟨W0, hW0⟩ : ∃ W0, W0 = (((w.alloc (.cells h.cells 37)).alloc (.cells #[.string qb, .string qi, .string ql, .int .i64 qs, .int .i64 qq, .int .i64 qh] 62)).alloc (.cells #[.slice none 0 0, .slice none 0 0, .slice none 0 0, .slice none 0 0, .slice none 0 0, .slice none 0 0, .slice none 0 0, .slice none 0 0, .slice none 0 0, .slice none 0 0, .slice none 0 0, .slice none 0 0, .slice none 0 0, .slice none 0 0, .int .i64 0] 37)) := ⟨_, rfl⟩
 have hb0 : Below w.heap.size w W0 := by rw [hW0]; exact (((Below.refl _ _).alloc (Nat.le_refl _) _).alloc (by simp <;> omega) _).alloc (by simp <;> omega) _
 have hs0 : W0.heap.size = w.heap.size + 3 := by rw [hW0]; simp
 have HH : Hid (∀ W, Below W0.heap.size W0 W → W.heap[w.heap.size]? = some (.cells h.cells 37 (0, 0))) := Lib.hid (fun W hW => (hW.block _ (by omega)).trans (by
  rw [hW0]
  have hq := heap_alloc_new w (.cells h.cells 37)
  exact (Below.heap_alloc _ _ _ (by simp <;> omega)).trans ((Below.heap_alloc _ _ _ (by simp <;> omega)).trans ((by simpa using hq)))))
 have HX : Hid (∀ W, Below W0.heap.size W0 W → W.heap[w.heap.size + 1]? = some (.cells #[.string qb, .string qi, .string ql, .int .i64 qs, .int .i64 qq, .int .i64 qh] 62 (0, 0))) := Lib.hid (fun W hW => (hW.block _ (by omega)).trans (by
  rw [hW0]
  have hq := heap_alloc_new (w.alloc (.cells h.cells 37)) (.cells #[.string qb, .string qi, .string ql, .int .i64 qs, .int .i64 qq, .int .i64 qh] 62)
  exact (Below.heap_alloc _ _ _ (by simp <;> omega)).trans ((by simpa using hq))))
 have HZ : Hid (∀ W, Below W0.heap.size W0 W → W.heap[w.heap.size + 2]? = some (.cells Hs.zero 37 (0, 0))) := Lib.hid (fun W hW => (hW.block _ (by omega)).trans (by
  rw [hW0]
  have hq := heap_alloc_new ((w.alloc (.cells h.cells 37)).alloc (.cells #[.string qb, .string qi, .string ql, .int .i64 qs, .int .i64 qq, .int .i64 qh] 62)) (.cells #[.slice none 0 0, .slice none 0 0, .slice none 0 0, .slice none 0 0, .slice none 0 0, .slice none 0 0, .slice none 0 0, .slice none 0 0, .slice none 0 0, .slice none 0 0, .slice none 0 0, .slice none 0 0, .slice none 0 0, .slice none 0 0, .int .i64 0] 37)
  exact (by simpa [Hs.zero] using hq)))
 have HBW : Hid (∀ W, Below W0.heap.size W0 W → Below w.heap.size w W ∧ w.heap.size + 3 ≤ W.heap.size) := Lib.hid (fun W hW => ⟨hb0.trans (hW.mono (by omega)), by have := hW.size; omega⟩)
 have huh := Tryz.underlying37
 have HSH : Hid (∀ a : Hs, (Tryz.prog.info? 37).map (·.size) = some a.cells.size) := Lib.hid (fun a => by kernel_rfl)
 have HSQ : Hid ((Tryz.prog.info? 37).map (·.size) = some Hs.zero.size) := Lib.hid (by kernel_rfl)
 have H1C : Hid (∀ a : Hs, a.cells.all (·.oneCell') = true) := Lib.hid (fun a => by simp [Hs.cells, Value.oneCell'])
 have H1Q : Hid (Hs.zero.all (·.oneCell') = true) := Lib.hid (by simp [Hs.zero, Value.oneCell'])
 have huHX := Tryz.underlying62
 have HSHX : Hid ((Tryz.prog.info? 62).map (·.size) = some 6) := Lib.hid (by kernel_rfl)
 have HCHX : Hid (∀ W, Below W0.heap.size W0 W → W.cell? ⟨w.heap.size + 1, 0, none⟩ = some (.string qb) ∧ W.cell? ⟨w.heap.size + 1, 1, none⟩ = some (.string qi) ∧ W.cell? ⟨w.heap.size + 1, 2, none⟩ = some (.string ql) ∧ W.cell? ⟨w.heap.size + 1, 3, none⟩ = some (.int .i64 qs) ∧ W.cell? ⟨w.heap.size + 1, 4, none⟩ = some (.int .i64 qq) ∧ W.cell? ⟨w.heap.size + 1, 5, none⟩ = some (.int .i64 qh) ∧ w.heap.size + 1 < W.heap.size) := Lib.hid (fun W hW => ⟨by rw [cell_of_block (HX.out W hW)]; rfl, by rw [cell_of_block (HX.out W hW)]; rfl, by rw [cell_of_block (HX.out W hW)]; rfl, by rw [cell_of_block (HX.out W hW)]; rfl, by rw [cell_of_block (HX.out W hW)]; rfl, by rw [cell_of_block (HX.out W hW)]; rfl, by have := hW.size; omega⟩)
 have HL4 : Hid (∀ W, Below W0.heap.size W0 W → W.cell? ⟨w.heap.size, 4, none⟩ = some (.slice (h.A 4) m (h.c 4)) ∧ w.heap.size < W.heap.size) := Lib.hid (fun W hW => ⟨by rw [cell_of_block (HH.out W hW), ← HMM.out]; rfl, by have := hW.size; omega⟩)
 have hc0 := HCHX.out _ (Below.refl _ _)
 obtain ⟨hx0, hx1, hx2, hx3, hx4, hx5, hlthx⟩ := hc0
 obtain ⟨d4, dlt⟩ := HL4.out _ (Below.refl _ _)
 have H0 := Lib.hid (Below.refl W0.heap.size W0)
 clear hb0 hs0 hn hn6 hL hr
 subst hW0
 go_enter Tryz.func106, Tryz.ntmps106
 by_cases h0 : qq = 0
 · subst h0
   have HE : Hid (lx = dropG ordQuant L (Qn.mk qb qi ql qs 0 qh).cells) := Lib.hid (by rw [HUP.out, if_pos rfl])
   go_wp2_with (first
    | (refine wpList_load_row rfl 62 (.tmp 3) rfl (w.heap.size + 1) rfl _ _ _ _ (HX.out _ H0.out) huHX rfl HSHX.out ?_)
    | fail)
   refine (HPD.out _ (HBW.out _ H0.out).1).mono ?_
   rintro e w5 ⟨A5, n5, p5, hl5, rfl, hown5, hb5⟩
   rw [← HE.out] at hl5 hown5
   have H5 := Lib.hid (H0.out.trans (hb5.mono H0.out.size))
   have HO5 := Lib.hid hown5
   have HLE := Lib.hid hl5
   have HS0 := Lib.hid (HBW.out _ H0.out).2
   clear hb5 hown5 hl5 hx0 hx1 hx2 hx3 hx4 hx5 hlthx d4 dlt
   obtain ⟨c5, _⟩ := HL4.out _ H5.out
   have f5 : w5.frozen? ⟨w.heap.size, 4, none⟩ = false := frozen_of_block (HH.out _ H5.out)
   have HZ5 := Lib.hid (HZ.out _ H5.out)
   have HH5 := Lib.hid (HH.out _ H5.out)
   have HB5 := Lib.hid (HBW.out _ H5.out)
   have H6 : Hid ((w5.setCell ⟨w.heap.size, 4, none⟩ (.slice A5 n5 p5)).heap[w.heap.size]? = some (.cells (h.set 4 A5 n5 p5).cells 37 (0, 0))) := Lib.hid (by rw [block_setCell HH5.out, h.set_cells _ _ _ 4 (by decide)])
   have HZ6 : Hid ((w5.setCell ⟨w.heap.size, 4, none⟩ (.slice A5 n5 p5)).heap[w.heap.size + 2]? = some (.cells Hs.zero 37 (0, 0))) := Lib.hid ((block_setCell_other (by omega) _).trans HZ5.out)
   have HB6 : Hid (Below w.heap.size w (w5.setCell ⟨w.heap.size, 4, none⟩ (.slice A5 n5 p5))) := Lib.hid (HB5.out.1.setCell (Nat.le_refl _) _)
   have HO6 : Hid ((w5.setCell ⟨w.heap.size, 4, none⟩ (.slice A5 n5 p5)).ownsRow (w.heap.size + 3) 62 6 (.slice A5 n5 p5) n5 lx.flatten) := Lib.hid (own_far HO5.out (show w.heap.size < _ by have := HS0.out; omega) HS0.out)
   go_wp2_with (first
    | (refine wpList_load_row rfl 37 (.tmp 2) rfl w.heap.size rfl _ _ _ _ H6.out huh rfl (HSH.out _) ?_)
    | (refine wpList_store_row rfl 37 (.tmp 4) (.tmp 13) rfl (w.heap.size + 2) (h.set 4 A5 n5 p5).cells rfl rfl _ _ HZ6.out (HSH.out _) rfl (H1C.out _) ?_)
    | fail)
   exact bodyPost_ret (results_cell_row rfl _ _ (w.heap.size + 2) _ _ _ _ rfl (setRow_heap _ _ _ _ _ _ HZ6.out) huh rfl (HSH.out _)) rfl ⟨setRow_below HB6.out (by omega) _, A5, n5, p5, HLE.out, own_rowed HO6.out (by omega) (by omega), rfl⟩
 · have HE : Hid (lx = putG ordQuant L (Qn.mk qb qi ql qs qq qh).cells) := Lib.hid (by rw [HUP.out, if_neg h0])
   have hz0 : (qq == 0) = false := by simpa using h0
   clear h0
   go_wp2_with (first
    | (refine wpList_load_row rfl 62 (.tmp 3) rfl (w.heap.size + 1) rfl _ _ _ _ (HX.out _ H0.out) huHX rfl HSHX.out ?_)
    | fail)
   refine (HPU.out _ (HBW.out _ H0.out).1).mono ?_
   rintro e w5 ⟨A5, n5, p5, hl5, rfl, hown5, hb5⟩
   rw [← HE.out] at hl5 hown5
   have H5 := Lib.hid (H0.out.trans (hb5.mono H0.out.size))
   have HO5 := Lib.hid hown5
   have HLE := Lib.hid hl5
   have HS0 := Lib.hid (HBW.out _ H0.out).2
   clear hb5 hown5 hl5 hx0 hx1 hx2 hx3 hx4 hx5 hlthx d4 dlt
   obtain ⟨c5, _⟩ := HL4.out _ H5.out
   have f5 : w5.frozen? ⟨w.heap.size, 4, none⟩ = false := frozen_of_block (HH.out _ H5.out)
   have HZ5 := Lib.hid (HZ.out _ H5.out)
   have HH5 := Lib.hid (HH.out _ H5.out)
   have HB5 := Lib.hid (HBW.out _ H5.out)
   have H6 : Hid ((w5.setCell ⟨w.heap.size, 4, none⟩ (.slice A5 n5 p5)).heap[w.heap.size]? = some (.cells (h.set 4 A5 n5 p5).cells 37 (0, 0))) := Lib.hid (by rw [block_setCell HH5.out, h.set_cells _ _ _ 4 (by decide)])
   have HZ6 : Hid ((w5.setCell ⟨w.heap.size, 4, none⟩ (.slice A5 n5 p5)).heap[w.heap.size + 2]? = some (.cells Hs.zero 37 (0, 0))) := Lib.hid ((block_setCell_other (by omega) _).trans HZ5.out)
   have HB6 : Hid (Below w.heap.size w (w5.setCell ⟨w.heap.size, 4, none⟩ (.slice A5 n5 p5))) := Lib.hid (HB5.out.1.setCell (Nat.le_refl _) _)
   have HO6 : Hid ((w5.setCell ⟨w.heap.size, 4, none⟩ (.slice A5 n5 p5)).ownsRow (w.heap.size + 3) 62 6 (.slice A5 n5 p5) n5 lx.flatten) := Lib.hid (own_far HO5.out (show w.heap.size < _ by have := HS0.out; omega) HS0.out)
   go_wp2_with (first
    | (refine wpList_load_row rfl 37 (.tmp 2) rfl w.heap.size rfl _ _ _ _ H6.out huh rfl (HSH.out _) ?_)
    | (refine wpList_store_row rfl 37 (.tmp 4) (.tmp 19) rfl (w.heap.size + 2) (h.set 4 A5 n5 p5).cells rfl rfl _ _ HZ6.out (HSH.out _) rfl (H1C.out _) ?_)
    | fail)
   exact bodyPost_ret (results_cell_row rfl _ _ (w.heap.size + 2) _ _ _ _ rfl (setRow_heap _ _ _ _ _ _ HZ6.out) huh rfl (HSH.out _)) rfl ⟨setRow_below HB6.out (by omega) _, A5, n5, p5, HLE.out, own_rowed HO6.out (by omega) (by omega), rfl⟩

theorem frq {h : Hs} {L : Nat → List (List Value)} {w : World} (hh : HT h L w) (kb ki kl : ByteArray) (ks : Int) : Calls Tryz.prog 105 #[.agg h.cells, .agg #[.string kb, .string ki, .string kl, .int .i64 ks]] w fun e w' => e = .returned (.tuple #[.agg (gotQ (L 4) (Ky.mk kb ki kl ks)).toArray, .bool (atQ (L 4) (Ky.mk kb ki kl ks)).isSome]) ∧ Below w.heap.size w w' :=
 rfindq h (L 4) kb ki kl ks w (hh 4 (by decide)).1 (hh 4 (by decide)).2.1 (hh 4 (by decide)).2.2.1 (hh 4 (by decide)).2.2.2

end Go.Proofs.YtlkmccmbpnbgbaaGreat

namespace Go.Proofs.YtlkmccmbpnbgbaaGreat
set_option linter.unusedVariables false
open Go.RowKit
open Pl (firstG firstG_none firstG_some findG overG putG dropG It)

set_option maxRecDepth 100000 in
set_option maxHeartbeats 3200000 in
theorem rhold (h : Hs) (L : Nat → List (List Value)) (kb ki kl : ByteArray) (ks : Int) (n : Int) (w : World) (hh : HT h L w) (hn4 : h.n 4 ≤ 9000) :
 Calls Tryz.prog 70 #[.agg h.cells, .agg #[.string kb, .string ki, .string kl, .int .i64 ks], .int .i64 n] w (PutP 62 6 4 (holdE (L 4) (Ky.mk kb ki kl ks) n) (holdL (L 4) (Ky.mk kb ki kl ks) n) h w) := by
 obtain ⟨y, hy, hyb⟩ := quant_six hh (Ky.mk kb ki kl ks)
 obtain ⟨iq, hiq⟩ : ∃ z, (atQ (L 4) (Ky.mk kb ki kl ks)).isSome = z := ⟨_, rfl⟩
 obtain ⟨er, her⟩ : ∃ r, holdE (L 4) (Ky.mk kb ki kl ks) n = r := ⟨_, rfl⟩
 have HKY : Hid (iq = true → y.bin = kb ∧ y.item = ki ∧ y.lot = kl ∧ y.st = ks) := Lib.hid (fun h1 => by
  have := gotQ_ky (L := L 4) (k := (Ky.mk kb ki kl ks)) (by rw [hiq]; exact h1)
  rw [hyb] at this
  injection this with a1 a2 a3 a4
  exact ⟨a1, a2, a3, a4⟩)
 have CQ : Hid (∀ W, Below w.heap.size w W → Calls Tryz.prog 105 #[.agg h.cells, .agg #[.string kb, .string ki, .string kl, .int .i64 ks]] W fun e w' => e = .returned (.tuple #[.agg #[.string y.bin, .string y.item, .string y.lot, .int .i64 y.st, .int .i64 y.qty, .int .i64 y.held], .bool iq]) ∧ Below W.heap.size W w') := Lib.hid (fun W hW => by have := frq (hh.below hW) kb ki kl ks; rw [hy, hiq] at this; exact this)
 have HUP : Hid (∀ (x : Qn) W, Below w.heap.size w W → Calls Tryz.prog 106 #[.agg h.cells, .agg #[.string x.bin, .string x.item, .string x.lot, .int .i64 x.st, .int .i64 x.qty, .int .i64 x.held]] W fun e w' => Below W.heap.size W w' ∧ ∃ A n c, n = (upQ (L 4) x).length ∧ w'.ownsRow W.heap.size 62 6 (.slice A n c) n (upQ (L 4) x).flatten ∧ e = .returned (.agg (h.set 4 A n c).cells)) := Lib.hid (fun x W hW => rupq h (L 4) _ _ _ _ _ _ W (hh 4 (by decide)).1 (by omega) (hh 4 (by decide)).2.2.1 ((hh.below hW) 4 (by decide)).2.2.2)
 have HA : Hid (er = if iq = false then 12 else if n < -1000000000 ∨ 1000000000 < n then 10 else if wrap64 (y.qty - y.held) < n ∨ wrap64 (y.held + n) < 0 then 28 else 0) := Lib.hid (by rw [← her]; unfold holdE; rw [hiq, hyb])
 have HLX : Hid (iq = true → holdL (L 4) (Ky.mk kb ki kl ks) n = upQ (L 4) ⟨y.bin, y.item, y.lot, y.st, y.qty, wrap64 (y.held + n)⟩) := Lib.hid (fun h1 => by obtain ⟨a1, a2, a3, a4⟩ := HKY.out h1; unfold holdL; rw [hyb, a1, a2, a3, a4])
 obtain ⟨lx, hlx⟩ : ∃ l, holdL (L 4) (Ky.mk kb ki kl ks) n = l := ⟨_, rfl⟩
 rw [hlx] at HLX ⊢
 rw [her]
 clear her hiq hy hyb hlx HKY
 obtain ⟨W0, hW0⟩ : ∃ W0, W0 = (((w.alloc (.cells h.cells 37)).alloc (.cells #[.string kb, .string ki, .string kl, .int .i64 ks] 44)).alloc (.cells #[.slice none 0 0, .slice none 0 0, .slice none 0 0, .slice none 0 0, .slice none 0 0, .slice none 0 0, .slice none 0 0, .slice none 0 0, .slice none 0 0, .slice none 0 0, .slice none 0 0, .slice none 0 0, .slice none 0 0, .slice none 0 0, .int .i64 0] 37)) := ⟨_, rfl⟩
 have hb0 : Below w.heap.size w W0 := by rw [hW0]; exact (((Below.refl _ _).alloc (Nat.le_refl _) _).alloc (by simp <;> omega) _).alloc (by simp <;> omega) _
 have hs0 : W0.heap.size = w.heap.size + 3 := by rw [hW0]; simp
 have HH : Hid (∀ W, Below W0.heap.size W0 W → W.heap[w.heap.size]? = some (.cells h.cells 37 (0, 0))) := Lib.hid (fun W hW => (hW.block _ (by omega)).trans (by
  rw [hW0]
  have hq := heap_alloc_new w (.cells h.cells 37)
  exact (Below.heap_alloc _ _ _ (by simp <;> omega)).trans ((Below.heap_alloc _ _ _ (by simp <;> omega)).trans ((by simpa using hq)))))
 have HK : Hid (∀ W, Below W0.heap.size W0 W → W.heap[w.heap.size + 1]? = some (.cells #[.string kb, .string ki, .string kl, .int .i64 ks] 44 (0, 0))) := Lib.hid (fun W hW => (hW.block _ (by omega)).trans (by
  rw [hW0]
  have hq := heap_alloc_new (w.alloc (.cells h.cells 37)) (.cells #[.string kb, .string ki, .string kl, .int .i64 ks] 44)
  exact (Below.heap_alloc _ _ _ (by simp <;> omega)).trans ((by simpa using hq))))
 have HZ : Hid (∀ W, Below W0.heap.size W0 W → W.heap[w.heap.size + 2]? = some (.cells Hs.zero 37 (0, 0))) := Lib.hid (fun W hW => (hW.block _ (by omega)).trans (by
  rw [hW0]
  have hq := heap_alloc_new ((w.alloc (.cells h.cells 37)).alloc (.cells #[.string kb, .string ki, .string kl, .int .i64 ks] 44)) (.cells #[.slice none 0 0, .slice none 0 0, .slice none 0 0, .slice none 0 0, .slice none 0 0, .slice none 0 0, .slice none 0 0, .slice none 0 0, .slice none 0 0, .slice none 0 0, .slice none 0 0, .slice none 0 0, .slice none 0 0, .slice none 0 0, .int .i64 0] 37)
  exact (by simpa [Hs.zero] using hq)))
 have HBW : Hid (∀ W, Below W0.heap.size W0 W → Below w.heap.size w W ∧ w.heap.size + 3 ≤ W.heap.size) := Lib.hid (fun W hW => ⟨hb0.trans (hW.mono (by omega)), by have := hW.size; omega⟩)
 have huh := Tryz.underlying37
 have HSH : Hid (∀ a : Hs, (Tryz.prog.info? 37).map (·.size) = some a.cells.size) := Lib.hid (fun a => by kernel_rfl)
 have HSQ : Hid ((Tryz.prog.info? 37).map (·.size) = some Hs.zero.size) := Lib.hid (by kernel_rfl)
 have H1C : Hid (∀ a : Hs, a.cells.all (·.oneCell') = true) := Lib.hid (fun a => by simp [Hs.cells, Value.oneCell'])
 have H1Q : Hid (Hs.zero.all (·.oneCell') = true) := Lib.hid (by simp [Hs.zero, Value.oneCell'])
 have huHK := Tryz.underlying44
 have HSHK : Hid ((Tryz.prog.info? 44).map (·.size) = some 4) := Lib.hid (by kernel_rfl)
 have HCHK : Hid (∀ W, Below W0.heap.size W0 W → W.cell? ⟨w.heap.size + 1, 0, none⟩ = some (.string kb) ∧ W.cell? ⟨w.heap.size + 1, 1, none⟩ = some (.string ki) ∧ W.cell? ⟨w.heap.size + 1, 2, none⟩ = some (.string kl) ∧ W.cell? ⟨w.heap.size + 1, 3, none⟩ = some (.int .i64 ks) ∧ w.heap.size + 1 < W.heap.size) := Lib.hid (fun W hW => ⟨by rw [cell_of_block (HK.out W hW)]; rfl, by rw [cell_of_block (HK.out W hW)]; rfl, by rw [cell_of_block (HK.out W hW)]; rfl, by rw [cell_of_block (HK.out W hW)]; rfl, by have := hW.size; omega⟩)
 have H0 := Lib.hid (Below.refl W0.heap.size W0)
 clear hb0 hs0 hh hn4
 subst hW0
 go_enter Tryz.func70, Tryz.ntmps70
 go_wp2_with (first
  | (refine wpList_load_row rfl 37 (.tmp 3) rfl w.heap.size rfl _ _ _ _ (HH.out _ H0.out) huh rfl (HSH.out _) ?_)
  | (refine wpList_load_row rfl 44 (.tmp 4) rfl (w.heap.size + 1) rfl _ _ _ _ (HK.out _ H0.out) huHK rfl HSHK.out ?_)
  | fail)
 refine (CQ.out _ (HBW.out _ H0.out).1).mono ?_
 rintro e w1 ⟨rfl, hb1⟩
 have H1 := Lib.hid (H0.out.trans (hb1.mono H0.out.size))
 clear hb1
 have H2 := Lib.hid (H1.out.alloc H1.out.size (.cells #[.string y.bin, .string y.item, .string y.lot, .int .i64 y.st, .int .i64 y.qty, .int .i64 y.held] 62))
 cases iq with
 | false =>
  have HE : Hid (er = 12) := Lib.hid (by rw [HA.out]; rfl)
  go_wp2_with (first
   | (refine wpList_store_row rfl 37 (.tmp 6) (.tmp 18) rfl (w.heap.size + 2) Hs.zero rfl rfl _ _ (HZ.out _ H2.out) HSQ.out rfl H1Q.out ?_)
   | fail)
  exact bodyPost_ret (results_row_tmp rfl _ _ (w.heap.size + 2) _ _ _ _ rfl (setRow_heap _ _ _ _ _ _ (HZ.out _ H2.out)) huh rfl HSQ.out) rfl ⟨setRow_below (HBW.out _ H2.out).1 (by omega) _, .inl ⟨by rw [HE.out]; decide, by rw [HE.out]; rfl⟩⟩
 | true =>
  have HA1 : Hid (er = if n < -1000000000 ∨ 1000000000 < n then 10 else if wrap64 (y.qty - y.held) < n ∨ wrap64 (y.held + n) < 0 then 28 else 0) := Lib.hid (by rw [HA.out]; rfl)
  have HLE0 := Lib.hid (HLX.out rfl)
  by_cases q1 : n < -1000000000
  ·
   have HE : Hid (er = 10) := Lib.hid (by rw [HA1.out, if_pos (.inl q1)])
   go_wp2_with (first
    | (refine wpList_store_row rfl 37 (.tmp 6) (.tmp 25) rfl (w.heap.size + 2) Hs.zero rfl rfl _ _ (HZ.out _ H2.out) HSQ.out rfl H1Q.out ?_)
    | fail)
   exact bodyPost_ret (results_row_tmp rfl _ _ (w.heap.size + 2) _ _ _ _ rfl (setRow_heap _ _ _ _ _ _ (HZ.out _ H2.out)) huh rfl HSQ.out) rfl ⟨setRow_below (HBW.out _ H2.out).1 (by omega) _, .inl ⟨by rw [HE.out]; decide, by rw [HE.out]; rfl⟩⟩
  · by_cases q2 : 1000000000 < n
    ·
     have HE : Hid (er = 10) := Lib.hid (by rw [HA1.out, if_pos (.inr q2)])
     go_wp2_with (first
      | (refine wpList_store_row rfl 37 (.tmp 6) (.tmp 25) rfl (w.heap.size + 2) Hs.zero rfl rfl _ _ (HZ.out _ H2.out) HSQ.out rfl H1Q.out ?_)
      | fail)
     exact bodyPost_ret (results_row_tmp rfl _ _ (w.heap.size + 2) _ _ _ _ rfl (setRow_heap _ _ _ _ _ _ (HZ.out _ H2.out)) huh rfl HSQ.out) rfl ⟨setRow_below (HBW.out _ H2.out).1 (by omega) _, .inl ⟨by rw [HE.out]; decide, by rw [HE.out]; rfl⟩⟩
    · have HA2 : Hid (er = if wrap64 (y.qty - y.held) < n ∨ wrap64 (y.held + n) < 0 then 28 else 0) := Lib.hid (by rw [HA1.out, if_neg (fun h => h.elim q1 q2)])
      by_cases q3 : wrap64 (y.qty - y.held) < n
      ·
       have HE : Hid (er = 28) := Lib.hid (by rw [HA2.out, if_pos (.inl q3)])
       go_wp2_with (first
        | (refine wpList_store_row rfl 37 (.tmp 6) (.tmp 40) rfl (w.heap.size + 2) Hs.zero rfl rfl _ _ (HZ.out _ H2.out) HSQ.out rfl H1Q.out ?_)
        | fail)
       exact bodyPost_ret (results_row_tmp rfl _ _ (w.heap.size + 2) _ _ _ _ rfl (setRow_heap _ _ _ _ _ _ (HZ.out _ H2.out)) huh rfl HSQ.out) rfl ⟨setRow_below (HBW.out _ H2.out).1 (by omega) _, .inl ⟨by rw [HE.out]; decide, by rw [HE.out]; rfl⟩⟩
      · by_cases q4 : wrap64 (y.held + n) < 0
        ·
         have HE : Hid (er = 28) := Lib.hid (by rw [HA2.out, if_pos (.inr q4)])
         go_wp2_with (first
          | (refine wpList_store_row rfl 37 (.tmp 6) (.tmp 40) rfl (w.heap.size + 2) Hs.zero rfl rfl _ _ (HZ.out _ H2.out) HSQ.out rfl H1Q.out ?_)
          | fail)
         exact bodyPost_ret (results_row_tmp rfl _ _ (w.heap.size + 2) _ _ _ _ rfl (setRow_heap _ _ _ _ _ _ (HZ.out _ H2.out)) huh rfl HSQ.out) rfl ⟨setRow_below (HBW.out _ H2.out).1 (by omega) _, .inl ⟨by rw [HE.out]; decide, by rw [HE.out]; rfl⟩⟩
        · have HE : Hid (er = 0) := Lib.hid (by rw [HA2.out, if_neg (fun h => h.elim q3 q4)])
          have H3 := Lib.hid (H1.out.alloc H1.out.size (.cells #[.string y.bin, .string y.item, .string y.lot, .int .i64 y.st, .int .i64 y.qty, .int .i64 (wrap64 (y.held + n))] 62))
          go_wp2_with (first
           | (refine wpList_load_row rfl 37 (.tmp 3) rfl w.heap.size rfl _ _ _ _ (HH.out _ H3.out) huh rfl (HSH.out _) ?_)
           | fail)
          have HPU := Lib.hid (fun W hW => HUP.out ⟨y.bin, y.item, y.lot, y.st, y.qty, wrap64 (y.held + n)⟩ W hW)
          rw [← HLE0.out] at HPU
          refine (HPU.out _ (HBW.out _ H3.out).1).mono ?_
          rintro e w3 ⟨hb9, A, n, cc, hl, hown, rfl⟩
          have H9 := Lib.hid (H3.out.trans (hb9.mono H3.out.size))
          have HO9 := Lib.hid hown
          have HLE := Lib.hid hl
          have HSZ9 := Lib.hid (HBW.out _ H3.out).2
          clear hb9 hown hl
          go_wp2_with (first
           | (refine wpList_store_row rfl 37 (.tmp 6) (.tmp 48) rfl (w.heap.size + 2) (h.set 4 A n cc).cells rfl rfl _ _ (HZ.out _ H9.out) (HSH.out _) rfl (H1C.out _) ?_)
           | fail)
          exact bodyPost_ret (results_row_tmp rfl _ _ (w.heap.size + 2) _ _ _ _ rfl (setRow_heap _ _ _ _ _ _ (HZ.out _ H9.out)) huh rfl (HSH.out _)) rfl ⟨setRow_below (HBW.out _ H9.out).1 (by omega) _, .inr ⟨HE.out, A, n, cc, HLE.out, own_rowed HO9.out (by have := HSZ9.out; omega) (by have := HSZ9.out; omega), rfl⟩⟩
end Go.Proofs.YtlkmccmbpnbgbaaGreat
