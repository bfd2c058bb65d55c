/-
  CONTRACT of the code's eligible. (By wip/tools/gen_ncode.py.)
-/
import Derived.Test.YtnkhnbpopdmkhaaGreatNPl
import Derived.Test.YtnkhnbpopdmkhaaGreatKL
import Derived.Test.YtnkhnbpopdmkhaaGreatKF
import Derived.Test.YtnkhnbpopdmkhaaGreatHLastN
import Derived.Test.YtnkhnbpopdmkhaaGreatJHead
import Derived.BigQuiet
import Derived.Deep.CutRange
namespace Go.Proofs.YtnkhnbpopdmkhaaGreat
set_option linter.unusedVariables false
open Go.RowKit
open Pl (firstG findG putG It firstG_none firstG_some)

theorem range_four {w : World} {b : Nat} {x0 x1 x2 x3 x4 x5 : Value} (h : w.rangeAt b 0 [x0, x1, x2, x3, x4, x5]) : w.rangeAt b 0 [x0, x1, x2, x3] := fun j u hj => by
  refine h j u ?_
  match j, hj with
  | 0, hj => exact hj
  | 1, hj => exact hj
  | 2, hj => exact hj
  | 3, hj => exact hj
  | j + 4, hj => simp at hj
/-- What the code's eligible hands back. -/
def elE (LL LZ LB : List (List Value)) (e : List Value) : List Value := if elB LZ LB e = true then stE LL LZ LB e 0 else zSd.cells
set_option maxRecDepth 100000 in
set_option maxHeartbeats 3200000 in
theorem celig (h : Hs) (L : Nat → List (List Value)) (qb qi ql : ByteArray) (qs qq qh : Int) (w : World) (hh : HT h L w) :
    Calls Tryz.prog 41 #[.agg h.cells, .agg #[.string qb, .string qi, .string ql, .int .i64 qs, .int .i64 qq, .int .i64 qh]] w fun e w' => e = .returned (.tuple #[.agg (elE (L 1) (L 2) (L 3) [.string qb, .string qi, .string ql, .int .i64 qs, .int .i64 qq, .int .i64 qh]).toArray, .bool (elB (L 2) (L 3) [.string qb, .string qi, .string ql, .int .i64 qs, .int .i64 qq, .int .i64 qh])]) ∧ Below w.heap.size w w' := by
  obtain ⟨⟨yc, yz, kd, ai, pl, vo, we, fz⟩, hy, hyb⟩ := bin_eight hh qb
  unfold Bn.cells at hy
  obtain ⟨ib, hib⟩ : ∃ z, (atBin (L 3) qb).isSome = z := ⟨_, rfl⟩
  obtain ⟨st, hst⟩ : ∃ z, siteT (L 2) (L 3) qb = z := ⟨_, rfl⟩
  obtain ⟨dz, hdz⟩ : ∃ z, dayZ (L 1) qi ql = z := ⟨_, rfl⟩
  obtain ⟨fr, hfr⟩ : ∃ z, wrap64 (qq - qh) = z := ⟨_, rfl⟩
  obtain ⟨r, hr⟩ : ∃ r, elB (L 2) (L 3) [.string qb, .string qi, .string ql, .int .i64 qs, .int .i64 qq, .int .i64 qh] = r := ⟨_, rfl⟩
  obtain ⟨X, hX⟩ : ∃ X, elE (L 1) (L 2) (L 3) [.string qb, .string qi, .string ql, .int .i64 qs, .int .i64 qq, .int .i64 qh] = X := ⟨_, rfl⟩
  have HA : Hid (r = ((qs == 1) && (decide (0 < fr) && (ib && ((kd == 1) && !fz))))) := Lib.hid (by
    have h1 : elB (L 2) (L 3) [.string qb, .string qi, .string ql, .int .i64 qs, .int .i64 qq, .int .i64 qh] = ((qs == 1) && (decide (0 < wrap64 (qq - qh)) && ((atBin (L 3) qb).isSome && (((bnOf (gotBin (L 3) qb)).kind == 1) && !(bnOf (gotBin (L 3) qb)).frz)))) := rfl
    rw [← hr, h1, hib, hyb, hfr])
  have HX : Hid (X = if r = true then [.string qb, .string qi, .string ql, .int .i64 qs, .string st, .int .i64 dz, .int .i64 0, .int .i64 fr] else [.string ⟨#[]⟩, .string ⟨#[]⟩, .string ⟨#[]⟩, .int .i64 0, .string ⟨#[]⟩, .int .i64 0, .int .i64 0, .int .i64 0]) := Lib.hid (by
    rw [← hX, ← hr, ← hst, ← hdz, ← hfr]
    rfl)
  have CB : Hid (∀ W, Below w.heap.size w W → Calls Tryz.prog 67 #[.agg h.cells, .string qb] W fun e w' => e = .returned (.tuple #[.agg #[.string yc, .string yz, .int .i64 kd, .int .i64 ai, .int .i64 pl, .int .i64 vo, .int .i64 we, .bool fz], .bool ib]) ∧ Below W.heap.size W w') := Lib.hid (fun W hW => by have := fcBin (hh.below hW) qb; rw [hy, hib] at this; exact this)
  have CS : Hid (∀ W, Below w.heap.size w W → Calls Tryz.prog 68 #[.agg h.cells, .string qb] W fun e w' => e = .returned (.string st) ∧ Below W.heap.size W w') := Lib.hid (fun W hW => by have := csite_any h L qb W (hh.below hW); rwa [hst] at this)
  have CD : Hid (∀ W, Below w.heap.size w W → Calls Tryz.prog 69 #[.agg h.cells, .string qi, .string ql] W fun e w' => e = .returned (.int .i64 dz) ∧ Below W.heap.size W w') := Lib.hid (fun W hW => by have := cday_any h L qi ql W (hh.below hW); rwa [hdz] at this)
  rw [hr, hX]
  clear hr hX hib hst hdz hy hyb
  have HSHL : Hid (∀ a : Hs, (Tryz.prog.info? 37).map (·.size) = some a.cells.toList.length) := Lib.hid (fun a => by kernel_rfl)
  have HK4 : Hid ((Tryz.prog.info? 56).map (·.size) = some 4) := Lib.hid (by kernel_rfl)
  have huK := Tryz.underlying56
  have H1R : Hid (∀ (a b c g : ByteArray) (d e f i : Int), (#[.string a, .string b, .string c, .int .i64 d, .string g, .int .i64 e, .int .i64 f, .int .i64 i] : Array Value).all (·.oneCell') = true) := Lib.hid (fun _ _ _ _ _ _ _ _ => by simp [Value.oneCell'])
  have HS8 : Hid (∀ (a b c g : ByteArray) (d e f i : Int), (Tryz.prog.info? 112).map (·.size) = some (#[.string a, .string b, .string c, .int .i64 d, .string g, .int .i64 e, .int .i64 f, .int .i64 i] : Array Value).size) := Lib.hid (fun _ _ _ _ _ _ _ _ => by kernel_rfl)
  obtain ⟨W0, hW0⟩ : ∃ W0, W0 = (((w.alloc (.cells h.cells 37)).alloc (.cells #[.string qb, .string qi, .string ql, .int .i64 qs, .int .i64 qq, .int .i64 qh] 58)).alloc (.cells #[.string ⟨#[]⟩, .string ⟨#[]⟩, .string ⟨#[]⟩, .int .i64 0, .string ⟨#[]⟩, .int .i64 0, .int .i64 0, .int .i64 0] 112)) := ⟨_, rfl⟩
  have hb0 : Below w.heap.size w W0 := by rw [hW0]; exact (((Below.refl _ _).alloc (Nat.le_refl _) _).alloc (by simp <;> omega) _).alloc (by simp <;> omega) _
  have hs0 : W0.heap.size = w.heap.size + 3 := by rw [hW0]; simp
  have HH : Hid (∀ W, Below W0.heap.size W0 W → W.heap[w.heap.size]? = some (.cells h.cells 37 (0, 0))) := Lib.hid (fun W hW => (hW.block _ (by omega)).trans (by
    rw [hW0]
    have hq := heap_alloc_new w (.cells h.cells 37)
    exact (Below.heap_alloc _ _ _ (by simp <;> omega)).trans ((Below.heap_alloc _ _ _ (by simp <;> omega)).trans ((by simpa using hq)))))
  have HQ : Hid (∀ W, Below W0.heap.size W0 W → W.heap[w.heap.size + 1]? = some (.cells #[.string qb, .string qi, .string ql, .int .i64 qs, .int .i64 qq, .int .i64 qh] 58 (0, 0))) := Lib.hid (fun W hW => (hW.block _ (by omega)).trans (by
    rw [hW0]
    have hq := heap_alloc_new (w.alloc (.cells h.cells 37)) (.cells #[.string qb, .string qi, .string ql, .int .i64 qs, .int .i64 qq, .int .i64 qh] 58)
    exact (Below.heap_alloc _ _ _ (by simp <;> omega)).trans ((by simpa using hq))))
  have HR : Hid (∀ W, Below W0.heap.size W0 W → W.heap[w.heap.size + 2]? = some (.cells #[.string ⟨#[]⟩, .string ⟨#[]⟩, .string ⟨#[]⟩, .int .i64 0, .string ⟨#[]⟩, .int .i64 0, .int .i64 0, .int .i64 0] 112 (0, 0))) := Lib.hid (fun W hW => (hW.block _ (by omega)).trans (by
    rw [hW0]
    have hq := heap_alloc_new ((w.alloc (.cells h.cells 37)).alloc (.cells #[.string qb, .string qi, .string ql, .int .i64 qs, .int .i64 qq, .int .i64 qh] 58)) (.cells #[.string ⟨#[]⟩, .string ⟨#[]⟩, .string ⟨#[]⟩, .int .i64 0, .string ⟨#[]⟩, .int .i64 0, .int .i64 0, .int .i64 0] 112)
    exact (by simpa using hq)))
  have HBW : Hid (∀ W, Below W0.heap.size W0 W → Below w.heap.size w W ∧ w.heap.size + 3 ≤ W.heap.size) := Lib.hid (fun W hW => ⟨hb0.trans (hW.mono (by omega)), by have := hW.size; omega⟩)
  have huh := Tryz.underlying37
  have HSH : Hid (∀ a : Hs, (Tryz.prog.info? 37).map (·.size) = some a.cells.size) := Lib.hid (fun a => by kernel_rfl)
  have huHQ := Tryz.underlying58
  have HSHQ : Hid ((Tryz.prog.info? 58).map (·.size) = some 6) := Lib.hid (by kernel_rfl)
  have HCHQ : Hid (∀ W, Below W0.heap.size W0 W → W.cell? ⟨w.heap.size + 1, 0, none⟩ = some (.string qb) ∧ W.cell? ⟨w.heap.size + 1, 1, none⟩ = some (.string qi) ∧ W.cell? ⟨w.heap.size + 1, 2, none⟩ = some (.string ql) ∧ W.cell? ⟨w.heap.size + 1, 3, none⟩ = some (.int .i64 qs) ∧ W.cell? ⟨w.heap.size + 1, 4, none⟩ = some (.int .i64 qq) ∧ W.cell? ⟨w.heap.size + 1, 5, none⟩ = some (.int .i64 qh) ∧ w.heap.size + 1 < W.heap.size) := Lib.hid (fun W hW => ⟨by rw [cell_of_block (HQ.out W hW)]; rfl, by rw [cell_of_block (HQ.out W hW)]; rfl, by rw [cell_of_block (HQ.out W hW)]; rfl, by rw [cell_of_block (HQ.out W hW)]; rfl, by rw [cell_of_block (HQ.out W hW)]; rfl, by rw [cell_of_block (HQ.out W hW)]; rfl, by have := hW.size; omega⟩)
  have huHR := Tryz.underlying112
  have HSHR : Hid ((Tryz.prog.info? 112).map (·.size) = some 8) := Lib.hid (by kernel_rfl)
  have HCHR : Hid (∀ W, Below W0.heap.size W0 W → W.cell? ⟨w.heap.size + 2, 0, none⟩ = some (.string ⟨#[]⟩) ∧ W.cell? ⟨w.heap.size + 2, 1, none⟩ = some (.string ⟨#[]⟩) ∧ W.cell? ⟨w.heap.size + 2, 2, none⟩ = some (.string ⟨#[]⟩) ∧ W.cell? ⟨w.heap.size + 2, 3, none⟩ = some (.int .i64 0) ∧ W.cell? ⟨w.heap.size + 2, 4, none⟩ = some (.string ⟨#[]⟩) ∧ W.cell? ⟨w.heap.size + 2, 5, none⟩ = some (.int .i64 0) ∧ W.cell? ⟨w.heap.size + 2, 6, none⟩ = some (.int .i64 0) ∧ W.cell? ⟨w.heap.size + 2, 7, none⟩ = some (.int .i64 0) ∧ w.heap.size + 2 < W.heap.size) := Lib.hid (fun W hW => ⟨by rw [cell_of_block (HR.out W hW)]; rfl, by rw [cell_of_block (HR.out W hW)]; rfl, by rw [cell_of_block (HR.out W hW)]; rfl, by rw [cell_of_block (HR.out W hW)]; rfl, by rw [cell_of_block (HR.out W hW)]; rfl, by rw [cell_of_block (HR.out W hW)]; rfl, by rw [cell_of_block (HR.out W hW)]; rfl, by rw [cell_of_block (HR.out W hW)]; rfl, by have := hW.size; omega⟩)
  have H0 := Lib.hid (Below.refl W0.heap.size W0)
  clear hb0 hs0 hh
  subst hW0
  go_enter Tryz.func41, Tryz.ntmps41
  obtain ⟨hq0, hq1, hq2, hq3, hq4, hq5, hlthq⟩ := HCHQ.out _ H0.out
  have HFR := Lib.hid hfr
  cases hb : (qs == 1) with
  | false =>
    have kb : (qs == 1) = false := hb
    have kb2 : (qs != 1) = true := by simp [bne, hb]
    have HFb := Lib.hid hb
    clear hb
    have HE : Hid (r = false) := Lib.hid (by rw [HA.out, HFb.out]; simp)
    go_wp2_with (first
      | (refine wpList_store_row rfl 112 (.tmp 4) (.tmp 22) rfl (w.heap.size + 2) #[.string ⟨#[]⟩, .string ⟨#[]⟩, .string ⟨#[]⟩, .int .i64 0, .string ⟨#[]⟩, .int .i64 0, .int .i64 0, .int .i64 0] rfl rfl _ _ (HR.out _ H0.out) (HS8.out _ _ _ _ _ _ _ _) rfl (H1R.out _ _ _ _ _ _ _ _) ?_)
      | fail)
    exact bodyPost_ret (results_row_tmp rfl _ _ (w.heap.size + 2) _ _ _ _ rfl (setRow_heap _ _ _ _ _ _ (HR.out _ H0.out)) huHR rfl (HS8.out _ _ _ _ _ _ _ _)) rfl ⟨by rw [HX.out, HE.out]; rfl, setRow_below (HBW.out _ H0.out).1 (by omega) _⟩
  | true =>
    have kb : (qs == 1) = true := hb
    have kb2 : (qs != 1) = false := by simp [bne, hb]
    have HFb := Lib.hid hb
    clear hb
    by_cases hf0 : 0 < fr
    · skip
      have hf1 : ¬ fr ≤ 0 := by omega
      have hf2 : decide (fr ≤ 0) = false := by simpa using hf0
      have HFf : Hid (decide (0 < fr) = true) := Lib.hid (by simpa using hf0)
      clear hf0
      go_wp2_with (first
        | (refine wpList_load_row rfl 37 (.tmp 2) rfl w.heap.size rfl _ _ _ _ (HH.out _ H0.out) huh rfl (HSH.out _) ?_)
        | fail)
      refine (CB.out _ (HBW.out _ H0.out).1).mono ?_
      rintro e w1 ⟨rfl, hb1⟩
      have H1 := Lib.hid (H0.out.trans (hb1.mono H0.out.size))
      clear hb1
      clear hq0 hq1 hq2 hq3 hq4 hq5 hlthq
      clear kb kb2 hf1 hf2 hfr
      obtain ⟨w2, hw2⟩ : ∃ W, W = w1.alloc (.cells #[.string yc, .string yz, .int .i64 kd, .int .i64 ai, .int .i64 pl, .int .i64 vo, .int .i64 we, .bool fz] 77) := ⟨_, rfl⟩
      have H2 : Hid (Below _ _ w2) := Lib.hid (by rw [hw2]; exact H1.out.alloc H1.out.size _)
      have HB2 : Hid (w2.heap[w1.heap.size]? = some (.cells #[.string yc, .string yz, .int .i64 kd, .int .i64 ai, .int .i64 pl, .int .i64 vo, .int .i64 we, .bool fz] 77 (0, 0))) := Lib.hid (by rw [hw2]; exact heap_alloc_new _ _)
      have HW2 := Lib.hid hw2
      clear hw2
      go_upto_region 5 with fail
      rw [← HW2.out]
      have hb := HB2.out
      have b2 : w2.cell? ⟨w1.heap.size, 2, none⟩ = some (.int .i64 kd) := by rw [cell_of_block hb]; rfl
      have b7 : w2.cell? ⟨w1.heap.size, 7, none⟩ = some (.bool fz) := by rw [cell_of_block hb]; rfl
      have blt := lt_of_block hb
      clear hb
      cases ib with
      | false =>
        have HE : Hid (r = false) := Lib.hid (by rw [HA.out, HFb.out, HFf.out]; simp)
        go_wp2_with (first
          | (refine wpList_store_row rfl 112 (.tmp 4) (.tmp 42) rfl (w.heap.size + 2) #[.string ⟨#[]⟩, .string ⟨#[]⟩, .string ⟨#[]⟩, .int .i64 0, .string ⟨#[]⟩, .int .i64 0, .int .i64 0, .int .i64 0] rfl rfl _ _ (HR.out _ H2.out) (HS8.out _ _ _ _ _ _ _ _) rfl (H1R.out _ _ _ _ _ _ _ _) ?_)
          | fail)
        exact bodyPost_ret (results_row_tmp rfl _ _ (w.heap.size + 2) _ _ _ _ rfl (setRow_heap _ _ _ _ _ _ (HR.out _ H2.out)) huHR rfl (HS8.out _ _ _ _ _ _ _ _)) rfl ⟨by rw [HX.out, HE.out]; rfl, setRow_below (HBW.out _ H2.out).1 (by omega) _⟩
      | true =>
        cases hd : (kd == 1) with
        | false =>
          have kd1 : (kd == 1) = false := hd
          have kd2 : (kd != 1) = true := by simp [bne, hd]
          have HFd := Lib.hid hd
          clear hd
          have HE : Hid (r = false) := Lib.hid (by rw [HA.out, HFb.out, HFf.out, HFd.out]; simp)
          go_wp2_with (first
            | (refine wpList_store_row rfl 112 (.tmp 4) (.tmp 42) rfl (w.heap.size + 2) #[.string ⟨#[]⟩, .string ⟨#[]⟩, .string ⟨#[]⟩, .int .i64 0, .string ⟨#[]⟩, .int .i64 0, .int .i64 0, .int .i64 0] rfl rfl _ _ (HR.out _ H2.out) (HS8.out _ _ _ _ _ _ _ _) rfl (H1R.out _ _ _ _ _ _ _ _) ?_)
            | fail)
          exact bodyPost_ret (results_row_tmp rfl _ _ (w.heap.size + 2) _ _ _ _ rfl (setRow_heap _ _ _ _ _ _ (HR.out _ H2.out)) huHR rfl (HS8.out _ _ _ _ _ _ _ _)) rfl ⟨by rw [HX.out, HE.out]; rfl, setRow_below (HBW.out _ H2.out).1 (by omega) _⟩
        | true =>
          have kd1 : (kd == 1) = true := hd
          have kd2 : (kd != 1) = false := by simp [bne, hd]
          have HFd := Lib.hid hd
          clear hd
          cases fz with
          | true =>
            have HE : Hid (r = false) := Lib.hid (by rw [HA.out, HFb.out, HFf.out, HFd.out]; simp)
            go_wp2_with (first
              | (refine wpList_store_row rfl 112 (.tmp 4) (.tmp 42) rfl (w.heap.size + 2) #[.string ⟨#[]⟩, .string ⟨#[]⟩, .string ⟨#[]⟩, .int .i64 0, .string ⟨#[]⟩, .int .i64 0, .int .i64 0, .int .i64 0] rfl rfl _ _ (HR.out _ H2.out) (HS8.out _ _ _ _ _ _ _ _) rfl (H1R.out _ _ _ _ _ _ _ _) ?_)
              | fail)
            exact bodyPost_ret (results_row_tmp rfl _ _ (w.heap.size + 2) _ _ _ _ rfl (setRow_heap _ _ _ _ _ _ (HR.out _ H2.out)) huHR rfl (HS8.out _ _ _ _ _ _ _ _)) rfl ⟨by rw [HX.out, HE.out]; rfl, setRow_below (HBW.out _ H2.out).1 (by omega) _⟩
          | false =>
            have HE : Hid (r = true) := Lib.hid (by rw [HA.out, HFb.out, HFf.out, HFd.out]; rfl)
            go_upto_region 7 with fail
            clear b2 b7 blt kd1 kd2
            obtain ⟨w3, hw3⟩ : ∃ W, W = w2 := ⟨_, rfl⟩
            clear hw3 w3
            have HST : Hid (∀ W, Below w2.heap.size w2 W → W.rangeAt w.heap.size 0 h.cells.toList ∧ W.rangeAt (w.heap.size + 1) 0 [.string qb, .string qi, .string ql, .int .i64 qs, .int .i64 qq, .int .i64 qh] ∧ W.cell? ⟨w.heap.size + 1, 0, none⟩ = some (.string qb) ∧ W.cell? ⟨w.heap.size + 1, 1, none⟩ = some (.string qi) ∧ W.cell? ⟨w.heap.size + 1, 2, none⟩ = some (.string ql)) := Lib.hid (fun W hW => ⟨range_row0 (HH.out _ (H2.out.trans (hW.mono H2.out.size))), range_row0 (HQ.out _ (H2.out.trans (hW.mono H2.out.size))), (by rw [cell_of_block (HQ.out _ (H2.out.trans (hW.mono H2.out.size)))]; rfl), (by rw [cell_of_block (HQ.out _ (H2.out.trans (hW.mono H2.out.size)))]; rfl), (by rw [cell_of_block (HQ.out _ (H2.out.trans (hW.mono H2.out.size)))]; rfl)⟩)
            have BN0 := Lib.hid (Below.refl w2.heap.size w2).drew
            refine lastN_region (S := (fun w' => w'.rangeAt w.heap.size 0 h.cells.toList ∧ w'.rangeAt (w.heap.size + 1) 0 [.string qb, .string qi, .string ql, .int .i64 qs, .int .i64 qq, .int .i64 qh] ∧ w'.cell? ⟨w.heap.size + 1, 0, none⟩ = some (.string qb) ∧ w'.cell? ⟨w.heap.size + 1, 1, none⟩ = some (.string qi) ∧ w'.cell? ⟨w.heap.size + 1, 2, none⟩ = some (.string ql))) (n := 17) (by kernel_rfl) ?_
            refine LastN.pure (i := 0) (v := .pointer (some ⟨w.heap.size + 1, 0, none⟩)) rfl (by kernel_rfl) (by kernel_rfl) (by kernel_rfl) (by decide) (fun _ _ _ h => h.elim) (.inl ⟨by kernel_rfl, fun w hw => by clear hw; go_simp⟩) (fun _ => HST.out _ BN0.out) ?_
            (try simp only [Act.put, List.getElem_toArray, List.getElem_cons_zero, List.setIfInBounds_toArray, List.set_cons_zero, List.set_cons_succ])
            refine LastN.take (i := 1) (v := .agg #[.string qb, .string qi, .string ql, .int .i64 qs]) rfl (by kernel_rfl) (by kernel_rfl) (by kernel_rfl) (by kernel_rfl) (by kernel_rfl) (by decide) (fun _ _ _ h => h.elim) (yieldsIf_load_mid (by kernel_rfl) 56 (.tmp 43) rfl (w.heap.size + 1) 0 rfl [.string qb, .string qi, .string ql, .int .i64 qs] _ (fun w h => range_four h.2.1) huK rfl HK4.out) (HST.out _ BN0.out) ?_
            (try simp only [Act.put, List.getElem_toArray, List.getElem_cons_succ, List.getElem_cons_zero, List.setIfInBounds_toArray, List.set_cons_zero, List.set_cons_succ])
            refine LastN.take (i := 2) (v := .agg h.cells) rfl (by kernel_rfl) (by kernel_rfl) (by kernel_rfl) (by kernel_rfl) (by kernel_rfl) (by decide) (fun _ _ _ h => h.elim) (yieldsIf_load_mid (by kernel_rfl) 37 (.tmp 2) rfl w.heap.size 0 rfl h.cells.toList _ (fun w h => h.1) huh rfl (HSHL.out _)) (HST.out _ BN0.out) ?_
            (try simp only [Act.put, List.getElem_toArray, List.getElem_cons_succ, List.getElem_cons_zero, List.setIfInBounds_toArray, List.set_cons_zero, List.set_cons_succ])
            refine LastN.pure (i := 3) (v := .pointer (some ⟨w.heap.size + 1, 0, none⟩)) rfl (by kernel_rfl) (by kernel_rfl) (by kernel_rfl) (by decide) (fun _ _ _ h => h.elim) (.inl ⟨by kernel_rfl, fun w hw => by clear hw; go_simp⟩) (fun _ => HST.out _ BN0.out) ?_
            (try simp only [Act.put, List.getElem_toArray, List.getElem_cons_succ, List.getElem_cons_zero, List.setIfInBounds_toArray, List.set_cons_zero, List.set_cons_succ])
            refine LastN.pure (i := 4) (v := .pointer (some ⟨w.heap.size + 1, 0, none⟩)) rfl (by kernel_rfl) (by kernel_rfl) (by kernel_rfl) (by decide) (fun _ _ _ h => h.elim) (.inl ⟨by kernel_rfl, fun w hw => by clear hw; go_simp⟩) (fun _ => HST.out _ BN0.out) ?_
            (try simp only [Act.put, List.getElem_toArray, List.getElem_cons_succ, List.getElem_cons_zero, List.setIfInBounds_toArray, List.set_cons_zero, List.set_cons_succ])
            refine LastN.take (i := 5) (v := .string qb) rfl (by kernel_rfl) (by kernel_rfl) (by kernel_rfl) (by kernel_rfl) (by kernel_rfl) (by decide) (fun _ _ _ h => h.elim) (.inl ⟨by kernel_rfl, fun w h => by have hw := h.2.2.1; clear h; go_simp⟩) (HST.out _ BN0.out) ?_
            (try simp only [Act.put, List.getElem_toArray, List.getElem_cons_succ, List.getElem_cons_zero, List.setIfInBounds_toArray, List.set_cons_zero, List.set_cons_succ])
            refine LastN.take (i := 7) (v := .agg h.cells) rfl (by kernel_rfl) (by kernel_rfl) (by kernel_rfl) (by kernel_rfl) (by kernel_rfl) (by decide) (fun _ _ _ h => h.elim) (yieldsIf_load_mid (by kernel_rfl) 37 (.tmp 2) rfl w.heap.size 0 rfl h.cells.toList _ (fun w h => h.1) huh rfl (HSHL.out _)) (HST.out _ BN0.out) ?_
            (try simp only [Act.put, List.getElem_toArray, List.getElem_cons_succ, List.getElem_cons_zero, List.setIfInBounds_toArray, List.set_cons_zero, List.set_cons_succ])
            refine LastN.pure (i := 8) (v := .pointer (some ⟨w.heap.size + 1, 0, none⟩)) rfl (by kernel_rfl) (by kernel_rfl) (by kernel_rfl) (by decide) (fun _ _ _ h => h.elim) (.inl ⟨by kernel_rfl, fun w hw => by clear hw; go_simp⟩) (fun _ => HST.out _ BN0.out) ?_
            (try simp only [Act.put, List.getElem_toArray, List.getElem_cons_succ, List.getElem_cons_zero, List.setIfInBounds_toArray, List.set_cons_zero, List.set_cons_succ])
            refine LastN.pure (i := 9) (v := .pointer (some ⟨w.heap.size + 1, 1, none⟩)) rfl (by kernel_rfl) (by kernel_rfl) (by kernel_rfl) (by decide) (fun _ _ _ h => h.elim) (.inl ⟨by kernel_rfl, fun w hw => by clear hw; go_simp⟩) (fun _ => HST.out _ BN0.out) ?_
            (try simp only [Act.put, List.getElem_toArray, List.getElem_cons_succ, List.getElem_cons_zero, List.setIfInBounds_toArray, List.set_cons_zero, List.set_cons_succ])
            refine LastN.take (i := 10) (v := .string qi) rfl (by kernel_rfl) (by kernel_rfl) (by kernel_rfl) (by kernel_rfl) (by kernel_rfl) (by decide) (fun _ _ _ h => h.elim) (.inl ⟨by kernel_rfl, fun w h => by have hw := h.2.2.2.1; clear h; go_simp⟩) (HST.out _ BN0.out) ?_
            (try simp only [Act.put, List.getElem_toArray, List.getElem_cons_succ, List.getElem_cons_zero, List.setIfInBounds_toArray, List.set_cons_zero, List.set_cons_succ])
            refine LastN.pure (i := 11) (v := .pointer (some ⟨w.heap.size + 1, 0, none⟩)) rfl (by kernel_rfl) (by kernel_rfl) (by kernel_rfl) (by decide) (fun _ _ _ h => h.elim) (.inl ⟨by kernel_rfl, fun w hw => by clear hw; go_simp⟩) (fun _ => HST.out _ BN0.out) ?_
            (try simp only [Act.put, List.getElem_toArray, List.getElem_cons_succ, List.getElem_cons_zero, List.setIfInBounds_toArray, List.set_cons_zero, List.set_cons_succ])
            refine LastN.pure (i := 12) (v := .pointer (some ⟨w.heap.size + 1, 2, none⟩)) rfl (by kernel_rfl) (by kernel_rfl) (by kernel_rfl) (by decide) (fun _ _ _ h => h.elim) (.inl ⟨by kernel_rfl, fun w hw => by clear hw; go_simp⟩) (fun _ => HST.out _ BN0.out) ?_
            (try simp only [Act.put, List.getElem_toArray, List.getElem_cons_succ, List.getElem_cons_zero, List.setIfInBounds_toArray, List.set_cons_zero, List.set_cons_succ])
            refine LastN.take (i := 13) (v := .string ql) rfl (by kernel_rfl) (by kernel_rfl) (by kernel_rfl) (by kernel_rfl) (by kernel_rfl) (by decide) (fun _ _ _ h => h.elim) (.inl ⟨by kernel_rfl, fun w h => by have hw := h.2.2.2.2; clear h; go_simp⟩) (HST.out _ BN0.out) ?_
            (try simp only [Act.put, List.getElem_toArray, List.getElem_cons_succ, List.getElem_cons_zero, List.setIfInBounds_toArray, List.set_cons_zero, List.set_cons_succ])
            refine LastN.pure (i := 15) (v := .int .i64 fr) rfl (by kernel_rfl) (by kernel_rfl) (by kernel_rfl) (by decide) (fun _ _ _ h => h.elim) (.inl ⟨by kernel_rfl, fun w hw => by clear hw; go_simp⟩) (fun _ => HST.out _ BN0.out) ?_
            (try simp only [Act.put, List.getElem_toArray, List.getElem_cons_succ, List.getElem_cons_zero, List.setIfInBounds_toArray, List.set_cons_zero, List.set_cons_succ])
            refine LastN.one (i := 6) (by kernel_rfl) rfl (fun K hK => ?_)
            go_simp
            refine (CS.out _ (HBW.out _ (H2.out.trans ((BN0.out).mono H2.out.size))).1).mono ?_
            rintro e w7 ⟨rfl, hbn⟩
            have BN7 := Lib.hid (BN0.out.trans (hbn.mono BN0.out.size))
            clear hbn
            refine hK.out _ _ (fun _ _ => HST.out _ BN7.out) (fun _ => ?_)
            clear hK K
            (try simp only [Act.put, List.getElem_toArray, List.getElem_cons_succ, List.getElem_cons_zero, List.setIfInBounds_toArray, List.set_cons_zero, List.set_cons_succ])
            refine LastN.one (i := 14) (by kernel_rfl) rfl (fun K hK => ?_)
            go_simp
            refine (CD.out _ (HBW.out _ (H2.out.trans ((BN7.out).mono H2.out.size))).1).mono ?_
            rintro e w8 ⟨rfl, hbn⟩
            have BN8 := Lib.hid (BN7.out.trans (hbn.mono BN7.out.size))
            have H8 := Lib.hid (H2.out.trans ((BN7.out.trans (hbn.mono BN7.out.size)).mono H2.out.size))
            clear hbn
            refine hK.out _ _ (fun _ _ => HST.out _ BN8.out) (fun _ => ?_)
            clear hK K
            (try simp only [Act.put, List.getElem_toArray, List.getElem_cons_succ, List.getElem_cons_zero, List.setIfInBounds_toArray, List.set_cons_zero, List.set_cons_succ])
            refine LastN.pure (i := 16) (v := .agg #[.string qb, .string qi, .string ql, .int .i64 qs, .string st, .int .i64 dz, .int .i64 0, .int .i64 fr]) rfl (by kernel_rfl) (by kernel_rfl) (by kernel_rfl) (by decide) (fun _ _ _ h => h.elim) (.inl ⟨by kernel_rfl, fun w hw => by clear hw; go_simp⟩) (fun _ => HST.out _ BN8.out) ?_
            (try simp only [Act.put, List.getElem_toArray, List.getElem_cons_succ, List.getElem_cons_zero, List.setIfInBounds_toArray, List.set_cons_zero, List.set_cons_succ])
            refine LastN.one (i := 17) (by kernel_rfl) rfl (fun K hK => ?_)
            rw [if_pos (by kernel_rfl)]
            refine wp_store_row 112 (.tmp 4) (.tmp 59) rfl (w.heap.size + 2) #[.string qb, .string qi, .string ql, .int .i64 qs, .string st, .int .i64 dz, .int .i64 0, .int .i64 fr] rfl rfl _ _ (HR.out _ H8.out) (HS8.out _ _ _ _ _ _ _ _) rfl (H1R.out _ _ _ _ _ _ _ _) ?_
            skip
            refine hK.out _ _ (fun _ h => absurd rfl h) (fun _ => ?_)
            clear hK K
            (try simp only [Act.put, List.getElem_toArray, List.getElem_cons_succ, List.getElem_cons_zero])
            refine LastN.one (i := 18) (by kernel_rfl) rfl (fun K hK => ?_)
            go_simp
            refine hK.out _ _ (fun h => absurd h (by decide)) (fun _ => ?_)
            clear hK K
            (try simp only [Act.put, List.getElem_toArray, List.getElem_cons_succ, List.getElem_cons_zero, List.setIfInBounds_toArray, List.set_cons_zero, List.set_cons_succ])
            refine LastN.done (by kernel_rfl) ?_ _
            refine NoPanic.normal ?_
            clear HST
            go_wp2_with fail
            exact bodyPost_ret (results_row_tmp rfl _ _ (w.heap.size + 2) _ _ _ _ rfl (setRow_heap _ _ _ _ _ _ (HR.out _ H8.out)) huHR rfl (HS8.out _ _ _ _ _ _ _ _)) rfl ⟨by rw [HX.out, HE.out]; rfl, setRow_below (HBW.out _ H8.out).1 (by omega) _⟩
    · skip
      have hf1 : fr ≤ 0 := by omega
      have hf2 : decide (fr ≤ 0) = true := by simpa using hf1
      have HFf : Hid (decide (0 < fr) = false) := Lib.hid (by simpa using hf1)
      clear hf0
      have HE : Hid (r = false) := Lib.hid (by rw [HA.out, HFb.out, HFf.out]; simp)
      go_wp2_with (first
        | (refine wpList_store_row rfl 112 (.tmp 4) (.tmp 22) rfl (w.heap.size + 2) #[.string ⟨#[]⟩, .string ⟨#[]⟩, .string ⟨#[]⟩, .int .i64 0, .string ⟨#[]⟩, .int .i64 0, .int .i64 0, .int .i64 0] rfl rfl _ _ (HR.out _ H0.out) (HS8.out _ _ _ _ _ _ _ _) rfl (H1R.out _ _ _ _ _ _ _ _) ?_)
        | fail)
      exact bodyPost_ret (results_row_tmp rfl _ _ (w.heap.size + 2) _ _ _ _ rfl (setRow_heap _ _ _ _ _ _ (HR.out _ H0.out)) huHR rfl (HS8.out _ _ _ _ _ _ _ _)) rfl ⟨by rw [HX.out, HE.out]; rfl, setRow_below (HBW.out _ H0.out).1 (by omega) _⟩
end Go.Proofs.YtnkhnbpopdmkhaaGreat
