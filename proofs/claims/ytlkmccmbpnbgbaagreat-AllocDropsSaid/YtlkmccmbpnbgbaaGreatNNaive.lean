/-
 CONTRACT of the code's eligible. (By wip/tools/gen_ncode.py.)
 CONTRACT of the code's stands. (By wip/tools/gen_ncode.py.)
 CONTRACT of the code's takes. (By wip/tools/gen_ncode.py.)
 CONTRACTS of cmp.Compare, of the code's inOrder. (By wip/tools/gen_ncode.py.)
 CONTRACTS of the code's Naive and Open. (By wip/tools/gen_ncode.py.)
 (By wip/tools/merge.py.)
-/
import Derived.Test.YtlkmccmbpnbgbaaGreatNPl
import Derived.Test.YtlkmccmbpnbgbaaGreatKL
import Derived.Test.YtlkmccmbpnbgbaaGreatHLastN
import Derived.Test.YtlkmccmbpnbgbaaGreatJHead
import Derived.BigQuiet
import Derived.Deep.CutRange
import Derived.Test.YtlkmccmbpnbgbaaGreatWRefA
import Derived.Test.YtlkmccmbpnbgbaaGreatHAppK
import Derived.Test.YtlkmccmbpnbgbaaGreatWTk
import Derived.Lib.MinMax
import Derived.Test.YtlkmccmbpnbgbaaGreatVWords
import Derived.Test.YtlkmccmbpnbgbaaGreatGT
import Derived.Deep.RegionHeld3
import Derived.Test.YtlkmccmbpnbgbaaGreatVSta
namespace Go.Proofs.YtlkmccmbpnbgbaaGreat
set_option linter.unusedVariables false
open Go.RowKit
open Pl (firstG findG putG It firstG_none firstG_some)

theorem range_four {w : World} {b : Nat} {x0 x1 x2 x3 x4 x5 : Value} (h : w.rangeAt b 0 [x0, x1, x2, x3, x4, x5]) : w.rangeAt b 0 [x0, x1, x2, x3] := fun j u hj => by
 refine h j u ?_
 match j, hj with
 | 0, hj => exact hj
 | 1, hj => exact hj
 | 2, hj => exact hj
 | 3, hj => exact hj
 | j + 4, hj => simp at hj
/-- What the code's eligible hands back. -/
def elE (LL LZ LB : List (List Value)) (e : List Value) : List Value := if elB LZ LB e = true then stE LL LZ LB e 0 else zSd.cells
set_option maxRecDepth 100000 in
set_option maxHeartbeats 3200000 in
theorem celig (h : Hs) (L : Nat → List (List Value)) (qb qi ql : ByteArray) (qs qq qh : Int) (w : World) (hh : HT h L w) :
 Calls Tryz.prog 132 #[.agg h.cells, .agg #[.string qb, .string qi, .string ql, .int .i64 qs, .int .i64 qq, .int .i64 qh]] w fun e w' => e = .returned (.tuple #[.agg (elE (L 1) (L 2) (L 3) [.string qb, .string qi, .string ql, .int .i64 qs, .int .i64 qq, .int .i64 qh]).toArray, .bool (elB (L 2) (L 3) [.string qb, .string qi, .string ql, .int .i64 qs, .int .i64 qq, .int .i64 qh])]) ∧ Below w.heap.size w w' := by
 obtain ⟨⟨yc, yz, kd, ai, pl, vo, we, fz⟩, hy, hyb⟩ := bin_eight hh qb
 unfold Bn.cells at hy
 obtain ⟨ib, hib⟩ : ∃ z, (atBin (L 3) qb).isSome = z := ⟨_, rfl⟩
 obtain ⟨st, hst⟩ : ∃ z, siteT (L 2) (L 3) qb = z := ⟨_, rfl⟩
 obtain ⟨dz, hdz⟩ : ∃ z, dayZ (L 1) qi ql = z := ⟨_, rfl⟩
 obtain ⟨fr, hfr⟩ : ∃ z, wrap64 (qq - qh) = z := ⟨_, rfl⟩
 obtain ⟨r, hr⟩ : ∃ r, elB (L 2) (L 3) [.string qb, .string qi, .string ql, .int .i64 qs, .int .i64 qq, .int .i64 qh] = r := ⟨_, rfl⟩
 obtain ⟨X, hX⟩ : ∃ X, elE (L 1) (L 2) (L 3) [.string qb, .string qi, .string ql, .int .i64 qs, .int .i64 qq, .int .i64 qh] = X := ⟨_, rfl⟩
 have HA : Hid (r = ((qs == 1) && (decide (0 < fr) && (ib && ((kd == 1) && !fz))))) := Lib.hid (by
  have h1 : elB (L 2) (L 3) [.string qb, .string qi, .string ql, .int .i64 qs, .int .i64 qq, .int .i64 qh] = ((qs == 1) && (decide (0 < wrap64 (qq - qh)) && ((atBin (L 3) qb).isSome && (((bnOf (gotBin (L 3) qb)).kind == 1) && !(bnOf (gotBin (L 3) qb)).frz)))) := rfl
  rw [← hr, h1, hib, hyb, hfr])
 have HX : Hid (X = if r = true then [.string qb, .string qi, .string ql, .int .i64 qs, .string st, .int .i64 dz, .int .i64 0, .int .i64 fr] else [.string ⟨#[]⟩, .string ⟨#[]⟩, .string ⟨#[]⟩, .int .i64 0, .string ⟨#[]⟩, .int .i64 0, .int .i64 0, .int .i64 0]) := Lib.hid (by
  rw [← hX, ← hr, ← hst, ← hdz, ← hfr]
  rfl)
 have CB : Hid (∀ W, Below w.heap.size w W → Calls Tryz.prog 151 #[.agg h.cells, .string qb] W fun e w' => e = .returned (.tuple #[.agg #[.string yc, .string yz, .int .i64 kd, .int .i64 ai, .int .i64 pl, .int .i64 vo, .int .i64 we, .bool fz], .bool ib]) ∧ Below W.heap.size W w') := Lib.hid (fun W hW => by have := fcBin (hh.below hW) qb; rw [hy, hib] at this; exact this)
 have CS : Hid (∀ W, Below w.heap.size w W → Calls Tryz.prog 152 #[.agg h.cells, .string qb] W fun e w' => e = .returned (.string st) ∧ Below W.heap.size W w') := Lib.hid (fun W hW => by have := csite_any h L qb W (hh.below hW); rwa [hst] at this)
 have CD : Hid (∀ W, Below w.heap.size w W → Calls Tryz.prog 153 #[.agg h.cells, .string qi, .string ql] W fun e w' => e = .returned (.int .i64 dz) ∧ Below W.heap.size W w') := Lib.hid (fun W hW => by have := cday_any h L qi ql W (hh.below hW); rwa [hdz] at this)
 rw [hr, hX]
 clear hr hX hib hst hdz hy hyb
 have HSHL : Hid (∀ a : Hs, (Tryz.prog.info? 37).map (·.size) = some a.cells.toList.length) := Lib.hid (fun a => by kernel_rfl)
 have HK4 : Hid ((Tryz.prog.info? 44).map (·.size) = some 4) := Lib.hid (by kernel_rfl)
 have huK := Tryz.underlying44
 have H1R : Hid (∀ (a b c g : ByteArray) (d e f i : Int), (#[.string a, .string b, .string c, .int .i64 d, .string g, .int .i64 e, .int .i64 f, .int .i64 i] : Array Value).all (·.oneCell') = true) := Lib.hid (fun _ _ _ _ _ _ _ _ => by simp [Value.oneCell'])
 have HS8 : Hid (∀ (a b c g : ByteArray) (d e f i : Int), (Tryz.prog.info? 159).map (·.size) = some (#[.string a, .string b, .string c, .int .i64 d, .string g, .int .i64 e, .int .i64 f, .int .i64 i] : Array Value).size) := Lib.hid (fun _ _ _ _ _ _ _ _ => by kernel_rfl)
 obtain ⟨W0, hW0⟩ : ∃ W0, W0 = (((w.alloc (.cells h.cells 37)).alloc (.cells #[.string qb, .string qi, .string ql, .int .i64 qs, .int .i64 qq, .int .i64 qh] 62)).alloc (.cells #[.string ⟨#[]⟩, .string ⟨#[]⟩, .string ⟨#[]⟩, .int .i64 0, .string ⟨#[]⟩, .int .i64 0, .int .i64 0, .int .i64 0] 159)) := ⟨_, rfl⟩
 have hb0 : Below w.heap.size w W0 := by rw [hW0]; exact (((Below.refl _ _).alloc (Nat.le_refl _) _).alloc (by simp <;> omega) _).alloc (by simp <;> omega) _
 have hs0 : W0.heap.size = w.heap.size + 3 := by rw [hW0]; simp
 have HH : Hid (∀ W, Below W0.heap.size W0 W → W.heap[w.heap.size]? = some (.cells h.cells 37 (0, 0))) := Lib.hid (fun W hW => (hW.block _ (by omega)).trans (by
  rw [hW0]
  have hq := heap_alloc_new w (.cells h.cells 37)
  exact (Below.heap_alloc _ _ _ (by simp <;> omega)).trans ((Below.heap_alloc _ _ _ (by simp <;> omega)).trans ((by simpa using hq)))))
 have HQ : Hid (∀ W, Below W0.heap.size W0 W → W.heap[w.heap.size + 1]? = some (.cells #[.string qb, .string qi, .string ql, .int .i64 qs, .int .i64 qq, .int .i64 qh] 62 (0, 0))) := Lib.hid (fun W hW => (hW.block _ (by omega)).trans (by
  rw [hW0]
  have hq := heap_alloc_new (w.alloc (.cells h.cells 37)) (.cells #[.string qb, .string qi, .string ql, .int .i64 qs, .int .i64 qq, .int .i64 qh] 62)
  exact (Below.heap_alloc _ _ _ (by simp <;> omega)).trans ((by simpa using hq))))
 have HR : Hid (∀ W, Below W0.heap.size W0 W → W.heap[w.heap.size + 2]? = some (.cells #[.string ⟨#[]⟩, .string ⟨#[]⟩, .string ⟨#[]⟩, .int .i64 0, .string ⟨#[]⟩, .int .i64 0, .int .i64 0, .int .i64 0] 159 (0, 0))) := Lib.hid (fun W hW => (hW.block _ (by omega)).trans (by
  rw [hW0]
  have hq := heap_alloc_new ((w.alloc (.cells h.cells 37)).alloc (.cells #[.string qb, .string qi, .string ql, .int .i64 qs, .int .i64 qq, .int .i64 qh] 62)) (.cells #[.string ⟨#[]⟩, .string ⟨#[]⟩, .string ⟨#[]⟩, .int .i64 0, .string ⟨#[]⟩, .int .i64 0, .int .i64 0, .int .i64 0] 159)
  exact (by simpa using hq)))
 have HBW : Hid (∀ W, Below W0.heap.size W0 W → Below w.heap.size w W ∧ w.heap.size + 3 ≤ W.heap.size) := Lib.hid (fun W hW => ⟨hb0.trans (hW.mono (by omega)), by have := hW.size; omega⟩)
 have huh := Tryz.underlying37
 have HSH : Hid (∀ a : Hs, (Tryz.prog.info? 37).map (·.size) = some a.cells.size) := Lib.hid (fun a => by kernel_rfl)
 have huHQ := Tryz.underlying62
 have HSHQ : Hid ((Tryz.prog.info? 62).map (·.size) = some 6) := Lib.hid (by kernel_rfl)
 have HCHQ : Hid (∀ W, Below W0.heap.size W0 W → W.cell? ⟨w.heap.size + 1, 0, none⟩ = some (.string qb) ∧ W.cell? ⟨w.heap.size + 1, 1, none⟩ = some (.string qi) ∧ W.cell? ⟨w.heap.size + 1, 2, none⟩ = some (.string ql) ∧ W.cell? ⟨w.heap.size + 1, 3, none⟩ = some (.int .i64 qs) ∧ W.cell? ⟨w.heap.size + 1, 4, none⟩ = some (.int .i64 qq) ∧ W.cell? ⟨w.heap.size + 1, 5, none⟩ = some (.int .i64 qh) ∧ w.heap.size + 1 < W.heap.size) := Lib.hid (fun W hW => ⟨by rw [cell_of_block (HQ.out W hW)]; rfl, by rw [cell_of_block (HQ.out W hW)]; rfl, by rw [cell_of_block (HQ.out W hW)]; rfl, by rw [cell_of_block (HQ.out W hW)]; rfl, by rw [cell_of_block (HQ.out W hW)]; rfl, by rw [cell_of_block (HQ.out W hW)]; rfl, by have := hW.size; omega⟩)
 have huHR := Tryz.underlying159
 have HSHR : Hid ((Tryz.prog.info? 159).map (·.size) = some 8) := Lib.hid (by kernel_rfl)
 have HCHR : Hid (∀ W, Below W0.heap.size W0 W → W.cell? ⟨w.heap.size + 2, 0, none⟩ = some (.string ⟨#[]⟩) ∧ W.cell? ⟨w.heap.size + 2, 1, none⟩ = some (.string ⟨#[]⟩) ∧ W.cell? ⟨w.heap.size + 2, 2, none⟩ = some (.string ⟨#[]⟩) ∧ W.cell? ⟨w.heap.size + 2, 3, none⟩ = some (.int .i64 0) ∧ W.cell? ⟨w.heap.size + 2, 4, none⟩ = some (.string ⟨#[]⟩) ∧ W.cell? ⟨w.heap.size + 2, 5, none⟩ = some (.int .i64 0) ∧ W.cell? ⟨w.heap.size + 2, 6, none⟩ = some (.int .i64 0) ∧ W.cell? ⟨w.heap.size + 2, 7, none⟩ = some (.int .i64 0) ∧ w.heap.size + 2 < W.heap.size) := Lib.hid (fun W hW => ⟨by rw [cell_of_block (HR.out W hW)]; rfl, by rw [cell_of_block (HR.out W hW)]; rfl, by rw [cell_of_block (HR.out W hW)]; rfl, by rw [cell_of_block (HR.out W hW)]; rfl, by rw [cell_of_block (HR.out W hW)]; rfl, by rw [cell_of_block (HR.out W hW)]; rfl, by rw [cell_of_block (HR.out W hW)]; rfl, by rw [cell_of_block (HR.out W hW)]; rfl, by have := hW.size; omega⟩)
 have H0 := Lib.hid (Below.refl W0.heap.size W0)
 clear hb0 hs0 hh
 subst hW0
 go_enter Tryz.func132, Tryz.ntmps132
 obtain ⟨hq0, hq1, hq2, hq3, hq4, hq5, hlthq⟩ := HCHQ.out _ H0.out
 have HFR := Lib.hid hfr
 cases hb : (qs == 1) with
 | false =>
  have kb : (qs == 1) = false := hb
  have kb2 : (qs != 1) = true := by simp [bne, hb]
  have HFb := Lib.hid hb
  clear hb
  have HE : Hid (r = false) := Lib.hid (by rw [HA.out, HFb.out]; simp)
  go_wp2_with (first
   | (refine wpList_store_row rfl 159 (.tmp 4) (.tmp 22) rfl (w.heap.size + 2) #[.string ⟨#[]⟩, .string ⟨#[]⟩, .string ⟨#[]⟩, .int .i64 0, .string ⟨#[]⟩, .int .i64 0, .int .i64 0, .int .i64 0] rfl rfl _ _ (HR.out _ H0.out) (HS8.out _ _ _ _ _ _ _ _) rfl (H1R.out _ _ _ _ _ _ _ _) ?_)
   | fail)
  exact bodyPost_ret (results_row_tmp rfl _ _ (w.heap.size + 2) _ _ _ _ rfl (setRow_heap _ _ _ _ _ _ (HR.out _ H0.out)) huHR rfl (HS8.out _ _ _ _ _ _ _ _)) rfl ⟨by rw [HX.out, HE.out]; rfl, setRow_below (HBW.out _ H0.out).1 (by omega) _⟩
 | true =>
  have kb : (qs == 1) = true := hb
  have kb2 : (qs != 1) = false := by simp [bne, hb]
  have HFb := Lib.hid hb
  clear hb
  by_cases hf0 : 0 < fr
  · skip
    have hf1 : ¬ fr ≤ 0 := by omega
    have hf2 : decide (fr ≤ 0) = false := by simpa using hf0
    have HFf : Hid (decide (0 < fr) = true) := Lib.hid (by simpa using hf0)
    clear hf0
    go_wp2_with (first
     | (refine wpList_load_row rfl 37 (.tmp 2) rfl w.heap.size rfl _ _ _ _ (HH.out _ H0.out) huh rfl (HSH.out _) ?_)
     | fail)
    refine (CB.out _ (HBW.out _ H0.out).1).mono ?_
    rintro e w1 ⟨rfl, hb1⟩
    have H1 := Lib.hid (H0.out.trans (hb1.mono H0.out.size))
    clear hb1
    clear hq0 hq1 hq2 hq3 hq4 hq5 hlthq
    clear kb kb2 hf1 hf2 hfr
    obtain ⟨w2, hw2⟩ : ∃ W, W = w1.alloc (.cells #[.string yc, .string yz, .int .i64 kd, .int .i64 ai, .int .i64 pl, .int .i64 vo, .int .i64 we, .bool fz] 79) := ⟨_, rfl⟩
    have H2 : Hid (Below _ _ w2) := Lib.hid (by rw [hw2]; exact H1.out.alloc H1.out.size _)
    have HB2 : Hid (w2.heap[w1.heap.size]? = some (.cells #[.string yc, .string yz, .int .i64 kd, .int .i64 ai, .int .i64 pl, .int .i64 vo, .int .i64 we, .bool fz] 79 (0, 0))) := Lib.hid (by rw [hw2]; exact heap_alloc_new _ _)
    have HW2 := Lib.hid hw2
    clear hw2
    go_upto_region 5 with fail
    rw [← HW2.out]
    have hb := HB2.out
    have b2 : w2.cell? ⟨w1.heap.size, 2, none⟩ = some (.int .i64 kd) := by rw [cell_of_block hb]; rfl
    have b7 : w2.cell? ⟨w1.heap.size, 7, none⟩ = some (.bool fz) := by rw [cell_of_block hb]; rfl
    have blt := lt_of_block hb
    clear hb
    cases ib with
    | false =>
     have HE : Hid (r = false) := Lib.hid (by rw [HA.out, HFb.out, HFf.out]; simp)
     go_wp2_with (first
      | (refine wpList_store_row rfl 159 (.tmp 4) (.tmp 42) rfl (w.heap.size + 2) #[.string ⟨#[]⟩, .string ⟨#[]⟩, .string ⟨#[]⟩, .int .i64 0, .string ⟨#[]⟩, .int .i64 0, .int .i64 0, .int .i64 0] rfl rfl _ _ (HR.out _ H2.out) (HS8.out _ _ _ _ _ _ _ _) rfl (H1R.out _ _ _ _ _ _ _ _) ?_)
      | fail)
     exact bodyPost_ret (results_row_tmp rfl _ _ (w.heap.size + 2) _ _ _ _ rfl (setRow_heap _ _ _ _ _ _ (HR.out _ H2.out)) huHR rfl (HS8.out _ _ _ _ _ _ _ _)) rfl ⟨by rw [HX.out, HE.out]; rfl, setRow_below (HBW.out _ H2.out).1 (by omega) _⟩
    | true =>
     cases hd : (kd == 1) with
     | false =>
      have kd1 : (kd == 1) = false := hd
      have kd2 : (kd != 1) = true := by simp [bne, hd]
      have HFd := Lib.hid hd
      clear hd
      have HE : Hid (r = false) := Lib.hid (by rw [HA.out, HFb.out, HFf.out, HFd.out]; simp)
      go_wp2_with (first
       | (refine wpList_store_row rfl 159 (.tmp 4) (.tmp 42) rfl (w.heap.size + 2) #[.string ⟨#[]⟩, .string ⟨#[]⟩, .string ⟨#[]⟩, .int .i64 0, .string ⟨#[]⟩, .int .i64 0, .int .i64 0, .int .i64 0] rfl rfl _ _ (HR.out _ H2.out) (HS8.out _ _ _ _ _ _ _ _) rfl (H1R.out _ _ _ _ _ _ _ _) ?_)
       | fail)
      exact bodyPost_ret (results_row_tmp rfl _ _ (w.heap.size + 2) _ _ _ _ rfl (setRow_heap _ _ _ _ _ _ (HR.out _ H2.out)) huHR rfl (HS8.out _ _ _ _ _ _ _ _)) rfl ⟨by rw [HX.out, HE.out]; rfl, setRow_below (HBW.out _ H2.out).1 (by omega) _⟩
     | true =>
      have kd1 : (kd == 1) = true := hd
      have kd2 : (kd != 1) = false := by simp [bne, hd]
      have HFd := Lib.hid hd
      clear hd
      cases fz with
      | true =>
       have HE : Hid (r = false) := Lib.hid (by rw [HA.out, HFb.out, HFf.out, HFd.out]; simp)
       go_wp2_with (first
        | (refine wpList_store_row rfl 159 (.tmp 4) (.tmp 42) rfl (w.heap.size + 2) #[.string ⟨#[]⟩, .string ⟨#[]⟩, .string ⟨#[]⟩, .int .i64 0, .string ⟨#[]⟩, .int .i64 0, .int .i64 0, .int .i64 0] rfl rfl _ _ (HR.out _ H2.out) (HS8.out _ _ _ _ _ _ _ _) rfl (H1R.out _ _ _ _ _ _ _ _) ?_)
        | fail)
       exact bodyPost_ret (results_row_tmp rfl _ _ (w.heap.size + 2) _ _ _ _ rfl (setRow_heap _ _ _ _ _ _ (HR.out _ H2.out)) huHR rfl (HS8.out _ _ _ _ _ _ _ _)) rfl ⟨by rw [HX.out, HE.out]; rfl, setRow_below (HBW.out _ H2.out).1 (by omega) _⟩
      | false =>
       have HE : Hid (r = true) := Lib.hid (by rw [HA.out, HFb.out, HFf.out, HFd.out]; rfl)
       go_upto_region 7 with fail
       clear b2 b7 blt kd1 kd2
       obtain ⟨w3, hw3⟩ : ∃ W, W = w2 := ⟨_, rfl⟩
       clear hw3 w3
       have HST : Hid (∀ W, Below w2.heap.size w2 W → W.rangeAt w.heap.size 0 h.cells.toList ∧ W.rangeAt (w.heap.size + 1) 0 [.string qb, .string qi, .string ql, .int .i64 qs, .int .i64 qq, .int .i64 qh] ∧ W.cell? ⟨w.heap.size + 1, 0, none⟩ = some (.string qb) ∧ W.cell? ⟨w.heap.size + 1, 1, none⟩ = some (.string qi) ∧ W.cell? ⟨w.heap.size + 1, 2, none⟩ = some (.string ql)) := Lib.hid (fun W hW => ⟨range_row0 (HH.out _ (H2.out.trans (hW.mono H2.out.size))), range_row0 (HQ.out _ (H2.out.trans (hW.mono H2.out.size))), (by rw [cell_of_block (HQ.out _ (H2.out.trans (hW.mono H2.out.size)))]; rfl), (by rw [cell_of_block (HQ.out _ (H2.out.trans (hW.mono H2.out.size)))]; rfl), (by rw [cell_of_block (HQ.out _ (H2.out.trans (hW.mono H2.out.size)))]; rfl)⟩)
       have BN0 := Lib.hid (Below.refl w2.heap.size w2).drew
       refine lastN_region (S := (fun w' => w'.rangeAt w.heap.size 0 h.cells.toList ∧ w'.rangeAt (w.heap.size + 1) 0 [.string qb, .string qi, .string ql, .int .i64 qs, .int .i64 qq, .int .i64 qh] ∧ w'.cell? ⟨w.heap.size + 1, 0, none⟩ = some (.string qb) ∧ w'.cell? ⟨w.heap.size + 1, 1, none⟩ = some (.string qi) ∧ w'.cell? ⟨w.heap.size + 1, 2, none⟩ = some (.string ql))) (n := 17) (by kernel_rfl) ?_
       refine LastN.pure (i := 0) (v := .pointer (some ⟨w.heap.size + 1, 0, none⟩)) rfl (by kernel_rfl) (by kernel_rfl) (by kernel_rfl) (by decide) (fun _ _ _ h => h.elim) (.inl ⟨by kernel_rfl, fun w hw => by clear hw; go_simp⟩) (fun _ => HST.out _ BN0.out) ?_
       (try simp only [ax])
       refine LastN.take (i := 1) (v := .agg #[.string qb, .string qi, .string ql, .int .i64 qs]) rfl (by kernel_rfl) (by kernel_rfl) (by kernel_rfl) (by kernel_rfl) (by kernel_rfl) (by decide) (fun _ _ _ h => h.elim) (yieldsIf_load_mid (by kernel_rfl) 44 (.tmp 43) rfl (w.heap.size + 1) 0 rfl [.string qb, .string qi, .string ql, .int .i64 qs] _ (fun w h => range_four h.2.1) huK rfl HK4.out) (HST.out _ BN0.out) ?_
       (try simp only [ax])
       refine LastN.take (i := 2) (v := .agg h.cells) rfl (by kernel_rfl) (by kernel_rfl) (by kernel_rfl) (by kernel_rfl) (by kernel_rfl) (by decide) (fun _ _ _ h => h.elim) (yieldsIf_load_mid (by kernel_rfl) 37 (.tmp 2) rfl w.heap.size 0 rfl h.cells.toList _ (fun w h => h.1) huh rfl (HSHL.out _)) (HST.out _ BN0.out) ?_
       (try simp only [ax])
       refine LastN.pure (i := 3) (v := .pointer (some ⟨w.heap.size + 1, 0, none⟩)) rfl (by kernel_rfl) (by kernel_rfl) (by kernel_rfl) (by decide) (fun _ _ _ h => h.elim) (.inl ⟨by kernel_rfl, fun w hw => by clear hw; go_simp⟩) (fun _ => HST.out _ BN0.out) ?_
       (try simp only [ax])
       refine LastN.pure (i := 4) (v := .pointer (some ⟨w.heap.size + 1, 0, none⟩)) rfl (by kernel_rfl) (by kernel_rfl) (by kernel_rfl) (by decide) (fun _ _ _ h => h.elim) (.inl ⟨by kernel_rfl, fun w hw => by clear hw; go_simp⟩) (fun _ => HST.out _ BN0.out) ?_
       (try simp only [ax])
       refine LastN.take (i := 5) (v := .string qb) rfl (by kernel_rfl) (by kernel_rfl) (by kernel_rfl) (by kernel_rfl) (by kernel_rfl) (by decide) (fun _ _ _ h => h.elim) (.inl ⟨by kernel_rfl, fun w h => by have hw := h.2.2.1; clear h; go_simp⟩) (HST.out _ BN0.out) ?_
       (try simp only [ax])
       refine LastN.take (i := 7) (v := .agg h.cells) rfl (by kernel_rfl) (by kernel_rfl) (by kernel_rfl) (by kernel_rfl) (by kernel_rfl) (by decide) (fun _ _ _ h => h.elim) (yieldsIf_load_mid (by kernel_rfl) 37 (.tmp 2) rfl w.heap.size 0 rfl h.cells.toList _ (fun w h => h.1) huh rfl (HSHL.out _)) (HST.out _ BN0.out) ?_
       (try simp only [ax])
       refine LastN.pure (i := 8) (v := .pointer (some ⟨w.heap.size + 1, 0, none⟩)) rfl (by kernel_rfl) (by kernel_rfl) (by kernel_rfl) (by decide) (fun _ _ _ h => h.elim) (.inl ⟨by kernel_rfl, fun w hw => by clear hw; go_simp⟩) (fun _ => HST.out _ BN0.out) ?_
       (try simp only [ax])
       refine LastN.pure (i := 9) (v := .pointer (some ⟨w.heap.size + 1, 1, none⟩)) rfl (by kernel_rfl) (by kernel_rfl) (by kernel_rfl) (by decide) (fun _ _ _ h => h.elim) (.inl ⟨by kernel_rfl, fun w hw => by clear hw; go_simp⟩) (fun _ => HST.out _ BN0.out) ?_
       (try simp only [ax])
       refine LastN.take (i := 10) (v := .string qi) rfl (by kernel_rfl) (by kernel_rfl) (by kernel_rfl) (by kernel_rfl) (by kernel_rfl) (by decide) (fun _ _ _ h => h.elim) (.inl ⟨by kernel_rfl, fun w h => by have hw := h.2.2.2.1; clear h; go_simp⟩) (HST.out _ BN0.out) ?_
       (try simp only [ax])
       refine LastN.pure (i := 11) (v := .pointer (some ⟨w.heap.size + 1, 0, none⟩)) rfl (by kernel_rfl) (by kernel_rfl) (by kernel_rfl) (by decide) (fun _ _ _ h => h.elim) (.inl ⟨by kernel_rfl, fun w hw => by clear hw; go_simp⟩) (fun _ => HST.out _ BN0.out) ?_
       (try simp only [ax])
       refine LastN.pure (i := 12) (v := .pointer (some ⟨w.heap.size + 1, 2, none⟩)) rfl (by kernel_rfl) (by kernel_rfl) (by kernel_rfl) (by decide) (fun _ _ _ h => h.elim) (.inl ⟨by kernel_rfl, fun w hw => by clear hw; go_simp⟩) (fun _ => HST.out _ BN0.out) ?_
       (try simp only [ax])
       refine LastN.take (i := 13) (v := .string ql) rfl (by kernel_rfl) (by kernel_rfl) (by kernel_rfl) (by kernel_rfl) (by kernel_rfl) (by decide) (fun _ _ _ h => h.elim) (.inl ⟨by kernel_rfl, fun w h => by have hw := h.2.2.2.2; clear h; go_simp⟩) (HST.out _ BN0.out) ?_
       (try simp only [ax])
       refine LastN.pure (i := 15) (v := .int .i64 fr) rfl (by kernel_rfl) (by kernel_rfl) (by kernel_rfl) (by decide) (fun _ _ _ h => h.elim) (.inl ⟨by kernel_rfl, fun w hw => by clear hw; go_simp⟩) (fun _ => HST.out _ BN0.out) ?_
       (try simp only [ax])
       refine LastN.one (i := 6) (by kernel_rfl) rfl (fun K hK => ?_)
       go_simp
       refine (CS.out _ (HBW.out _ (H2.out.trans ((BN0.out).mono H2.out.size))).1).mono ?_
       rintro e w7 ⟨rfl, hbn⟩
       have BN7 := Lib.hid (BN0.out.trans (hbn.mono BN0.out.size))
       clear hbn
       refine hK.out _ _ (fun _ _ => HST.out _ BN7.out) (fun _ => ?_)
       clear hK K
       (try simp only [ax])
       refine LastN.one (i := 14) (by kernel_rfl) rfl (fun K hK => ?_)
       go_simp
       refine (CD.out _ (HBW.out _ (H2.out.trans ((BN7.out).mono H2.out.size))).1).mono ?_
       rintro e w8 ⟨rfl, hbn⟩
       have BN8 := Lib.hid (BN7.out.trans (hbn.mono BN7.out.size))
       have H8 := Lib.hid (H2.out.trans ((BN7.out.trans (hbn.mono BN7.out.size)).mono H2.out.size))
       clear hbn
       refine hK.out _ _ (fun _ _ => HST.out _ BN8.out) (fun _ => ?_)
       clear hK K
       (try simp only [ax])
       refine LastN.pure (i := 16) (v := .agg #[.string qb, .string qi, .string ql, .int .i64 qs, .string st, .int .i64 dz, .int .i64 0, .int .i64 fr]) rfl (by kernel_rfl) (by kernel_rfl) (by kernel_rfl) (by decide) (fun _ _ _ h => h.elim) (.inl ⟨by kernel_rfl, fun w hw => by clear hw; go_simp⟩) (fun _ => HST.out _ BN8.out) ?_
       (try simp only [ax])
       refine LastN.one (i := 17) (by kernel_rfl) rfl (fun K hK => ?_)
       rw [if_pos (by kernel_rfl)]
       refine wp_store_row 159 (.tmp 4) (.tmp 59) rfl (w.heap.size + 2) #[.string qb, .string qi, .string ql, .int .i64 qs, .string st, .int .i64 dz, .int .i64 0, .int .i64 fr] rfl rfl _ _ (HR.out _ H8.out) (HS8.out _ _ _ _ _ _ _ _) rfl (H1R.out _ _ _ _ _ _ _ _) ?_
       skip
       refine hK.out _ _ (fun _ h => absurd rfl h) (fun _ => ?_)
       clear hK K
       (try simp only [Act.put, List.getElem_toArray, List.getElem_cons_succ, List.getElem_cons_zero])
       refine LastN.one (i := 18) (by kernel_rfl) rfl (fun K hK => ?_)
       go_simp
       refine hK.out _ _ (fun h => absurd h (by decide)) (fun _ => ?_)
       clear hK K
       (try simp only [ax])
       refine LastN.done (by kernel_rfl) ?_ _
       refine NoPanic.normal ?_
       clear HST
       go_wp2_with fail
       exact bodyPost_ret (results_row_tmp rfl _ _ (w.heap.size + 2) _ _ _ _ rfl (setRow_heap _ _ _ _ _ _ (HR.out _ H8.out)) huHR rfl (HS8.out _ _ _ _ _ _ _ _)) rfl ⟨by rw [HX.out, HE.out]; rfl, setRow_below (HBW.out _ H8.out).1 (by omega) _⟩
  · skip
    have hf1 : fr ≤ 0 := by omega
    have hf2 : decide (fr ≤ 0) = true := by simpa using hf1
    have HFf : Hid (decide (0 < fr) = false) := Lib.hid (by simpa using hf1)
    clear hf0
    have HE : Hid (r = false) := Lib.hid (by rw [HA.out, HFb.out, HFf.out]; simp)
    go_wp2_with (first
     | (refine wpList_store_row rfl 159 (.tmp 4) (.tmp 22) rfl (w.heap.size + 2) #[.string ⟨#[]⟩, .string ⟨#[]⟩, .string ⟨#[]⟩, .int .i64 0, .string ⟨#[]⟩, .int .i64 0, .int .i64 0, .int .i64 0] rfl rfl _ _ (HR.out _ H0.out) (HS8.out _ _ _ _ _ _ _ _) rfl (H1R.out _ _ _ _ _ _ _ _) ?_)
     | fail)
    exact bodyPost_ret (results_row_tmp rfl _ _ (w.heap.size + 2) _ _ _ _ rfl (setRow_heap _ _ _ _ _ _ (HR.out _ H0.out)) huHR rfl (HS8.out _ _ _ _ _ _ _ _)) rfl ⟨by rw [HX.out, HE.out]; rfl, setRow_below (HBW.out _ H0.out).1 (by omega) _⟩
end Go.Proofs.YtlkmccmbpnbgbaaGreat

namespace Go.Proofs.YtlkmccmbpnbgbaaGreat
set_option linter.unusedVariables false
open Go.RowKit
open Pl (firstG findG putG It firstG_none firstG_some)

/-- The call hands back a new list of stands. -/
def FreshS (w : World) (S : List (List Value)) (e : Ending) (w' : World) : Prop :=
 ∃ A n c, n = S.length ∧ e = .returned (.slice A n c) ∧ w'.ownsRow (w.heap.size + 1) 159 8 (.slice A n c) n S.flatten ∧ Below w.heap.size w w' ∧ w.heap.size + 1 ≤ w'.heap.size
def standsK (L : Nat → List (List Value)) (item : ByteArray) (k : Nat) : List (List Value) := (((L 4).take k).filter (fun e => itB item e && elB (L 2) (L 3) e)).map (fun e => stE (L 1) (L 2) (L 3) e 0)
theorem standsK_succ (L : Nat → List (List Value)) (item : ByteArray) {k : Nat} (hk : k < (L 4).length) : standsK L item (k + 1) = standsK L item k ++ if (itB item (qA (L 4) k) && elB (L 2) (L 3) (qA (L 4) k)) = true then [stE (L 1) (L 2) (L 3) (qA (L 4) k) 0] else [] := by
 unfold standsK
 rw [List.take_succ_eq_append_getElem hk, List.filter_append, List.map_append, qA_at (L 4) k hk]
 congr 1
 by_cases h : (itB item (L 4)[k] && elB (L 2) (L 3) (L 4)[k]) = true
 · rw [if_pos h]; simp only [List.filter_cons, h, if_true]; rfl
 · rw [if_neg h]; simp only [List.filter_cons, h]; rfl
theorem standsK_le (L : Nat → List (List Value)) (item : ByteArray) (k : Nat) : (standsK L item k).length ≤ k := by
 unfold standsK
 rw [List.length_map]
 exact Nat.le_trans (List.length_filter_le _ _) (List.length_take_le _ _)
set_option maxRecDepth 100000 in
set_option maxHeartbeats 3200000 in
theorem cstands (h : Hs) (L : Nat → List (List Value)) (it : ByteArray) (w : World) (hh : HT h L w) (hn6 : h.n 4 ≤ 1000) :
 Calls Tryz.prog 99 #[.agg h.cells, .string it] w (FreshS w (standsL L it)) := by
 obtain ⟨i0, z0, hi0, hz0, hz1, hz2, hz3⟩ := info_thing (P := Tryz.prog) (T := 159) (sz := 8) (by kernel_rfl)
 have hby : ∀ x, x ≤ 1000000 → x * i0.bytes ≤ 140737488355328 := fun x hx => Nat.le_trans (Nat.mul_le_mul hx hz3) (by decide)
 have HBY := Lib.hid hby
 clear hby
 have huS := Tryz.underlying159
 have huq := Tryz.underlying62
 have HS8 : Hid (∀ x : List Value, x.length = 8 → (Tryz.prog.info? 159).map (·.size) = some x.toArray.size) := Lib.hid (fun x hx => by rw [List.size_toArray, hx]; kernel_rfl)
 have HSQ6 : Hid ((Tryz.prog.info? 62).map (·.size) = some 6) := Lib.hid (by kernel_rfl)
 have HQ1 : Hid (∀ (a b c : ByteArray) (d e f : Int), (#[.string a, .string b, .string c, .int .i64 d, .int .i64 e, .int .i64 f] : Array Value).all (·.oneCell') = true) := Lib.hid (fun _ _ _ _ _ _ => by simp [Value.oneCell'])
 have HQS : Hid (∀ (a b c : ByteArray) (d e f : Int), (Tryz.prog.info? 62).map (·.size) = some (#[.string a, .string b, .string c, .int .i64 d, .int .i64 e, .int .i64 f] : Array Value).size) := Lib.hid (fun _ _ _ _ _ _ => by kernel_rfl)
 have HHT := Lib.hid hh
 obtain ⟨m, hmm⟩ : ∃ m, h.n 4 = m := ⟨_, rfl⟩
 have HNM : Hid (m = (L 4).length) := Lib.hid (by rw [← hmm]; exact (hh 4 (by decide)).1)
 rw [hmm] at hn6
 have HMM := Lib.hid hmm
 have HEND : Hid (standsK L it m = standsL L it) := Lib.hid (by unfold standsK standsL; rw [List.take_of_length_le (by rw [HNM.out]; omega)])
 rw [← HEND.out]
 clear hmm
 obtain ⟨A0, hA0⟩ : ∃ A, h.A 4 = A := ⟨_, rfl⟩
 have HA0 := Lib.hid hA0
 clear hA0
 obtain ⟨W0, hW0⟩ : ∃ W0, W0 = (w.alloc (.cells h.cells 37)) := ⟨_, rfl⟩
 have hb0 : Below w.heap.size w W0 := by rw [hW0]; exact (Below.refl _ _).alloc (Nat.le_refl _) _
 have hs0 : W0.heap.size = w.heap.size + 1 := by rw [hW0]; simp
 have HH : Hid (∀ W, Below W0.heap.size W0 W → W.heap[w.heap.size]? = some (.cells h.cells 37 (0, 0))) := Lib.hid (fun W hW => (hW.block _ (by omega)).trans (by
  rw [hW0]
  have hq := heap_alloc_new w (.cells h.cells 37)
  exact (by simpa using hq)))
 have HBW : Hid (∀ W, Below W0.heap.size W0 W → Below w.heap.size w W ∧ w.heap.size + 1 ≤ W.heap.size) := Lib.hid (fun W hW => ⟨hb0.trans (hW.mono (by omega)), by have := hW.size; omega⟩)
 have huh := Tryz.underlying37
 have HSH : Hid (∀ a : Hs, (Tryz.prog.info? 37).map (·.size) = some a.cells.size) := Lib.hid (fun a => by kernel_rfl)
 have HL4 : Hid (∀ W, Below W0.heap.size W0 W → W.cell? ⟨w.heap.size, 4, none⟩ = some (.slice A0 m (h.c 4)) ∧ w.heap.size < W.heap.size) := Lib.hid (fun W hW => ⟨by rw [cell_of_block (HH.out W hW), ← HMM.out, ← HA0.out]; rfl, by have := hW.size; omega⟩)
 have HOW0 : Hid (Below (w.heap.size + 1) W0 W0 ∧ W0.heap.size = w.heap.size + 1) := Lib.hid ⟨Below.refl _ _, hs0⟩
 have H0 := Lib.hid (Below.refl W0.heap.size W0)
 clear hb0 hs0 hh
 subst hW0
 go_enter Tryz.func99, Tryz.ntmps99
 obtain ⟨d4, dlt⟩ := HL4.out _ H0.out
 go_wp2_with fail
 clear d4 dlt
 go_loopw [5, 13] (fun v i wr => ∃ (k j c' : Nat) (A' : Option Addr), k ≤ m ∧ i = .int .i64 (k : Int) ∧ j ≤ k ∧ v = .slice A' j c' ∧ Hid (j = (standsK L it k).length) ∧ Hid (wr.ownsRow (w.heap.size + 1) 159 8 (.slice A' j c') j (standsK L it k).flatten) ∧ Hid (Below (w.alloc (.cells h.cells 37)).heap.size (w.alloc (.cells h.cells 37)) wr)) (fun _ i _ => m - (intOf i).toNat)
 case atStart => exact ⟨0, 0, 0, none, by omega, rfl, by omega, rfl, Lib.hid (by simp [standsK]), Lib.hid (by simpa [standsK] using World.ownsRow_nil _ _ _ _), H0⟩
 case round =>
  obtain ⟨k, j, c', A', hk, rfl, hjk, rfl, hj, hown, hw⟩ := hrel
  by_cases hlt : k < m
  · skip
    have hkl : k < (L 4).length := by rw [← HNM.out]; exact hlt
    have HTR : Hid (HT h L wr) := Lib.hid (HHT.out.below (HBW.out _ hw.out).1)
    obtain ⟨b, off, hA, hb, r1⟩ := quant_atW HTR.out hkl
    have hqc := qA_cells HTR.out hkl
    have hqa := qA_at (L 4) k hkl
    have hsn := standsK_succ L it hkl
    obtain ⟨v, hv⟩ : ∃ v, itB it (qA (L 4) k) = v := ⟨_, rfl⟩
    obtain ⟨r, hr⟩ : ∃ r, elB (L 2) (L 3) (qA (L 4) k) = r := ⟨_, rfl⟩
    obtain ⟨X, hX⟩ : ∃ X, elE (L 1) (L 2) (L 3) (qA (L 4) k) = X := ⟨_, rfl⟩
    have hxr : r = true → stE (L 1) (L 2) (L 3) (qA (L 4) k) 0 = X := fun h => by rw [← hX]; unfold elE; rw [hr, if_pos h]
    have HXF : Hid (Fits kstand X) := Lib.hid (by rw [← hX]; unfold elE; split; exact stE_fits _ _ _ _ _; exact zSd.fits)
    have HXR := Lib.hid hxr
    rw [hv, hr] at hsn
    have hvi : Pl.eqv (qnOf (qA (L 4) k)).item it = v := hv
    rw [hqc] at hr hX
    obtain ⟨x, hx⟩ : ∃ x, qnOf (qA (L 4) k) = x := ⟨_, rfl⟩
    rw [hx] at r1 hr hX hvi
    obtain ⟨qb, qi, ql, qs, qq, qh⟩ := x
    unfold Qn.cells at r1 hr hX
    simp only [] at hvi
    have hvi2 : (qi.toList == it.toList) = v := hvi
    have CE : Hid (∀ W, HT h L W → Calls Tryz.prog 132 #[.agg h.cells, .agg #[.string qb, .string qi, .string ql, .int .i64 qs, .int .i64 qq, .int .i64 qh]] W fun e w' => e = .returned (.tuple #[.agg X.toArray, .bool r]) ∧ Below W.heap.size W w') := Lib.hid (fun W hW => by have := celig h L qb qi ql qs qq qh W hW; rw [hX, hr] at this; exact this)
    have HR1 := Lib.hid r1
    have HBL := Lib.hid hb
    have HSN := Lib.hid hsn
    have hle := standsK_le L it k
    clear hqc hqa hx hr hX hxr hvi hv hsn r1 hb hkl
    have h1 : (0 : Int) ≤ (k : Int) := by omega
    have h2 : (k : Int) < (m : Int) := by omega
    rw [HA0.out] at hA
    subst hA
    have HBX : Hid ((wr.alloc (.cells #[.string ⟨#[]⟩, .string ⟨#[]⟩, .string ⟨#[]⟩, .int .i64 0, .int .i64 0, .int .i64 0] 62)).heap[wr.heap.size]? = some (.cells #[.string ⟨#[]⟩, .string ⟨#[]⟩, .string ⟨#[]⟩, .int .i64 0, .int .i64 0, .int .i64 0] 62 (0, 0))) := Lib.hid (heap_alloc_new _ _)
    obtain ⟨w1, hw1⟩ : ∃ W, W = (wr.alloc (.cells #[.string ⟨#[]⟩, .string ⟨#[]⟩, .string ⟨#[]⟩, .int .i64 0, .int .i64 0, .int .i64 0] 62)).setRow wr.heap.size #[.string qb, .string qi, .string ql, .int .i64 qs, .int .i64 qq, .int .i64 qh] := ⟨_, rfl⟩
    have HB1 : Hid (Below wr.heap.size wr w1) := Lib.hid (by rw [hw1]; exact setRow_below ((Below.refl _ _).alloc (Nat.le_refl _) _) (Nat.le_refl _) _)
    have H1 := Lib.hid (hw.out.trans (HB1.out.mono hw.out.size))
    have HQB : Hid (w1.heap[wr.heap.size]? = some (.cells #[.string qb, .string qi, .string ql, .int .i64 qs, .int .i64 qq, .int .i64 qh] 62 (0, 0))) := Lib.hid (by rw [hw1]; exact setRow_heap _ _ _ _ _ _ HBX.out)
    have HOW1 := Lib.hid (own_below hown.out HB1.out)
    have HRL := Lib.hid (rangeAt_below HR1.out HBL.out (Below.refl _ _))
    have HW1 := Lib.hid hw1
    clear hw1
    go_upto_region 5 with (first
     | (refine wpList_load_mid rfl 62 (.tmp 15) rfl b (off + k * 6) rfl [.string qb, .string qi, .string ql, .int .i64 qs, .int .i64 qq, .int .i64 qh] _ HR1.out huq rfl HSQ6.out ?_)
     | (refine wpList_store_row rfl 62 (.tmp 7) (.tmp 16) rfl wr.heap.size #[.string qb, .string qi, .string ql, .int .i64 qs, .int .i64 qq, .int .i64 qh] rfl rfl _ _ HBX.out (HQS.out _ _ _ _ _ _) rfl (HQ1.out _ _ _ _ _ _) ?_)
     | fail)
    rw [← HW1.out]
    have hq1 : w1.cell? ⟨wr.heap.size, 1, none⟩ = some (.string qi) := by rw [cell_of_block HQB.out]; rfl
    have hql := lt_of_block HQB.out
    cases v with
    | false =>
     have hvn : (qi.toList != it.toList) = true := by simp only [bne, hvi2]; rfl
     have HSU : Hid (standsK L it (k + 1) = standsK L it k) := Lib.hid (by rw [HSN.out]; simp)
     go_wp2_with fail
     go_roundw
     case rel => exact ⟨k + 1, j, c', A', by omega, by go_num, by omega, rfl, Lib.hid (by rw [HSU.out]; exact hj.out), Lib.hid (by rw [HSU.out]; exact HOW1.out), H1⟩
     case measure => simp [intOf]; omega
    | true =>
     have hvn : (qi.toList != it.toList) = false := by simp only [bne, hvi2]; rfl
     go_wp2_with (first
      | (refine wpList_load_row rfl 37 (.tmp 2) rfl w.heap.size rfl _ _ _ _ (HH.out _ H1.out) huh rfl (HSH.out _) ?_)
      | (refine wpList_load_row rfl 62 (.tmp 7) rfl wr.heap.size rfl _ _ _ _ HQB.out huq rfl (HQS.out _ _ _ _ _ _) ?_)
      | fail)
     refine (CE.out _ (HTR.out.below HB1.out)).mono ?_
     rintro e w2 ⟨rfl, hb2⟩
     clear hq1 hql hvi2 hvn
     have HBY2 : Hid ((w2.alloc (.cells #[.string ⟨#[]⟩, .string ⟨#[]⟩, .string ⟨#[]⟩, .int .i64 0, .string ⟨#[]⟩, .int .i64 0, .int .i64 0, .int .i64 0] 159)).heap[w2.heap.size]? = some (.cells #[.string ⟨#[]⟩, .string ⟨#[]⟩, .string ⟨#[]⟩, .int .i64 0, .string ⟨#[]⟩, .int .i64 0, .int .i64 0, .int .i64 0] 159 (0, 0))) := Lib.hid (heap_alloc_new _ _)
     obtain ⟨w3, hw3⟩ : ∃ W, W = (w2.alloc (.cells #[.string ⟨#[]⟩, .string ⟨#[]⟩, .string ⟨#[]⟩, .int .i64 0, .string ⟨#[]⟩, .int .i64 0, .int .i64 0, .int .i64 0] 159)).setRow w2.heap.size X.toArray := ⟨_, rfl⟩
     have HB23 : Hid (Below w2.heap.size w2 w3) := Lib.hid (by rw [hw3]; exact setRow_below ((Below.refl _ _).alloc (Nat.le_refl _) _) (Nat.le_refl _) _)
     have HB3 := Lib.hid (hb2.trans (HB23.out.mono hb2.size))
     have H3 := Lib.hid (H1.out.trans (HB3.out.mono H1.out.size))
     have HOW3 := Lib.hid (own_below HOW1.out HB3.out)
     have HSZX : Hid ((#[.string ⟨#[]⟩, .string ⟨#[]⟩, .string ⟨#[]⟩, .int .i64 0, .string ⟨#[]⟩, .int .i64 0, .int .i64 0, .int .i64 0] : Array Value).size = X.toArray.size) := Lib.hid (by rw [List.size_toArray, List.size_toArray, HXF.out.length]; rfl)
     have HX1 := Lib.hid (all_oneCell_toArray (fits_one HXF.out))
     have HXB : Hid (w3.heap[w2.heap.size]? = some (.cells X.toArray 159 (0, 0))) := Lib.hid (by rw [hw3]; exact setRow_heap _ _ _ _ _ _ HBY2.out)
     have HW3 := Lib.hid hw3
     have HXL : Hid (X.length = 8) := Lib.hid HXF.out.length
     have HE1 := Lib.hid (fits_one HXF.out)
     clear hw3 hb2
     go_upto_region 7 with (first
      | (refine wpList_store_row rfl 159 (.tmp 8) (.tmp 26) rfl w2.heap.size X.toArray rfl rfl _ _ HBY2.out (HS8.out _ HXL.out) HSZX.out HX1.out ?_)
      | fail)
     rw [← HW3.out]
     cases r with
     | false =>
      have HSU : Hid (standsK L it (k + 1) = standsK L it k) := Lib.hid (by rw [HSN.out]; simp)
      go_wp2_with fail
      go_roundw
      case rel => exact ⟨k + 1, j, c', A', by omega, by go_num, by omega, rfl, Lib.hid (by rw [HSU.out]; exact hj.out), Lib.hid (by rw [HSU.out]; exact HOW3.out), H3⟩
      case measure => simp [intOf]; omega
     | true =>
      have HSU : Hid (standsK L it (k + 1) = standsK L it k ++ [X]) := Lib.hid (by rw [HSN.out, HXR.out rfl]; rfl)
      have HG1 : Hid (w.heap.size + 1 ≤ (w3.alloc (.cells X.toArray 159)).heap.size) := Lib.hid (by have := (HBW.out _ H3.out).2; simp; omega)
      have HB33 : Hid (Below (w.heap.size + 1) (w.alloc (.cells h.cells 37)) w3) := Lib.hid (by rw [← HOW0.out.2]; exact H3.out)
      go_wp2_with (first
       | (refine wpList_load_row rfl 159 (.tmp 8) rfl w2.heap.size rfl _ _ _ _ HXB.out huS rfl (HS8.out _ HXL.out) ?_)
       | (refine wpList_buildOne rfl _ 159 _ rfl w3.heap.size rfl _ rfl i0 z0 8 Tryz.underlying155 hi0 hz0 hz1 (by decide) (by decide) X (by rfl) HXL.out ?_)
       | (at_builtin; refine wpList_app rfl (.tmp 29) (.tmp 31) _ rfl (w.heap.size + 1) 159 i0 z0 8 i0.bytes Tryz.underlying155 hi0 hz0 hz1 rfl hz2 (by decide) A' j c' _ rfl (HOW3.out.alloc _) (w3.heap.size + 1) (some ⟨w3.heap.size, 0, none⟩) 1 1 X rfl (by rw [HXL.out]) (rd_one w3 X _) HE1.out (by simp only [maxLen]; omega) (HBY.out _ (by omega)) HG1.out ?_; intro A5 c5 w4 hown4 hb4; have HO4 := Lib.hid hown4; have HB4 := Lib.hid ((HB33.out.alloc (HBW.out _ H3.out).2 _).trans hb4); clear hown4 hb4)
       | fail)
      go_roundw
      case rel => exact ⟨k + 1, j + 1, c5, A5, by omega, by go_num, by omega, rfl, Lib.hid (by rw [HSU.out, List.length_append, ← hj.out]; rfl), Lib.hid (by rw [HSU.out, List.flatten_append]; simpa using HO4.out), Lib.hid (by rw [HOW0.out.2]; exact HB4.out)⟩
      case measure => simp [intOf]; omega
  · obtain rfl : k = m := by omega
    go_wp2_with fail
    go_ret
    exact ⟨A', j, c', hj.out, rfl, hown.out, (HBW.out _ hw.out).1, (HBW.out _ hw.out).2⟩
end Go.Proofs.YtlkmccmbpnbgbaaGreat

namespace Go.Proofs.YtlkmccmbpnbgbaaGreat
set_option linter.unusedVariables false
open Go.RowKit
open Pl (firstG findG putG It firstG_none firstG_some)

set_option maxRecDepth 100000 in
set_option maxHeartbeats 3200000 in
theorem ctakes (A0 : Option Addr) (n c0 : Nat) (S : List (List Value)) (si : ByteArray) (q0 : Int) (w : World) (hn : n = S.length) (hn6 : n ≤ 1000) (hS : Things kstand S) (hF : ∀ e ∈ S, 0 < (sdOf e).free) (hr : Rd w w.heap.size A0 S.flatten) (hq : Wf q0) :
 Calls Tryz.prog 102 #[.slice A0 n c0, .string si, .int .i64 q0] w (TakesP (cutS si S q0) w) := by
 obtain ⟨i0, z0, hi0, hz0, hz1, hz2, hz3⟩ := info_thing (P := Tryz.prog) (T := 135) (sz := 5) (by kernel_rfl)
 have hby : ∀ x, x ≤ 1000000 → x * i0.bytes ≤ 140737488355328 := fun x hx => Nat.le_trans (Nat.mul_le_mul hx hz3) (by decide)
 have HBY := Lib.hid hby
 clear hby
 have huS := Tryz.underlying159
 have huk := Tryz.underlying44
 have HSK4 : Hid ((Tryz.prog.info? 44).map (·.size) = some 4) := Lib.hid (by kernel_rfl)
 have HSS8 : Hid ((Tryz.prog.info? 159).map (·.size) = some 8) := Lib.hid (by kernel_rfl)
 have H1R : Hid (∀ (a b c g : ByteArray) (d e f i : Int), (#[.string a, .string b, .string c, .int .i64 d, .string g, .int .i64 e, .int .i64 f, .int .i64 i] : Array Value).all (·.oneCell') = true) := Lib.hid (fun _ _ _ _ _ _ _ _ => by simp [Value.oneCell'])
 have HS8 : Hid (∀ (a b c g : ByteArray) (d e f i : Int), (Tryz.prog.info? 159).map (·.size) = some (#[.string a, .string b, .string c, .int .i64 d, .string g, .int .i64 e, .int .i64 f, .int .i64 i] : Array Value).size) := Lib.hid (fun _ _ _ _ _ _ _ _ => by kernel_rfl)
 have HN := Lib.hid hn
 have HST := Lib.hid hS
 have HFR := Lib.hid hF
 have HRD := Lib.hid hr
 obtain ⟨R, hR⟩ : ∃ R, cutS si S q0 = R := ⟨_, rfl⟩
 have HR0 : Hid (R = [] ++ cutS si (S.drop 0) q0) := Lib.hid (by rw [← hR]; rfl)
 have HWQ0 := Lib.hid hq
 rw [hR]
 clear hn hS hF hr hR hq
 go_enter Tryz.func102, Tryz.ntmps102
 go_wp2_with fail
 go_loopw [7, 13, 2] (fun v i qv wr => ∃ (k j c' : Nat) (A' : Option Addr) (D : List (List Value)) (q : Int), k ≤ n ∧ i = .int .i64 (k : Int) ∧ j ≤ k ∧ v = .slice A' j c' ∧ qv = .int .i64 q ∧ Hid (Wf q) ∧ Hid (j = D.length) ∧ Hid (R = D ++ cutS si (S.drop k) q) ∧ Hid (wr.ownsRow w.heap.size 135 5 (.slice A' j c') j D.flatten) ∧ Hid (Below w.heap.size w wr)) (fun _ i _ _ => n - (intOf i).toNat)
 case atStart => exact ⟨0, 0, 0, none, [], q0, by omega, rfl, by omega, rfl, rfl, HWQ0, Lib.hid rfl, HR0, Lib.hid (by simpa using World.ownsRow_nil _ _ _ _), Lib.hid (Below.refl _ _)⟩
 case round =>
  obtain ⟨k, j, c', A', D, q, hk, rfl, hjk, rfl, rfl, HQ, hj, HRD2, hown, hw⟩ := hrel
  by_cases hlt : k < n
  · skip
    have hkl : k < S.length := by rw [← HN.out]; exact hlt
    obtain ⟨b, off, rfl, hb, hcs⟩ := HRD.out.thing HST.out (by decide) hkl
    have r1 := rangeAt_below (hcs k hkl) hb hw.out
    have hxe := sd_cells (HST.out _ (List.getElem_mem hkl))
    have hfe := HFR.out _ (List.getElem_mem hkl)
    have hdr : S.drop k = S[k] :: S.drop (k + 1) := List.drop_eq_getElem_cons hkl
    obtain ⟨x, hx⟩ : ∃ x, sdOf S[k] = x := ⟨_, rfl⟩
    rw [hx] at hxe hfe
    rw [hxe] at r1 hdr
    obtain ⟨sb, si', sl, ss, sg, sd, stw, sf⟩ := x
    unfold Sd.cells at r1
    simp only [] at hfe
    rw [hdr] at HRD2
    have hof : off + k * kstand.length = off + k * 8 := rfl
    rw [hof] at r1
    have HR1 := Lib.hid r1
    have HDR := Lib.hid hdr
    have HFE := Lib.hid hfe
    clear hcs hxe hx hdr r1 hkl hfe hof
    have hbl : b < wr.heap.size := Nat.lt_of_lt_of_le hb hw.out.size
    have h1 : (0 : Int) ≤ (k : Int) := by omega
    have h2 : (k : Int) < (n : Int) := by omega
    clear hb
    have HBX : Hid ((wr.alloc (.cells #[.string ⟨#[]⟩, .string ⟨#[]⟩, .string ⟨#[]⟩, .int .i64 0, .string ⟨#[]⟩, .int .i64 0, .int .i64 0, .int .i64 0] 159)).heap[wr.heap.size]? = some (.cells #[.string ⟨#[]⟩, .string ⟨#[]⟩, .string ⟨#[]⟩, .int .i64 0, .string ⟨#[]⟩, .int .i64 0, .int .i64 0, .int .i64 0] 159 (0, 0))) := Lib.hid (heap_alloc_new _ _)
    obtain ⟨w1, hw1⟩ : ∃ W, W = (wr.alloc (.cells #[.string ⟨#[]⟩, .string ⟨#[]⟩, .string ⟨#[]⟩, .int .i64 0, .string ⟨#[]⟩, .int .i64 0, .int .i64 0, .int .i64 0] 159)).setRow wr.heap.size #[.string sb, .string si', .string sl, .int .i64 ss, .string sg, .int .i64 sd, .int .i64 stw, .int .i64 sf] := ⟨_, rfl⟩
    have HB1 : Hid (Below wr.heap.size wr w1) := Lib.hid (by rw [hw1]; exact setRow_below ((Below.refl _ _).alloc (Nat.le_refl _) _) (Nat.le_refl _) _)
    have H1 := Lib.hid (hw.out.trans (HB1.out.mono hw.out.size))
    have HQB : Hid (w1.heap[wr.heap.size]? = some (.cells #[.string sb, .string si', .string sl, .int .i64 ss, .string sg, .int .i64 sd, .int .i64 stw, .int .i64 sf] 159 (0, 0))) := Lib.hid (by rw [hw1]; exact setRow_heap _ _ _ _ _ _ HBX.out)
    have HOW1 := Lib.hid (own_below hown.out HB1.out)
    have HW1 := Lib.hid hw1
    clear hw1
    go_upto_region 5 with (first
     | (refine wpList_load_mid rfl 159 (.tmp 15) rfl b (off + k * 8) rfl [.string sb, .string si', .string sl, .int .i64 ss, .string sg, .int .i64 sd, .int .i64 stw, .int .i64 sf] _ HR1.out huS rfl HSS8.out ?_)
     | (refine wpList_store_row rfl 159 (.tmp 9) (.tmp 16) rfl wr.heap.size #[.string sb, .string si', .string sl, .int .i64 ss, .string sg, .int .i64 sd, .int .i64 stw, .int .i64 sf] rfl rfl _ _ HBX.out (HS8.out _ _ _ _ _ _ _ _) rfl (H1R.out _ _ _ _ _ _ _ _) ?_)
     | fail)
    rw [← HW1.out]
    have y4 : w1.cell? ⟨wr.heap.size, 4, none⟩ = some (.string sg) := by rw [cell_of_block HQB.out]; rfl
    have y7 : w1.cell? ⟨wr.heap.size, 7, none⟩ = some (.int .i64 sf) := by rw [cell_of_block HQB.out]; rfl
    have ylt : wr.heap.size < w1.heap.size := lt_of_block HQB.out
    clear hbl h1 h2
    by_cases hq1 : q < 1
    · skip
      have HE : Hid (R = D) := Lib.hid (by rw [HRD2.out, cutS_done _ _ (by omega), List.append_nil])
      rw [← HE.out] at hj hown HOW1
      go_wp2_with fail
      go_ret
      exact ⟨H1.out, A', c', by rw [hj.out]; rfl, Rd.of_own HOW1.out⟩
    · skip
      cases hv : Pl.eqv sg si with
      | false =>
       have hv1 : (sg.toList == si.toList) = false := hv
       have hv2 : (sg.toList != si.toList) = true := by simp only [bne, hv1]; rfl
       have HSU : Hid (R = D ++ cutS si (S.drop (k + 1)) q) := Lib.hid (by rw [HRD2.out, cutS_else _ _ _ (by exact hv)])
       clear hv
       go_wp2_with fail
       go_roundw
       case rel => exact ⟨k + 1, j, c', A', D, q, by omega, by go_num, by omega, rfl, rfl, HQ, hj, HSU, HOW1, H1⟩
       case measure => simp [intOf]; omega
      | true =>
       have hv1 : (sg.toList == si.toList) = true := hv
       have hv2 : (sg.toList != si.toList) = false := by simp only [bne, hv1]; rfl
       obtain ⟨z, hz⟩ : ∃ z, min sf q = z := ⟨_, rfl⟩
       have HZ1 : Hid (1 ≤ z ∧ z ≤ q) := Lib.hid (by have := HFE.out; omega)
       have HSU : Hid (R = (D ++ [[.string sb, .string si', .string sl, .int .i64 ss, .int .i64 z]]) ++ cutS si (S.drop (k + 1)) (q - z)) := Lib.hid (by rw [HRD2.out, cutS_here _ _ _ (by omega) (by exact hv), List.append_assoc]; show D ++ (takeS _ (min sf q) :: cutS si _ (q - min sf q)) = _; rw [hz]; rfl)
       clear hv
       go_upto_region 8 with fail
       clear y4 y7 ylt hv1 hv2
       have HWQ : wrap64 (q - z) = q - z := w64 (by have h1 := HZ1.out; have h2 := HQ.out; unfold Wf at h2; omega) (by have h1 := HZ1.out; have h2 := HQ.out; unfold Wf at h2; omega)
       have HRK : Hid (w1.rangeAt wr.heap.size 0 [.string sb, .string si', .string sl, .int .i64 ss]) := Lib.hid (range_part HQB.out (cs := [.string sb, .string si', .string sl, .int .i64 ss, .string sg, .int .i64 sd, .int .i64 stw, .int .i64 sf]) (pre := []) (post := [.string sg, .int .i64 sd, .int .i64 stw, .int .i64 sf]))
       have HXL : Hid (([.string sb, .string si', .string sl, .int .i64 ss, .int .i64 z] : List Value).length = 5) := Lib.hid rfl
       have HE1 : Hid (∀ u ∈ ([.string sb, .string si', .string sl, .int .i64 ss, .int .i64 z] : List Value), u.oneCell' = true) := Lib.hid (fits_one (ks := kTake) ⟨⟨_, rfl⟩, ⟨_, rfl⟩, ⟨_, rfl⟩, ⟨_, rfl⟩, ⟨_, rfl⟩, trivial⟩)
       have HG1 : Hid (w.heap.size ≤ (w1.alloc (.cells ([.string sb, .string si', .string sl, .int .i64 ss, .int .i64 z] : List Value).toArray 135)).heap.size) := Lib.hid (by have := H1.out.size; simp; omega)
       go_wp2_with (first
        | (refine wpList_load_mid rfl 44 (.tmp 28) rfl wr.heap.size 0 rfl [.string sb, .string si', .string sl, .int .i64 ss] _ HRK.out huk rfl HSK4.out ?_)
        | (refine wpList_buildOne rfl _ 135 _ rfl w1.heap.size rfl _ rfl i0 z0 5 Tryz.underlying132 hi0 hz0 hz1 (by decide) (by decide) [.string sb, .string si', .string sl, .int .i64 ss, .int .i64 z] (by rfl) HXL.out ?_)
        | (at_builtin; refine wpList_app rfl (.tmp 27) (.tmp 32) _ rfl w.heap.size 135 i0 z0 5 i0.bytes Tryz.underlying132 hi0 hz0 hz1 rfl hz2 (by decide) A' j c' _ rfl (HOW1.out.alloc _) (w1.heap.size + 1) (some ⟨w1.heap.size, 0, none⟩) 1 1 [.string sb, .string si', .string sl, .int .i64 ss, .int .i64 z] rfl (by rfl) (rd_one w1 [.string sb, .string si', .string sl, .int .i64 ss, .int .i64 z] _) HE1.out (by simp only [maxLen]; omega) (HBY.out _ (by omega)) HG1.out ?_; intro A5 c5 w6 hown6 hb6; have HO6 := Lib.hid hown6; have HB6 := Lib.hid ((H1.out.alloc H1.out.size _).trans hb6); clear hown6 hb6)
        | fail)
       go_roundw
       case rel => exact ⟨k + 1, j + 1, c5, A5, D ++ [[.string sb, .string si', .string sl, .int .i64 ss, .int .i64 z]], q - z, by omega, by go_num, by omega, rfl, by rw [HWQ], Lib.hid (by have h1 := HZ1.out; have h2 := HQ.out; unfold Wf at h2 ⊢; omega), Lib.hid (by rw [List.length_append, ← hj.out]; rfl), HSU, Lib.hid (by rw [List.flatten_append]; simpa using HO6.out), HB6⟩
       case measure => simp [intOf]; omega
  · have hkn : k = n := by omega
    have HE : Hid (R = D) := Lib.hid (by rw [HRD2.out, List.drop_of_length_le (by rw [hkn, HN.out]; omega)]; simp [cutS])
    rw [← HE.out] at hj hown
    clear hkn
    go_wp2_with fail
    go_ret
    exact ⟨hw.out, A', c', by rw [hj.out]; rfl, Rd.of_own hown.out⟩
end Go.Proofs.YtlkmccmbpnbgbaaGreat

namespace Go.Proofs.YtlkmccmbpnbgbaaGreat
set_option linter.unusedVariables false
open Go.RowKit
open Pl (firstG findG putG It firstG_none firstG_some)

def ordS_ (p q : Sd) : Int := firstNZ [cmpI p.day q.day, Pl.cmp p.lot q.lot, Pl.cmp p.bin q.bin, cmpI p.twin q.twin]
theorem ordS_eq (x y : List Value) : ordS x y = ordS_ (sdOf x) (sdOf y) := rfl
set_option maxRecDepth 100000 in
set_option maxHeartbeats 1600000 in
theorem cinOrder (x y : List Value) (w : World) (hx : Fits kstand x) (hy : Fits kstand y) : Calls Tryz.prog 101 #[.agg x.toArray, .agg y.toArray] w fun e w' => e = .returned (.int .i64 (ordS x y)) ∧ Below w.heap.size w w' := by
 have hxr := sd_cells hx
 have hyr := sd_cells hy
 have HV : Hid (ordS x y = ordS_ (sdOf x) (sdOf y)) := Lib.hid (ordS_eq x y)
 obtain ⟨p, hp⟩ : ∃ p, sdOf x = p := ⟨_, rfl⟩
 obtain ⟨q, hq⟩ : ∃ q, sdOf y = q := ⟨_, rfl⟩
 rw [hp] at hxr HV
 rw [hq] at hyr HV
 obtain ⟨v, hv⟩ : ∃ v, ordS x y = v := ⟨_, rfl⟩
 rw [hv] at HV ⊢
 subst hxr hyr
 clear hp hq hx hy hv
 obtain ⟨p0, p1, p2, p3, p4, p5, p6, p7⟩ := p
 obtain ⟨q0, q1, q2, q3, q4, q5, q6, q7⟩ := q
 have HV2 : Hid (v = firstNZ [cmpI p5 q5, Pl.cmp p2 q2, Pl.cmp p0 q0, cmpI p6 q6]) := Lib.hid HV.out
 clear HV
 have HV := HV2
 clear HV2
 unfold Sd.cells
 obtain ⟨W0, hW0⟩ : ∃ W0, W0 = ((w.alloc (.cells #[.string p0, .string p1, .string p2, .int .i64 p3, .string p4, .int .i64 p5, .int .i64 p6, .int .i64 p7] 159)).alloc (.cells #[.string q0, .string q1, .string q2, .int .i64 q3, .string q4, .int .i64 q5, .int .i64 q6, .int .i64 q7] 159)) := ⟨_, rfl⟩
 have B0 : Hid (Below w.heap.size w W0) := Lib.hid (by rw [hW0]; exact ((Below.refl _ _).alloc (Nat.le_refl _) _).alloc (by simp <;> omega) _)
 have HX0 : Hid (W0.heap[w.heap.size]? = some (.cells #[.string p0, .string p1, .string p2, .int .i64 p3, .string p4, .int .i64 p5, .int .i64 p6, .int .i64 p7] 159 (0, 0))) := Lib.hid (by
  rw [hW0]
  have hq := heap_alloc_new w (.cells #[.string p0, .string p1, .string p2, .int .i64 p3, .string p4, .int .i64 p5, .int .i64 p6, .int .i64 p7] 159)
  exact (Below.heap_alloc _ _ _ (by simp <;> omega)).trans (by simpa using hq))
 have HY0 : Hid (W0.heap[w.heap.size + 1]? = some (.cells #[.string q0, .string q1, .string q2, .int .i64 q3, .string q4, .int .i64 q5, .int .i64 q6, .int .i64 q7] 159 (0, 0))) := Lib.hid (by
  rw [hW0]
  have hq := heap_alloc_new (w.alloc (.cells #[.string p0, .string p1, .string p2, .int .i64 p3, .string p4, .int .i64 p5, .int .i64 p6, .int .i64 p7] 159)) (.cells #[.string q0, .string q1, .string q2, .int .i64 q3, .string q4, .int .i64 q5, .int .i64 q6, .int .i64 q7] 159)
  exact by simpa using hq)
 have huh := Tryz.underlying37
 have HSH : Hid (∀ a : Hs, (Tryz.prog.info? 37).map (·.size) = some a.cells.size) := Lib.hid (fun a => by kernel_rfl)
 have HSHL : Hid (∀ a : Hs, (Tryz.prog.info? 37).map (·.size) = some a.cells.toList.length) := Lib.hid (fun a => by kernel_rfl)
 have H1C : Hid (∀ a : Hs, a.cells.all (·.oneCell') = true) := Lib.hid (fun a => by simp [Hs.cells, Value.oneCell'])
 have hustand := Tryz.underlying159
 have HSstand : Hid ((Tryz.prog.info? 159).map (·.size) = some 8) := Lib.hid (by kernel_rfl)
 obtain ⟨w1, hw1⟩ : ∃ w1, w1 = W0 := ⟨_, rfl⟩
 have HX1 := HX0
 have HY1 := HY0
 have B1 := B0
 rw [← hw1] at HX1 HY1 B1
 have hsz : w.heap.size + 2 ≤ w1.heap.size := by rw [hw1, hW0]; simp
 have HBX : Hid (w.heap.size + 2 ≤ w1.heap.size) := Lib.hid hsz
 clear HX0 HY0 B0 hsz
 skip
 subst hW0
 go_enter Tryz.func101, Tryz.ntmps101
 go_wp2_with fail
 rw [← hw1]
 clear hw1
 have HST : Hid (∀ X, Below w1.heap.size w1 X → X.cell? ⟨w.heap.size, 5, none⟩ = some (.int .i64 p5) ∧ X.cell? ⟨(w.heap.size + 1), 5, none⟩ = some (.int .i64 q5) ∧ X.cell? ⟨w.heap.size, 2, none⟩ = some (.string p2) ∧ X.cell? ⟨(w.heap.size + 1), 2, none⟩ = some (.string q2) ∧ X.cell? ⟨w.heap.size, 0, none⟩ = some (.string p0) ∧ X.cell? ⟨(w.heap.size + 1), 0, none⟩ = some (.string q0) ∧ X.cell? ⟨w.heap.size, 6, none⟩ = some (.int .i64 p6) ∧ X.cell? ⟨(w.heap.size + 1), 6, none⟩ = some (.int .i64 q6)) := Lib.hid (fun X hX => ⟨(by rw [cell_of_block ((hX.block _ (lt_of_block HX1.out)).trans HX1.out)]; rfl), (by rw [cell_of_block ((hX.block _ (lt_of_block HY1.out)).trans HY1.out)]; rfl), (by rw [cell_of_block ((hX.block _ (lt_of_block HX1.out)).trans HX1.out)]; rfl), (by rw [cell_of_block ((hX.block _ (lt_of_block HY1.out)).trans HY1.out)]; rfl), (by rw [cell_of_block ((hX.block _ (lt_of_block HX1.out)).trans HX1.out)]; rfl), (by rw [cell_of_block ((hX.block _ (lt_of_block HY1.out)).trans HY1.out)]; rfl), (by rw [cell_of_block ((hX.block _ (lt_of_block HX1.out)).trans HX1.out)]; rfl), (by rw [cell_of_block ((hX.block _ (lt_of_block HY1.out)).trans HY1.out)]; rfl)⟩)
 have BN := Lib.hid (Below.refl w1.heap.size w1).drew
 have ST0 := HST.out _ BN.out
 refine wp_region_noPanic ?_
 refine wp_region_held_drew (S := (fun w' => w'.cell? ⟨w.heap.size, 5, none⟩ = some (.int .i64 p5) ∧ w'.cell? ⟨(w.heap.size + 1), 5, none⟩ = some (.int .i64 q5) ∧ w'.cell? ⟨w.heap.size, 2, none⟩ = some (.string p2) ∧ w'.cell? ⟨(w.heap.size + 1), 2, none⟩ = some (.string q2) ∧ w'.cell? ⟨w.heap.size, 0, none⟩ = some (.string p0) ∧ w'.cell? ⟨(w.heap.size + 1), 0, none⟩ = some (.string q0) ∧ w'.cell? ⟨w.heap.size, 6, none⟩ = some (.int .i64 p6) ∧ w'.cell? ⟨(w.heap.size + 1), 6, none⟩ = some (.int .i64 q6))) (by kernel_rfl) ST0 (fun dd0 => ?_)
 refine tkE 0 (.pointer (some ⟨w.heap.size, 5, none⟩)) rfl ?_
 (try simp only [ax])
 refine tkF 1 (.int .i64 p5) rfl (.inl ⟨by kernel_rfl, fun w h => by have hw := h.1; clear h; go_simp⟩) ?_
 (try simp only [ax])
 refine tkE 2 (.pointer (some ⟨(w.heap.size + 1), 5, none⟩)) rfl ?_
 (try simp only [ax])
 refine tkF 3 (.int .i64 q5) rfl (.inl ⟨by kernel_rfl, fun w h => by have hw := h.2.1; clear h; go_simp⟩) ?_
 (try simp only [ax])
 refine tkE 5 (.pointer (some ⟨w.heap.size, 0, none⟩)) rfl ?_
 (try simp only [ax])
 refine tkE 6 (.pointer (some ⟨w.heap.size, 2, none⟩)) rfl ?_
 (try simp only [ax])
 refine tkF 7 (.string p2) rfl (.inl ⟨by kernel_rfl, fun w h => by have hw := h.2.2.1; clear h; go_simp⟩) ?_
 (try simp only [ax])
 refine tkE 8 (.pointer (some ⟨(w.heap.size + 1), 0, none⟩)) rfl ?_
 (try simp only [ax])
 refine tkE 9 (.pointer (some ⟨(w.heap.size + 1), 2, none⟩)) rfl ?_
 (try simp only [ax])
 refine tkF 10 (.string q2) rfl (.inl ⟨by kernel_rfl, fun w h => by have hw := h.2.2.2.1; clear h; go_simp⟩) ?_
 (try simp only [ax])
 refine tkE 12 (.pointer (some ⟨w.heap.size, 0, none⟩)) rfl ?_
 (try simp only [ax])
 refine tkE 13 (.pointer (some ⟨w.heap.size, 0, none⟩)) rfl ?_
 (try simp only [ax])
 refine tkF 14 (.string p0) rfl (.inl ⟨by kernel_rfl, fun w h => by have hw := h.2.2.2.2.1; clear h; go_simp⟩) ?_
 (try simp only [ax])
 refine tkE 15 (.pointer (some ⟨(w.heap.size + 1), 0, none⟩)) rfl ?_
 (try simp only [ax])
 refine tkE 16 (.pointer (some ⟨(w.heap.size + 1), 0, none⟩)) rfl ?_
 (try simp only [ax])
 refine tkF 17 (.string q0) rfl (.inl ⟨by kernel_rfl, fun w h => by have hw := h.2.2.2.2.2.1; clear h; go_simp⟩) ?_
 (try simp only [ax])
 refine tkE 19 (.pointer (some ⟨w.heap.size, 6, none⟩)) rfl ?_
 (try simp only [ax])
 refine tkF 20 (.int .i64 p6) rfl (.inl ⟨by kernel_rfl, fun w h => by have hw := h.2.2.2.2.2.2.1; clear h; go_simp⟩) ?_
 (try simp only [ax])
 refine tkE 21 (.pointer (some ⟨(w.heap.size + 1), 6, none⟩)) rfl ?_
 (try simp only [ax])
 refine tkF 22 (.int .i64 q6) rfl (.inl ⟨by kernel_rfl, fun w h => by have hw := h.2.2.2.2.2.2.2; clear h; go_simp⟩) ?_
 (try simp only [ax])
 refine wpAnyH_ready (rs := [4]) (by kernel_rfl) (by simp) ?_
 refine AllReadyH.cons rfl (fun K' hK => ?_) AllReadyH.nil
 go_simp
 refine ((same_below (compareI_any p5 q5 _))).mono ?_
 rintro e wn ⟨rfl, hbn⟩
 have BN := Lib.hid (BN.out.trans (hbn.mono BN.out.size))
 clear hbn
 refine hK.out _ _ (HST.out _ BN.out) (fun _ => ?_)
 clear hK K'
 (try simp only [ax])
 refine wpAnyH_ready (rs := [11]) (by kernel_rfl) (by simp) ?_
 refine AllReadyH.cons rfl (fun K' hK => ?_) AllReadyH.nil
 go_simp
 refine ((same_below (compare_any p2 q2 _))).mono ?_
 rintro e wn ⟨rfl, hbn⟩
 have BN := Lib.hid (BN.out.trans (hbn.mono BN.out.size))
 clear hbn
 refine hK.out _ _ (HST.out _ BN.out) (fun _ => ?_)
 clear hK K'
 (try simp only [ax])
 refine wpAnyH_ready (rs := [18]) (by kernel_rfl) (by simp) ?_
 refine AllReadyH.cons rfl (fun K' hK => ?_) AllReadyH.nil
 go_simp
 refine ((same_below (compare_any p0 q0 _))).mono ?_
 rintro e wn ⟨rfl, hbn⟩
 have BN := Lib.hid (BN.out.trans (hbn.mono BN.out.size))
 clear hbn
 refine hK.out _ _ (HST.out _ BN.out) (fun _ => ?_)
 clear hK K'
 (try simp only [ax])
 refine wpAnyH_ready (rs := [23]) (by kernel_rfl) (by simp) ?_
 refine AllReadyH.cons rfl (fun K' hK => ?_) AllReadyH.nil
 go_simp
 refine ((same_below (compareI_any p6 q6 _))).mono ?_
 rintro e wn ⟨rfl, hbn⟩
 have BN := Lib.hid (BN.out.trans (hbn.mono BN.out.size))
 clear hbn
 refine hK.out _ _ (HST.out _ BN.out) (fun _ => ?_)
 clear hK K'
 (try simp only [ax])
 refine wpAnyH_ready (rs := [24]) (by kernel_rfl) (by simp) ?_
 refine AllReadyH.cons rfl (fun K' hK => ?_) AllReadyH.nil
 go_simp
 obtain ⟨wb24, hwb⟩ : ∃ W, W = (wn.alloc (.cells #[.int .i64 (cmpI p5 q5), .int .i64 (Pl.cmp p2 q2), .int .i64 (Pl.cmp p0 q0), .int .i64 (cmpI p6 q6)] 3)) := ⟨_, rfl⟩
 obtain ⟨gb24, hgb⟩ : ∃ g, g = wn.heap.size := ⟨_, rfl⟩
 have HBS24 : Hid (Rd wb24 wb24.heap.size (some ⟨gb24, 0, none⟩) [.int .i64 (cmpI p5 q5), .int .i64 (Pl.cmp p2 q2), .int .i64 (Pl.cmp p0 q0), .int .i64 (cmpI p6 q6)]) := Lib.hid (by rw [hwb, hgb]; exact (rd_one wn [.int .i64 (cmpI p5 q5), .int .i64 (Pl.cmp p2 q2), .int .i64 (Pl.cmp p0 q0), .int .i64 (cmpI p6 q6)] 3).mono (by simp))
 have hbn : Below wn.heap.size wn wb24 := by rw [hwb]; exact ((Below.refl _ _).alloc (Nat.le_refl _) _)
 have BN := Lib.hid (BN.out.trans (hbn.mono BN.out.size))
 rw [← hwb, ← hgb]
 clear hbn hwb hgb
 refine hK.out _ _ (HST.out _ BN.out) (fun _ => ?_)
 clear hK K'
 (try simp only [ax])
 refine wpAnyH_ready (rs := [25]) (by kernel_rfl) (by simp) ?_
 refine AllReadyH.cons rfl (fun K' hK => ?_) AllReadyH.nil
 go_simp
 refine ((same_below (or_any _ 4 4 [cmpI p5 q5, Pl.cmp p2 q2, Pl.cmp p0 q0, cmpI p6 q6] _ rfl (by decide) (by have := HBS24.out; exact this)))).mono ?_
 rintro e wn ⟨rfl, hbn⟩
 have BN := Lib.hid (BN.out.trans (hbn.mono BN.out.size))
 clear hbn
 refine hK.out _ _ (HST.out _ BN.out) (fun _ => ?_)
 clear hK K'
 (try simp only [ax])
 refine tkE 26 (.int .i64 (firstNZ [cmpI p5 q5, Pl.cmp p2 q2, Pl.cmp p0 q0, cmpI p6 q6])) rfl ?_
 (try simp only [ax])
 refine wpAnyH_done (by kernel_rfl) ?_ _
 refine NoPanic.normal ?_
 clear ST0
 go_wp2_with fail
 go_ret
 exact ⟨by rw [HV.out]; rfl, B1.out.trans (BN.out.mono B1.out.size)⟩
theorem tellsS : TellsC kstand 101 ordS := ⟨fun args W => by kernel_rfl, fun W a b ha hb => cinOrder a b W ha hb⟩
theorem lessO_S : lessO ordS = lessS := funext fun a => funext fun b => ordS_neg a b
theorem lessO_weak : Pl.Weak (lessO ordS) := by rw [lessO_S]; exact lessS_weak
end Go.Proofs.YtlkmccmbpnbgbaaGreat

namespace Go.Proofs.YtlkmccmbpnbgbaaGreat
set_option linter.unusedVariables false
open Go.RowKit
open Pl (firstG findG putG It firstG_none firstG_some)

set_option maxRecDepth 100000 in
theorem inser0stand (A : Option Addr) (c K : Nat) (w : World) : Calls Tryz.prog 154 #[.slice A 0 c, .int .i64 0, .int .i64 0, .func (.func K) #[] #[]] w fun e w' => e = .returned (.tuple #[]) ∧ w' = w := by
 go_enter Tryz.func154, Tryz.ntmps154
 go_wp2_with fail
 go_loopw [8] (fun iv wr => iv = .int .i64 1 ∧ Hid (wr = w)) (fun _ _ => 0)
 case atStart => exact ⟨rfl, Lib.hid rfl⟩
 case round =>
  obtain ⟨rfl, hwr⟩ := hrel
  go_wp2_with fail
  go_end0
  exact ⟨rfl, hwr.out⟩
set_option maxRecDepth 100000 in
theorem stab0stand (A : Option Addr) (c K : Nat) (w : World) : Calls Tryz.prog 133 #[.slice A 0 c, .int .i64 0, .func (.func K) #[] #[]] w fun e w' => e = .returned (.tuple #[]) ∧ w' = w := by
 have HI := Lib.hid (inser0stand A c K)
 go_enter Tryz.func133, Tryz.ntmps133
 go_wp2_with fail
 go_loopw [7, 8] (fun av bv wr => av = .int .i64 0 ∧ bv = .int .i64 20 ∧ Hid (wr = w)) (fun _ _ _ => 0)
 case atStart => exact ⟨rfl, rfl, Lib.hid rfl⟩
 case round =>
  obtain ⟨rfl, rfl, hwr⟩ := hrel
  go_wp2_with fail
  refine (HI.out _).mono ?_
  rintro e w1 ⟨rfl, hw1⟩
  have HW1 : Hid (w1 = w) := Lib.hid (hw1.trans hwr.out)
  clear hw1
  go_wp2_with fail
  go_loopw [6, 7, 8, 9] (fun sv av bv mv wr => sv = .int .i64 20 ∧ Hid (wr = w1)) (fun _ _ _ _ _ => 0)
  case atStart => exact ⟨rfl, Lib.hid rfl⟩
  case round =>
   obtain ⟨rfl, hwr2⟩ := hrel
   go_wp2_with fail
   go_end0
   exact ⟨rfl, hwr2.out.trans HW1.out⟩
set_option maxRecDepth 100000 in
theorem sort0stand (A : Option Addr) (c K : Nat) (w : World) : Calls Tryz.prog 100 #[.slice A 0 c, .func (.func K) #[] #[]] w fun e w' => e = .returned (.tuple #[]) ∧ w' = w := by
 have HI := Lib.hid (stab0stand A c K)
 go_enter Tryz.func100, Tryz.ntmps100
 go_wp2_with fail
 refine (HI.out _).mono ?_
 rintro e w1 ⟨rfl, hw1⟩
 have HW1 := Lib.hid hw1
 clear hw1
 go_wp2_with fail
 go_end0
 exact ⟨rfl, HW1.out⟩
/-- The sort of a new row, empty or not. -/
theorem sortAllstand (B n c K : Nat) (A : Option Addr) (ord : List Value → List Value → Int) (L : List (List Value)) (w : World) (hn : n = L.length) (hn6 : n ≤ 4000) (hM : Things kstand L) (hT : TellsC kstand K ord) (hW : Pl.Weak (lessO ord)) (ho : w.ownsRow B 159 8 (.slice A n c) n L.flatten) (hB : B ≤ w.heap.size) :
 Calls Tryz.prog 100 #[.slice A n c, .func (.func K) #[] #[]] w fun e w' => e = .returned (.tuple #[]) ∧ ∃ C, Pl.Stb (lessO ord) C L ∧ Pl.Srt (lessO ord) C ∧ w'.ownsRow B 159 8 (.slice A n c) n C.flatten ∧ Below B w w' := by
 rcases Nat.eq_zero_or_pos n with h0 | h0
 · have hL : L = [] := List.length_eq_zero_iff.1 (by omega)
   subst h0 hL
   exact (sort0stand A c K w).mono (fun e w' ⟨he, hw⟩ => ⟨he, [], Pl.Stb.refl _ _, Pl.Srt.nil, by rw [hw]; exact ho, by rw [hw]; exact Below.refl _ _⟩)
 · obtain ⟨g, rfl⟩ := own_some ho h0
   exact sortstand B g n c K ord L w hn hn6 hM hT hW ho hB
theorem stands_free {L : Nat → List (List Value)} {t : Nat → Int} {I : List Nat} {item : ByteArray} (hI : ∀ i ∈ I, elN L item i = true) : ∀ e ∈ I.map (stA L t), 0 < (sdOf e).free := fun e he => by
 obtain ⟨i, hi, rfl⟩ := List.mem_map.1 he
 have h := hI i hi
 unfold elN elB at h
 simp only [Bool.and_eq_true, decide_eq_true_eq] at h
 exact h.2.2.1
theorem ord_free (L : Nat → List (List Value)) (item : ByteArray) : ∀ e ∈ (ordP L item).map (stA L (fun _ => 0)), 0 < (sdOf e).free := stands_free (fun i hi => ((Pl.ordN_iff _ _).1 hi).2)
theorem stands_len (L : Nat → List (List Value)) (item : ByteArray) : (standsL L item).length ≤ (L 4).length := by unfold standsL; rw [List.length_map]; exact List.length_filter_le _ _
set_option maxRecDepth 100000 in
set_option maxHeartbeats 3200000 in
theorem cnaive (h : Hs) (L : Nat → List (List Value)) (s i : ByteArray) (q : Int) (w : World) (hh : HT h L w) (h6 : ∀ i, i < 14 → h.n i ≤ 1000) (hq : Wf q) :
 Calls Tryz.prog 68 #[.agg h.cells, .string s, .string i, .int .i64 q] w (TakesP (pickL L s i q) w) := by
 have HHT := Lib.hid hh
 have h4 := h6 4 (by decide)
 have HL4 : Hid ((L 4).length ≤ 1000) := Lib.hid (by rw [← (hh 4 (by decide)).1]; exact h4)
 have HQ := Lib.hid hq
 have H64 := Lib.hid h4
 clear hq h6 h4
 obtain ⟨W0, hW0⟩ : ∃ W0, W0 = (w.alloc (.cells h.cells 37)) := ⟨_, rfl⟩
 have hb0 : Below w.heap.size w W0 := by rw [hW0]; exact (Below.refl _ _).alloc (Nat.le_refl _) _
 have hs0 : W0.heap.size = w.heap.size + 1 := by rw [hW0]; simp
 have HH : Hid (∀ W, Below W0.heap.size W0 W → W.heap[w.heap.size]? = some (.cells h.cells 37 (0, 0))) := Lib.hid (fun W hW => (hW.block _ (by omega)).trans (by
  rw [hW0]
  have hq := heap_alloc_new w (.cells h.cells 37)
  exact (by simpa using hq)))
 have HBW : Hid (∀ W, Below W0.heap.size W0 W → Below w.heap.size w W ∧ w.heap.size + 1 ≤ W.heap.size) := Lib.hid (fun W hW => ⟨hb0.trans (hW.mono (by omega)), by have := hW.size; omega⟩)
 have huh := Tryz.underlying37
 have HSH : Hid (∀ a : Hs, (Tryz.prog.info? 37).map (·.size) = some a.cells.size) := Lib.hid (fun a => by kernel_rfl)
 have H0 := Lib.hid (Below.refl W0.heap.size W0)
 clear hb0 hs0 hh
 subst hW0
 go_enter Tryz.func68, Tryz.ntmps68
 go_wp2_with (first
  | (refine wpList_load_row rfl 37 (.tmp 4) rfl w.heap.size rfl _ _ _ _ (HH.out _ H0.out) huh rfl (HSH.out _) ?_)
  | fail)
 refine (cstands h L i _ (HHT.out.below (HBW.out _ H0.out).1) H64.out).mono ?_
 rintro e w1 ⟨A, n, cc, hn, rfl, hown, hb1, hsz1⟩
 have H1 := Lib.hid (H0.out.trans (hb1.mono H0.out.size))
 have HN := Lib.hid hn
 have HOW := Lib.hid hown
 have HSZ1 := Lib.hid hsz1
 clear hb1 hn hown hsz1
 go_wp2_with fail
 refine (sortAllstand _ n cc _ A ordS (standsL L i) _ HN.out (by have := HN.out; have := stands_len L i; have := HL4.out; omega) (stands_things L i) tellsS lessO_weak HOW.out HSZ1.out).mono ?_
 rintro e w2 ⟨rfl, Cc, hp, hs, hown, hb2⟩
 rw [lessO_S] at hp hs
 have HC := naive_list hs hp
 have HLE : Hid (n = Cc.length ∧ n ≤ 1000) := Lib.hid ⟨HN.out.trans hp.length_eq.symm, by have := HN.out; have := stands_len L i; have := HL4.out; omega⟩
 have HC2 := Lib.hid HC
 have HO2 := Lib.hid hown
 have H2 : Hid (Below w.heap.size w w2) := Lib.hid ((HBW.out _ H1.out).1.trans (hb2.mono (by simp <;> omega)))
 clear HC hp hs hown hb2
 go_wp2_with fail
 refine (ctakes A n cc Cc s q _ HLE.out.1 HLE.out.2 (by rw [HC2.out]; exact things_st _ _ _) (by rw [HC2.out]; exact ord_free L i) (Rd.of_own HO2.out) HQ.out).mono ?_
 rintro e w3 ⟨hb3, A3, c3, rfl, hr3⟩
 have H3 := Lib.hid (H2.out.trans (hb3.mono H2.out.size))
 have HR3 := Lib.hid hr3
 have HE : Hid (cutS s Cc q = pickL L s i q) := Lib.hid (by rw [HC2.out]; exact pick_of L _ s i q)
 clear hb3 hr3
 go_wp2_with fail
 go_ret
 exact ⟨H3.out, A3, c3, by rw [← HE.out]; rfl, by rw [← HE.out]; exact HR3.out⟩
end Go.Proofs.YtlkmccmbpnbgbaaGreat
