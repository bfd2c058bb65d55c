/-
  THE LAW UnitsBack, over the contracts. (By wip/tools/gen_uback.py.)
-/
import Derived.Test.YtdcnkchhdmppeaaUSame
import Derived.Test.YtdcnkchhdmppeaaURow
import Derived.Deep.RegionHeld3
namespace Go.Proofs.Ytdcnkchhdmppeaa.unitsBack
set_option linter.unusedVariables false
open Go.RowKit
open Pl (It)

theorem range_row {w : World} {b : Nat} {cs : List Value} {t : TypeId} (h : w.heap[b]? = some (.cells cs.toArray t (0, 0))) : w.rangeAt b 0 cs := fun i v hv => by rw [cell_of_block h, List.getElem?_toArray, Nat.zero_add]; exact hv
theorem sum_nonneg {x : It} : ∀ {l : List Pr}, (∀ p ∈ l, 1 ≤ p.2 ∧ 1 ≤ Pl.factorU x p.1) → 0 ≤ Pl.sumU x l
  | [], _ => Int.le_refl _
  | p :: l, h => by
    have h1 := h p (List.mem_cons_self ..)
    have h2 := sum_nonneg (x := x) (l := l) (fun q hq => h q (List.mem_cons_of_mem _ hq))
    have h3 := Int.mul_nonneg (by omega : 0 ≤ p.2) (by omega : 0 ≤ Pl.factorU x p.1)
    show 0 ≤ p.2 * Pl.factorU x p.1 + Pl.sumU x l
    omega

set_option maxRecDepth 100000 in
set_option maxHeartbeats 1600000 in
theorem walk (cs : List Value) (n : Int) (w : World) (hf : Fits kItem cs) (hm : ∀ u ∈ cs, Mild u) (hn : Wf n) :
    Calls Try.prog 4 #[.agg cs.toArray, .int .i64 n] w fun e w' => e = .returned (.bool true) ∧ Below w.heap.size w w' := by
  obtain ⟨x, rfl⟩ := It.of hf
  clear hf hm
  have HSC : Hid (∀ W, Calls Try.prog 11 #[.agg x.cells.toArray, .int .i64 n] W (NewP W (Pl.splitU x n))) := Lib.hid (fun W => split_any x n W hn.1 hn.2)
  have hn2 := hn
  unfold Wf at hn2
  clear hn
  have HBA : Hid (Below w.heap.size w (w.alloc (.cells x.cells.toArray 26))) := Lib.hid ((Below.refl _ w).alloc (Nat.le_refl _) _)
  have HX0 : Hid ((w.alloc (.cells x.cells.toArray 26)).heap[w.heap.size]? = some (.cells x.cells.toArray 26 (0, 0))) := Lib.hid (heap_alloc_new _ _)
  have hui := Try.underlying26
  have HSX : Hid ((Try.prog.info? 26).map (·.size) = some x.cells.toArray.size) := Lib.hid (by rw [show (Try.prog.info? 26).map (·.size) = some 14 from by kernel_rfl]; rfl)
  have HSL : Hid ((Try.prog.info? 26).map (·.size) = some x.cells.length) := HSX
  by_cases h1 : n < 1
  · have HNL : Hid (Pl.splitU x n = []) := Lib.hid (Pl.splitU_nil x h1)
    rw [HNL.out] at HSC
    go_enter Try.func4, Try.ntmps4
    have h0 : ¬ 0 < n := by omega
    go_wp2_with (first
      | (refine BigFrame.wpList_want (by kernel_rfl) (fun K hK => Go.wp_load_mid 26 (.tmp 2) rfl w.heap.size 0 rfl x.cells _ (range_row HX0.out) hui rfl HSL.out (hK _ _ ?_)); clear hK K)
      | fail)
    refine (HSC.out _).mono ?_
    rintro e w1 ⟨A, m, c, hm, rfl, _, hb1⟩
    obtain rfl : m = 0 := hm
    have B1 := Lib.hid (HBA.out.trans (hb1.mono HBA.out.size))
    clear hb1
    go_wp2_with fail
    refine (awake_any _).mono ?_
    rintro e w2 ⟨rfl, hb2⟩
    have B2 := Lib.hid (B1.out.trans (hb2.mono B1.out.size))
    clear hb2
    go_wp2_with fail
    go_ret
    exact ⟨rfl, B2.out⟩
  by_cases h2 : 1000000000 < n
  · go_enter Try.func4, Try.ntmps4
    have h0 : 0 < n := by omega
    go_wp2_with fail
    refine (awake_any _).mono ?_
    rintro e w2 ⟨rfl, hb2⟩
    have B2 := Lib.hid (HBA.out.trans (hb2.mono HBA.out.size))
    clear hb2
    go_wp2_with fail
    go_ret
    exact ⟨rfl, B2.out⟩
  have HEA : Hid (∀ p ∈ Pl.splitU x n, 1 ≤ p.2 ∧ 1 ≤ Pl.factorU x p.1 ∧ p.2 * Pl.factorU x p.1 ≤ n) := Lib.hid (Pl.splitU_each x (by omega))
  have HSU : Hid (Pl.sumU x (Pl.splitU x n) = n) := Lib.hid (Pl.splitU_sum x (by omega))
  have HLE : Hid ((Pl.splitU x n).length ≤ 5) := Lib.hid (split_len x n)
  have HPO : Hid (1 ≤ (Pl.splitU x n).length) := Lib.hid (by
    cases h : Pl.splitU x n with
    | nil => have := HSU.out; rw [h] at this; have : (0 : Int) = n := this; omega
    | cons p l => simp)
  obtain ⟨l, hl⟩ : ∃ l, Pl.splitU x n = l := ⟨_, rfl⟩
  rw [hl] at HSC HEA HSU HLE HPO
  clear hl
  go_enter Try.func4, Try.ntmps4
  go_wp2_with (first
    | (refine wpList_load_row rfl 26 (.tmp 2) rfl w.heap.size rfl _ _ _ _ HX0.out hui rfl HSX.out ?_)
    | fail)
  refine (HSC.out _).mono ?_
  rintro e w1 ⟨A, m, c, hm, rfl, hown, hb1⟩
  have HM := Lib.hid hm
  have hm5 : m ≤ 5 := by rw [hm]; exact HLE.out
  have hm1 : 1 ≤ m := by rw [hm]; exact HPO.out
  obtain ⟨g, rfl⟩ := own_some hown (by omega)
  have HU1 := Lib.hid (UC.of_own hown (own_lt hown) hm)
  have HX1 := Lib.hid ((hb1.block _ (lt_of_block HX0.out)).trans HX0.out)
  have B1 := Lib.hid (HBA.out.trans (hb1.mono HBA.out.size))
  clear hb1 hm hown
  go_wp2_with fail
  go_loopw [6, 7] (fun nv iv wr => ∃ (k : Nat) (acc : Int), k ≤ m ∧ iv = .int .i64 (k : Int) ∧ nv = .int .i64 acc ∧ 0 ≤ acc ∧ acc ≤ n ∧ Hid (acc + Pl.sumU x (l.drop k) = n) ∧ Hid (Below w1.heap.size w1 wr)) (fun _ iv _ => m - (intOf iv).toNat)
  case atStart => exact ⟨0, 0, by omega, rfl, rfl, by omega, by omega, Lib.hid (by rw [List.drop_zero, HSU.out]; omega), Lib.hid (Below.refl _ _)⟩
  case round =>
    obtain ⟨k, acc, hk, rfl, rfl, ha0, ha1, hsum, BN⟩ := hrel
    by_cases hlt : k < m
    · have hkl : k < l.length := by rw [← HM.out]; exact hlt
      have hea := HEA.out l[k] (List.getElem_mem hkl)
      have hdr := hsum.out
      rw [List.drop_eq_getElem_cons hkl] at hdr
      have hc := HU1.out.2 k hkl
      have hrest := sum_nonneg (x := x) (l := l.drop (k + 1)) (fun p hp => ⟨(HEA.out p (List.mem_of_mem_drop hp)).1, (HEA.out p (List.mem_of_mem_drop hp)).2.1⟩)
      obtain ⟨u, hu⟩ : ∃ u, l[k] = u := ⟨_, rfl⟩
      rw [hu] at hea hdr hc
      clear hu hkl
      obtain ⟨s, z⟩ := u
      simp only at hea hc
      obtain ⟨e1, e2, e3⟩ := hea
      have hzz : z ≤ z * Pl.factorU x s := by
        have := Int.mul_le_mul_of_nonneg_left e2 (by omega : 0 ≤ z)
        rwa [Int.mul_one] at this
      have hok := Pl.baseU_ok e1 e2 (Int.le_trans e3 (by omega))
      have hdr2 : acc + (z * Pl.factorU x s + Pl.sumU x (l.drop (k + 1))) = n := hdr
      obtain ⟨P, hP⟩ : ∃ P, z * Pl.factorU x s = P := ⟨_, rfl⟩
      rw [hP] at hdr2 e3 hzz hok
      have HCB : Hid (∀ W, Calls Try.prog 8 #[.agg x.cells.toArray, .string s, .int .i64 z] W fun e w' => e = .returned (.tuple #[.int .i64 P, .int .i64 0]) ∧ Below W.heap.size W w') := Lib.hid (fun W => (base_any x s z W (by omega) (by omega)).mono fun e w' ⟨h1, h2⟩ => ⟨by rw [h1, hok.1, hok.2]; rfl, h2⟩)
      have HNX : Hid (acc + P + Pl.sumU x (l.drop (k + 1)) = n) := Lib.hid (by omega)
      have hP1 : 1 ≤ P := by omega
      have hP2 : acc + P ≤ n := by omega
      have HS1 : Hid (w1.heap.size ≤ w1.heap.size) := Lib.hid (Nat.le_refl _)
      have HST : Hid (∀ W, Below w1.heap.size w1 W → W.rangeAt w.heap.size 0 x.cells ∧ W.cell? ⟨g, k * 2, none⟩ = some (.string s) ∧ W.cell? ⟨g, k * 2 + 1, none⟩ = some (.int .i64 z)) := Lib.hid (fun W hW => ⟨range_row ((hW.block _ (lt_of_block HX1.out)).trans HX1.out), (hW.cell (p := ⟨g, k * 2, none⟩) HU1.out.1).trans hc.1, (hW.cell (p := ⟨g, k * 2 + 1, none⟩) HU1.out.1).trans hc.2⟩)
      clear hdr hdr2 hrest hok hP hc e1 e2 e3 hzz hsum
      go_wp2_with fail
      have BN := Lib.hid BN.out.drew
      have ST0 := HST.out _ BN.out
      refine wp_region_noPanic ?_
      refine wp_region_held_drew (S := (fun w' => w'.rangeAt w.heap.size 0 x.cells ∧ w'.cell? ⟨g, k * 2, none⟩ = some (.string s) ∧ w'.cell? ⟨g, k * 2 + 1, none⟩ = some (.int .i64 z))) (by kernel_rfl) ST0 (fun dd0 => ?_)
      refine wpAnyH_take (i := 0) (v := .agg x.cells.toArray) rfl (by kernel_rfl) (by kernel_rfl) (by kernel_rfl) (fun _ _ _ h => h.elim) (yieldsIf_load_mid (by kernel_rfl) 26 (.tmp 2) rfl w.heap.size 0 rfl x.cells _ (fun w h => h.1) hui rfl HSL.out) (by assumption) ?_
      (try simp only [Act.put, List.getElem_toArray, List.getElem_cons_zero, List.setIfInBounds_toArray, List.set_cons_zero, List.set_cons_succ])
      refine wpAnyH_take (i := 1) (v := .slice (some ⟨g, 0, none⟩) m c) rfl (by kernel_rfl) (by kernel_rfl) (by kernel_rfl) (fun _ _ _ h => h.elim) (.inl ⟨by kernel_rfl, fun w hw => by clear hw; go_simp⟩) (by assumption) ?_
      (try simp only [Act.put, List.getElem_toArray, List.getElem_cons_succ, List.getElem_cons_zero, List.setIfInBounds_toArray, List.set_cons_zero, List.set_cons_succ])
      refine wpAnyH_take (i := 2) (v := .int .i64 (k : Int)) rfl (by kernel_rfl) (by kernel_rfl) (by kernel_rfl) (fun _ _ _ h => h.elim) (.inl ⟨by kernel_rfl, fun w hw => by clear hw; go_simp⟩) (by assumption) ?_
      (try simp only [Act.put, List.getElem_toArray, List.getElem_cons_succ, List.getElem_cons_zero, List.setIfInBounds_toArray, List.set_cons_zero, List.set_cons_succ])
      refine wpAnyH_take (i := 3) (v := .pointer (some ⟨g, k * 2, none⟩)) rfl (by kernel_rfl) (by kernel_rfl) (by kernel_rfl) (fun _ _ _ h => h.elim) (.inl ⟨by kernel_rfl, fun w hw => by clear hw; go_simp⟩) (by assumption) ?_
      (try simp only [Act.put, List.getElem_toArray, List.getElem_cons_succ, List.getElem_cons_zero, List.setIfInBounds_toArray, List.set_cons_zero, List.set_cons_succ])
      refine wpAnyH_take (i := 4) (v := .pointer (some ⟨g, k * 2, none⟩)) rfl (by kernel_rfl) (by kernel_rfl) (by kernel_rfl) (fun _ _ _ h => h.elim) (.inl ⟨by kernel_rfl, fun w hw => by clear hw; go_simp⟩) (by assumption) ?_
      (try simp only [Act.put, List.getElem_toArray, List.getElem_cons_succ, List.getElem_cons_zero, List.setIfInBounds_toArray, List.set_cons_zero, List.set_cons_succ])
      refine wpAnyH_take (i := 5) (v := .string s) rfl (by kernel_rfl) (by kernel_rfl) (by kernel_rfl) (fun _ _ _ h => h.elim) (.inl ⟨by kernel_rfl, fun w hw => by obtain ⟨_, hc0, hc1⟩ := hw; go_simp⟩) (by assumption) ?_
      (try simp only [Act.put, List.getElem_toArray, List.getElem_cons_succ, List.getElem_cons_zero, List.setIfInBounds_toArray, List.set_cons_zero, List.set_cons_succ])
      refine wpAnyH_take (i := 6) (v := .slice (some ⟨g, 0, none⟩) m c) rfl (by kernel_rfl) (by kernel_rfl) (by kernel_rfl) (fun _ _ _ h => h.elim) (.inl ⟨by kernel_rfl, fun w hw => by clear hw; go_simp⟩) (by assumption) ?_
      (try simp only [Act.put, List.getElem_toArray, List.getElem_cons_succ, List.getElem_cons_zero, List.setIfInBounds_toArray, List.set_cons_zero, List.set_cons_succ])
      refine wpAnyH_take (i := 7) (v := .int .i64 (k : Int)) rfl (by kernel_rfl) (by kernel_rfl) (by kernel_rfl) (fun _ _ _ h => h.elim) (.inl ⟨by kernel_rfl, fun w hw => by clear hw; go_simp⟩) (by assumption) ?_
      (try simp only [Act.put, List.getElem_toArray, List.getElem_cons_succ, List.getElem_cons_zero, List.setIfInBounds_toArray, List.set_cons_zero, List.set_cons_succ])
      refine wpAnyH_take (i := 8) (v := .pointer (some ⟨g, k * 2, none⟩)) rfl (by kernel_rfl) (by kernel_rfl) (by kernel_rfl) (fun _ _ _ h => h.elim) (.inl ⟨by kernel_rfl, fun w hw => by clear hw; go_simp⟩) (by assumption) ?_
      (try simp only [Act.put, List.getElem_toArray, List.getElem_cons_succ, List.getElem_cons_zero, List.setIfInBounds_toArray, List.set_cons_zero, List.set_cons_succ])
      refine wpAnyH_take (i := 9) (v := .pointer (some ⟨g, k * 2 + 1, none⟩)) rfl (by kernel_rfl) (by kernel_rfl) (by kernel_rfl) (fun _ _ _ h => h.elim) (.inl ⟨by kernel_rfl, fun w hw => by clear hw; go_simp⟩) (by assumption) ?_
      (try simp only [Act.put, List.getElem_toArray, List.getElem_cons_succ, List.getElem_cons_zero, List.setIfInBounds_toArray, List.set_cons_zero, List.set_cons_succ])
      refine wpAnyH_take (i := 10) (v := .int .i64 z) rfl (by kernel_rfl) (by kernel_rfl) (by kernel_rfl) (fun _ _ _ h => h.elim) (.inl ⟨by kernel_rfl, fun w hw => by obtain ⟨_, hc0, hc1⟩ := hw; go_simp⟩) (by assumption) ?_
      (try simp only [Act.put, List.getElem_toArray, List.getElem_cons_succ, List.getElem_cons_zero, List.setIfInBounds_toArray, List.set_cons_zero, List.set_cons_succ])
      refine wpAnyH_ready (rs := [11]) (by kernel_rfl) (by simp) ?_
      refine AllReadyH.cons rfl (fun K' hK => ?_) AllReadyH.nil
      go_simp
      refine (HCB.out _).mono ?_
      rintro e wn ⟨rfl, hbn⟩
      have BN := Lib.hid (BN.out.trans (hbn.mono (Nat.le_trans HS1.out BN.out.size)))
      clear hbn
      refine hK.out _ _ (HST.out _ BN.out) (fun _ => ?_)
      clear hK K'
      (try simp only [Act.put, List.getElem_toArray, List.getElem_cons_succ, List.getElem_cons_zero, List.setIfInBounds_toArray, List.set_cons_zero, List.set_cons_succ])
      refine wpAnyH_take (i := 12) (v := .tuple #[.int .i64 P, .int .i64 0]) rfl (by kernel_rfl) (by kernel_rfl) (by kernel_rfl) (fun _ _ _ h => h.elim) (.inl ⟨by kernel_rfl, fun w hw => by clear hw; go_simp⟩) (by assumption) ?_
      (try simp only [Act.put, List.getElem_toArray, List.getElem_cons_succ, List.getElem_cons_zero, List.setIfInBounds_toArray, List.set_cons_zero, List.set_cons_succ])
      refine wpAnyH_take (i := 13) (v := .int .i64 P) rfl (by kernel_rfl) (by kernel_rfl) (by kernel_rfl) (fun _ _ _ h => h.elim) (.inl ⟨by kernel_rfl, fun w hw => by clear hw; go_simp⟩) (by assumption) ?_
      (try simp only [Act.put, List.getElem_toArray, List.getElem_cons_succ, List.getElem_cons_zero, List.setIfInBounds_toArray, List.set_cons_zero, List.set_cons_succ])
      refine wpAnyH_take (i := 14) (v := .int .i64 0) rfl (by kernel_rfl) (by kernel_rfl) (by kernel_rfl) (fun _ _ _ h => h.elim) (.inl ⟨by kernel_rfl, fun w hw => by clear hw; go_simp⟩) (by assumption) ?_
      (try simp only [Act.put, List.getElem_toArray, List.getElem_cons_succ, List.getElem_cons_zero, List.setIfInBounds_toArray, List.set_cons_zero, List.set_cons_succ])
      refine wpAnyH_take (i := 15) (v := .int .i64 P) rfl (by kernel_rfl) (by kernel_rfl) (by kernel_rfl) (fun _ _ _ h => h.elim) (.inl ⟨by kernel_rfl, fun w hw => by clear hw; go_simp⟩) (by assumption) ?_
      (try simp only [Act.put, List.getElem_toArray, List.getElem_cons_succ, List.getElem_cons_zero, List.setIfInBounds_toArray, List.set_cons_zero, List.set_cons_succ])
      refine wpAnyH_take (i := 16) (v := .int .i64 0) rfl (by kernel_rfl) (by kernel_rfl) (by kernel_rfl) (fun _ _ _ h => h.elim) (.inl ⟨by kernel_rfl, fun w hw => by clear hw; go_simp⟩) (by assumption) ?_
      (try simp only [Act.put, List.getElem_toArray, List.getElem_cons_succ, List.getElem_cons_zero, List.setIfInBounds_toArray, List.set_cons_zero, List.set_cons_succ])
      refine wpAnyH_done (by kernel_rfl) ?_ _
      refine NoPanic.normal ?_
      clear ST0
      go_wp2_with fail
      go_roundw
      case rel => exact ⟨k + 1, acc + P, by omega, by go_num, rfl, by omega, by omega, HNX, BN⟩
      case measure => simp [intOf]; omega
    · obtain rfl : k = m := by omega
      have HEN : Hid (acc = n) := Lib.hid (by have := hsum.out; rw [List.drop_eq_nil_of_le (by rw [HM.out]; omega)] at this; have : acc + 0 = n := this; omega)
      have hen := HEN.out
      clear hsum
      subst hen
      go_wp2_with fail
      refine (awake_any _).mono ?_
      rintro e w2 ⟨rfl, hb2⟩
      have B2 := Lib.hid (B1.out.trans ((BN.out.trans (hb2.mono BN.out.size)).mono B1.out.size))
      clear hb2
      go_wp2_with fail
      go_ret
      exact ⟨rfl, B2.out⟩
end Go.Proofs.Ytdcnkchhdmppeaa.unitsBack
