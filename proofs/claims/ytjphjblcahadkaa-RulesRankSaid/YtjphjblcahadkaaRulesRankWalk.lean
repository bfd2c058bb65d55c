/-
  THE LAW RulesRank, over the contracts. (By wip/tools/gen_rank13.py.)
-/
import Derived.Test.YtjphjblcahadkaaUHead
import Derived.Test.YtjphjblcahadkaaURank
import Derived.Test.YtjphjblcahadkaaHAppK
import Derived.Deep.RegionHeld3
import Derived.Deep.CutRange
import Derived.BigQuiet
namespace Go.Proofs.Ytjphjblcahadkaa.rulesRank
set_option linter.unusedVariables false
open Go.RowKit
open Pl (firstG findG putG)

set_option maxRecDepth 100000 in
set_option maxHeartbeats 12800000 in
theorem walk0 (C : Cons) (h : Hs) (L : Nat → List (List Value)) (st it : ByteArray) (nq : Int) (zn : ByteArray) (w : World) (hin : HIn h L w) (hq : Wf nq) :
    Calls Try.prog 4 #[.agg h.cells, .agg #[.string st, .string it, .int .i64 nq], .string zn] w fun e w' => e = .returned (.bool true) ∧ Below w.heap.size w w' := by
  have HIN := Lib.hid hin
  have HCO := Lib.hid C
  have HWQ := Lib.hid hq
  have HAW : Hid (∀ W, Calls Try.prog 6 #[] W fun e w' => e = .returned (.bool true) ∧ Below W.heap.size W w') := Lib.hid (fun W => awake_any C W)
  obtain ⟨m5, hm5⟩ : ∃ m, h.n 5 = m := ⟨_, rfl⟩
  have HM5 : Hid (m5 = (L 5).length) := Lib.hid (by rw [← hm5]; exact hin.n 5 (by decide))
  have HMM5 := Lib.hid hm5
  clear hm5
  obtain ⟨i0, hi0, hz0, hz1, hz2⟩ := info_parts (show (Try.prog.info? 48).map (fun i => (i.zero, i.size, i.bytes)) = some (some (.agg #[.string ByteArray.empty, .string ByteArray.empty, .int .i64 0]), 3, 40) from by kernel_rfl)
  obtain ⟨W0, hW0⟩ : ∃ W0, W0 = ((w.alloc (.cells h.cells 37)).alloc (.cells #[.string st, .string it, .int .i64 nq] 39)) := ⟨_, rfl⟩
  have B0 : Hid (Below w.heap.size w W0) := Lib.hid (by rw [hW0]; exact ((Below.refl _ _).alloc (Nat.le_refl _) _).alloc (by simp <;> omega) _)
  have HH0 : Hid (W0.heap[w.heap.size]? = some (.cells h.cells 37 (0, 0))) := Lib.hid (by
    rw [hW0]
    have hq := heap_alloc_new w (.cells h.cells 37)
    exact (Below.heap_alloc _ _ _ (by simp <;> omega)).trans (by simpa using hq))
  have HAQ0 : Hid (W0.heap[w.heap.size + 1]? = some (.cells #[.string st, .string it, .int .i64 nq] 39 (0, 0))) := Lib.hid (by
    rw [hW0]
    have hq := heap_alloc_new (w.alloc (.cells h.cells 37)) (.cells #[.string st, .string it, .int .i64 nq] 39)
    exact by simpa using hq)
  have huh := Try.underlying37
  have HSH : Hid (∀ a : Hs, (Try.prog.info? 37).map (·.size) = some a.cells.size) := Lib.hid (fun a => by kernel_rfl)
  have HSHL : Hid (∀ a : Hs, (Try.prog.info? 37).map (·.size) = some a.cells.toList.length) := Lib.hid (fun a => by kernel_rfl)
  have H1C : Hid (∀ a : Hs, a.cells.all (·.oneCell') = true) := Lib.hid (fun a => by simp [Hs.cells, Value.oneCell'])
  have huAsk := Try.underlying39
  have HSAsk : Hid ((Try.prog.info? 39).map (·.size) = some 3) := Lib.hid (by kernel_rfl)
  clear hin C hq
  subst hW0
  go_enter Try.func4, Try.ntmps4
  go_wp2_with (first
    | (refine wpList_load_row rfl 37 (.tmp 3) rfl w.heap.size rfl _ _ _ _ HH0.out huh rfl (HSH.out _) ?_)
    | fail)
  refine (small_calls h _).mono ?_
  rintro e w1 ⟨⟨b, rfl, hb⟩, hb1⟩
  have HH1 := Lib.hid ((hb1.block _ (lt_of_block HH0.out)).trans HH0.out)
  have HAQ1 := Lib.hid ((hb1.block _ (lt_of_block HAQ0.out)).trans HAQ0.out)
  have B1 := Lib.hid (B0.out.trans (hb1.mono B0.out.size))
  clear hb1
  cases b with
  | false =>
    clear hb
    go_wp2_with fail
    refine (HAW.out _).mono ?_
    rintro e w2 ⟨rfl, hb2⟩
    have HB2 := Lib.hid (B1.out.trans (hb2.mono B1.out.size))
    clear hb2
    go_wp2_with fail
    go_ret
    exact ⟨rfl, HB2.out⟩
  | true =>
    have HSM := Lib.hid (hb.1 rfl)
    clear hb
    have HT1 : Hid (HT h L w1) := Lib.hid (HIN.out.ht HSM.out B1.out)
    have HN : Hid (∀ i, i < 14 → h.n i ≤ 1000) := Lib.hid (fun i hi => Nat.le_trans (HSM.out i hi) (cap_le i hi))
    have hm59 : m5 ≤ 1000 := by rw [← HMM5.out]; exact HN.out 5 (by decide)
    have HCL : Hid (∀ W, Below w1.heap.size w1 W → W.cell? ⟨w.heap.size, 5, none⟩ = some (.slice (h.A 5) m5 (h.c 5)) ∧ w.heap.size < W.heap.size) := Lib.hid (fun W hW => by
      have q := (hW.block _ (lt_of_block HH1.out)).trans HH1.out
      exact ⟨by rw [cell_of_block q, ← HMM5.out]; rfl, lt_of_block q⟩)
    go_wp2_with fail
    go_loopw [7] (fun i wr => ∃ k : Nat, k ≤ m5 ∧ i = .int .i64 (k : Int) ∧ Hid (∀ q, q < k → 1 ≤ (rlA (L 5) q).rank) ∧ Hid (Below w1.heap.size w1 wr)) (fun i _ => m5 - (intOf i).toNat)
    case atStart => exact ⟨0, by omega, rfl, Lib.hid (fun q hq => by omega), Lib.hid (Below.refl _ _)⟩
    case round =>
      obtain ⟨k, hk, rfl, hrk, hw⟩ := hrel
      obtain ⟨d5, dlt⟩ := HCL.out _ hw.out
      by_cases hlt : k < m5
      ·
        obtain ⟨b, off, hA, hb, r1⟩ := rule_at (HT1.out.below hw.out) (k := k) (by rw [← HM5.out]; exact hlt)
        obtain ⟨y, hy⟩ : ∃ y, rlA (L 5) k = y := ⟨_, rfl⟩
        have HYE := Lib.hid hy
        rw [hy] at r1
        obtain ⟨yi, yz, yr⟩ := y
        have z2 : _ = some (Value.int .i64 yr) := r1 2 (.int .i64 yr) rfl
        rw [hA] at d5
        have i1 : (0 : Int) ≤ (k : Int) := by omega
        have i2 : (k : Int) < (m5 : Int) := by omega
        clear r1 hy hA
        by_cases hy1 : yr < 1
        ·
          go_wp2_with fail
          refine (HAW.out _).mono ?_
          rintro e w9 ⟨rfl, hb9⟩
          have BN := Lib.hid (B1.out.trans ((hw.out.trans (hb9.mono hw.out.size)).mono B1.out.size))
          clear hb9
          go_wp2_with fail
          go_ret
          exact ⟨rfl, BN.out⟩
        ·
          have HNX : Hid (∀ q, q < k + 1 → 1 ≤ (rlA (L 5) q).rank) := Lib.hid (fun q hq => by
            by_cases h2 : q = k
            · subst h2; rw [HYE.out]; show (1 : Int) ≤ yr; omega
            · exact hrk.out q (by omega))
          go_wp2_with fail
          go_roundw
          case rel => exact ⟨k + 1, by omega, by go_num, HNX, hw⟩
          case measure => simp [intOf]; omega
      ·
        have HFA := Lib.hid (rank_fact (LI := L 0) (LZ := L 2) (LB := L 3) (LQ := L 4) (LR := L 5) (st := st) (it := it) (zn := zn) (n := nq) (fun q hq => hrk.out q (by rw [← HM5.out] at hq; omega)))
        obtain ⟨s1, hs1⟩ : ∃ z, sugT (L 0) (L 2) (L 3) (L 4) [oneR it zn] st it nq = z := ⟨_, rfl⟩
        obtain ⟨e1, he1⟩ : ∃ z : Nat, sugE (L 0) (L 2) (L 3) (L 4) [oneR it zn] st it nq = z := ⟨_, rfl⟩
        rw [hs1, he1] at HFA
        have CG1 : Hid (∀ (g : Hs) (G : Nat → List (List Value)) W, HT g G W → g.n 3 ≤ 1000 → g.n 5 ≤ 1001 → G 0 = L 0 → G 2 = L 2 → G 3 = L 3 → G 4 = L 4 → G 5 = [oneR it zn] → Calls Try.prog 7 #[.agg g.cells, .string st, .string it, .int .i64 nq] W fun e w' => e = .returned (.tuple #[.string s1, .int .i64 (e1 : Nat)]) ∧ Below W.heap.size W w') := Lib.hid (fun g G W hW h3 h5 q0 q2 q3 q4 q5 => by
          have := HCO.out.sug g G st it nq W hW h3 h5 HWQ.out
          rw [q0, q2, q3, q4, q5, hs1, he1] at this
          exact this)
        obtain ⟨s2, hs2⟩ : ∃ z, sugT (L 0) (L 2) (L 3) (L 4) (L 5 ++ [oneR it zn]) st it nq = z := ⟨_, rfl⟩
        obtain ⟨e2, he2⟩ : ∃ z : Nat, sugE (L 0) (L 2) (L 3) (L 4) (L 5 ++ [oneR it zn]) st it nq = z := ⟨_, rfl⟩
        rw [hs2, he2] at HFA
        have CG2 : Hid (∀ (g : Hs) (G : Nat → List (List Value)) W, HT g G W → g.n 3 ≤ 1000 → g.n 5 ≤ 1001 → G 0 = L 0 → G 2 = L 2 → G 3 = L 3 → G 4 = L 4 → G 5 = (L 5 ++ [oneR it zn]) → Calls Try.prog 7 #[.agg g.cells, .string st, .string it, .int .i64 nq] W fun e w' => e = .returned (.tuple #[.string s2, .int .i64 (e2 : Nat)]) ∧ Below W.heap.size W w') := Lib.hid (fun g G W hW h3 h5 q0 q2 q3 q4 q5 => by
          have := HCO.out.sug g G st it nq W hW h3 h5 HWQ.out
          rw [q0, q2, q3, q4, q5, hs2, he2] at this
          exact this)
        obtain ⟨s3, hs3⟩ : ∃ z, sugT (L 0) (L 2) (L 3) (L 4) (L 5) st it nq = z := ⟨_, rfl⟩
        obtain ⟨e3, he3⟩ : ∃ z : Nat, sugE (L 0) (L 2) (L 3) (L 4) (L 5) st it nq = z := ⟨_, rfl⟩
        rw [hs3, he3] at HFA
        have CG3 : Hid (∀ (g : Hs) (G : Nat → List (List Value)) W, HT g G W → g.n 3 ≤ 1000 → g.n 5 ≤ 1001 → G 0 = L 0 → G 2 = L 2 → G 3 = L 3 → G 4 = L 4 → G 5 = (L 5) → Calls Try.prog 7 #[.agg g.cells, .string st, .string it, .int .i64 nq] W fun e w' => e = .returned (.tuple #[.string s3, .int .i64 (e3 : Nat)]) ∧ Below W.heap.size W w') := Lib.hid (fun g G W hW h3 h5 q0 q2 q3 q4 q5 => by
          have := HCO.out.sug g G st it nq W hW h3 h5 HWQ.out
          rw [q0, q2, q3, q4, q5, hs3, he3] at this
          exact this)
        clear hs1 he1 hs2 he2 hs3 he3
        have HH2 := Lib.hid ((hw.out.block _ (lt_of_block HH1.out)).trans HH1.out)
        have HAQ2 := Lib.hid ((hw.out.block _ (lt_of_block HAQ1.out)).trans HAQ1.out)
        have B2 := Lib.hid (B1.out.trans (hw.out.mono B1.out.size))
        have HT2 := Lib.hid (HT1.out.below hw.out)
        have HQ3 : Hid ((wr.alloc (.cells #[.slice none 0 0, .slice none 0 0, .slice none 0 0, .slice none 0 0, .slice none 0 0, .slice none 0 0, .slice none 0 0, .slice none 0 0, .slice none 0 0, .slice none 0 0, .slice none 0 0, .slice none 0 0, .slice none 0 0, .slice none 0 0, .int .i64 0] 37)).heap[wr.heap.size]? = some (.cells #[.slice none 0 0, .slice none 0 0, .slice none 0 0, .slice none 0 0, .slice none 0 0, .slice none 0 0, .slice none 0 0, .slice none 0 0, .slice none 0 0, .slice none 0 0, .slice none 0 0, .slice none 0 0, .slice none 0 0, .slice none 0 0, .int .i64 0] 37 (0, 0))) := Lib.hid (heap_alloc_new _ _)
        obtain ⟨w3, hw3⟩ : ∃ w', w' = (wr.alloc (.cells #[.slice none 0 0, .slice none 0 0, .slice none 0 0, .slice none 0 0, .slice none 0 0, .slice none 0 0, .slice none 0 0, .slice none 0 0, .slice none 0 0, .slice none 0 0, .slice none 0 0, .slice none 0 0, .slice none 0 0, .slice none 0 0, .int .i64 0] 37)).setRow wr.heap.size h.cells := ⟨_, rfl⟩
        have hb3 : Below wr.heap.size wr w3 := by rw [hw3]; exact setRow_below ((Below.refl _ _).alloc (Nat.le_refl _) _) (Nat.le_refl _) _
        have HH3 := Lib.hid ((hb3.block _ (lt_of_block HH2.out)).trans HH2.out)
        have HAQ3 := Lib.hid ((hb3.block _ (lt_of_block HAQ2.out)).trans HAQ2.out)
        have B3 := Lib.hid (B2.out.trans (hb3.mono B2.out.size))
        have HT3 := Lib.hid (HT2.out.below hb3)
        have HG3 : Hid (w3.heap[wr.heap.size]? = some (.cells h.cells 37 (0, 0))) := Lib.hid (by rw [hw3]; exact setRow_heap _ _ _ _ _ _ HQ3.out)
        have HW3 := Lib.hid hw3
        clear hb3 hw3
        obtain ⟨gb, hgb⟩ : ∃ n, n = wr.heap.size := ⟨_, rfl⟩
        have HGB := Lib.hid hgb
        have HOFF : Hid (Off gb h L) := Lib.hid (HT2.out.offge (Nat.le_of_eq hgb.symm))
        go_upto_region 9 with (first
          | (refine wpList_store_row rfl 37 (.tmp 8) (.tmp 35) rfl wr.heap.size h.cells rfl rfl _ _ HQ3.out (HSH.out _) rfl (H1C.out _) ?_; rw [← HW3.out, ← HGB.out])
          | (refine wpList_load_row rfl 37 (.tmp 3) rfl w.heap.size rfl _ _ _ _ HH2.out huh rfl (HSH.out _) ?_)
          | fail)
        clear d5 dlt
        have HGX : Hid (w3.heap[gb]? = some (.cells h.cells 37 (0, 0))) := Lib.hid (by rw [HGB.out]; exact HG3.out)
        have HGL : Hid (w.heap.size + 1 < gb) := Lib.hid (by rw [HGB.out]; exact lt_of_block HAQ2.out)
        clear hgb
        have c5 : w3.cell? ⟨gb, 5, none⟩ = some (.slice (h.A 5) (h.n 5) (h.c 5)) := by rw [cell_of_block HGX.out]; rfl
        have f5 : w3.frozen? ⟨gb, 5, none⟩ = false := frozen_of_block HGX.out
        have g5 : gb < w3.heap.size := lt_of_block HGX.out
        have x1 : w3.cell? ⟨w.heap.size + 1, 1, none⟩ = some (.string it) := by rw [cell_of_block HAQ3.out]; rfl
        have xlt : w.heap.size + 1 < w3.heap.size := lt_of_block HAQ3.out
        obtain ⟨w8, hw8⟩ : ∃ W, W = (w3.setCell ⟨gb, 5, none⟩ (.slice (some ⟨w3.heap.size, 0, none⟩) 1 1)).alloc (.cells #[.string it, .string zn, .int .i64 0] 48) := ⟨_, rfl⟩
        obtain ⟨w7, hw7⟩ : ∃ W, W = w3.alloc (.cells #[.string it, .string zn, .int .i64 0] 48) := ⟨_, rfl⟩
        have hw87 : w8 = w7.setCell ⟨gb, 5, none⟩ (.slice (some ⟨w3.heap.size, 0, none⟩) 1 1) := by rw [hw8, hw7]; exact (World.setCell_alloc_past (w := w3) _ _ _ _ g5).symm
        have hb7 : Below w3.heap.size w3 w7 := by rw [hw7]; exact (Below.refl _ _).alloc (Nat.le_refl _) _
        have hr7 : Rd w7 w7.heap.size (some ⟨w3.heap.size, 0, none⟩) [[.string it, .string zn, .int .i64 0]].flatten := by rw [hw7]; exact (rd_one w3 [.string it, .string zn, .int .i64 0] 48).mono (by simp)
        have HTA8 : Hid (HT (h.set 5 (some ⟨w3.heap.size, 0, none⟩) 1 1) (setE 0 L 5 [oneR it zn]) w8) := Lib.hid (by
          rw [hw87]
          exact HT.setList (HT3.out.below hb7) HOFF.out (by decide) (show Things (kOf 5) [oneR it zn] from Things.one (Rl.fits ⟨it, zn, 0⟩)) rfl (show (1 : Nat) ≤ 1000000 by omega) hr7 (fun q hq => by injection hq with hq; rw [← hq]; show w3.heap.size ≠ gb; omega) _)
        have HT8 : Hid (HT h L w8) := Lib.hid (by rw [hw87]; exact (HT3.out.below hb7).setCellOff HOFF.out _ _)
        have HG8 : Hid (w8.heap[gb]? = some (.cells (h.set 5 (some ⟨w3.heap.size, 0, none⟩) 1 1).cells 37 (0, 0))) := Lib.hid (by rw [hw87, block_setCell ((hb7.block _ g5).trans HGX.out), h.set_cells _ _ _ 5 (by decide)])
        have hgl := HGL.out
        have HH8 : Hid (w8.heap[w.heap.size]? = some (.cells h.cells 37 (0, 0))) := Lib.hid (by rw [hw87]; exact (block_setCell_other (show w.heap.size ≠ gb by omega) _).trans ((hb7.block _ (lt_of_block HH3.out)).trans HH3.out))
        have HAQ8 : Hid (w8.heap[w.heap.size + 1]? = some (.cells #[.string st, .string it, .int .i64 nq] 39 (0, 0))) := Lib.hid (by rw [hw87]; exact (block_setCell_other (show w.heap.size + 1 ≠ gb by omega) _).trans ((hb7.block _ (lt_of_block HAQ3.out)).trans HAQ3.out))
        have B8 : Hid (Below w.heap.size w w8) := Lib.hid (by rw [hw87]; exact (B3.out.trans (hb7.mono B3.out.size)).setCell (show w.heap.size ≤ gb by omega) _)
        have HW8 := Lib.hid hw8
        clear hw87 hb7 hr7 hw7 hw8 hgl
        go_upto_region 10 with fail
        rw [← HW8.out]
        clear c5 f5 g5
        clear x1 xlt
        obtain ⟨a, ha⟩ : ∃ a, h.set 5 (some ⟨w3.heap.size, 0, none⟩) 1 1 = a := ⟨_, rfl⟩
        have HA3 : Hid (a.n 3 ≤ 1000 ∧ a.n 5 ≤ 1001) := Lib.hid ⟨by rw [← ha]; exact HN.out 3 (by decide), by rw [← ha]; show (1 : Nat) ≤ 1001; omega⟩
        rw [ha] at HTA8 HG8
        clear ha
        have x0 : w8.cell? ⟨w.heap.size + 1, 0, none⟩ = some (.string st) := by rw [cell_of_block HAQ8.out]; rfl
        have x1 : w8.cell? ⟨w.heap.size + 1, 1, none⟩ = some (.string it) := by rw [cell_of_block HAQ8.out]; rfl
        have x2 : w8.cell? ⟨w.heap.size + 1, 2, none⟩ = some (.int .i64 nq) := by rw [cell_of_block HAQ8.out]; rfl
        have xlt : w.heap.size + 1 < w8.heap.size := lt_of_block HAQ8.out
        go_wp2_with (first
          | (refine wpList_load_row rfl 37 (.tmp 8) rfl gb rfl _ _ _ _ HG8.out huh rfl (HSH.out _) ?_)
          | fail)
        refine (CG1.out a _ _ HTA8.out HA3.out.1 HA3.out.2 rfl rfl rfl rfl rfl).mono ?_
        rintro e w9 ⟨rfl, hb9⟩
        have HH9 := Lib.hid ((hb9.block _ (lt_of_block HH8.out)).trans HH8.out)
        have HAQ9 := Lib.hid ((hb9.block _ (lt_of_block HAQ8.out)).trans HAQ8.out)
        have HG9 := Lib.hid ((hb9.block _ (lt_of_block HG8.out)).trans HG8.out)
        have B9 := Lib.hid (B8.out.trans (hb9.mono B8.out.size))
        have HT9 := Lib.hid (HT8.out.below hb9)
        have HTA9 := Lib.hid (HTA8.out.below hb9)
        clear hb9
        clear x0 x1 x2 xlt
        have HQ10 : Hid ((w9.alloc (.cells #[.slice none 0 0, .slice none 0 0, .slice none 0 0, .slice none 0 0, .slice none 0 0, .slice none 0 0, .slice none 0 0, .slice none 0 0, .slice none 0 0, .slice none 0 0, .slice none 0 0, .slice none 0 0, .slice none 0 0, .slice none 0 0, .int .i64 0] 37)).heap[w9.heap.size]? = some (.cells #[.slice none 0 0, .slice none 0 0, .slice none 0 0, .slice none 0 0, .slice none 0 0, .slice none 0 0, .slice none 0 0, .slice none 0 0, .slice none 0 0, .slice none 0 0, .slice none 0 0, .slice none 0 0, .slice none 0 0, .slice none 0 0, .int .i64 0] 37 (0, 0))) := Lib.hid (heap_alloc_new _ _)
        obtain ⟨w10, hw10⟩ : ∃ w', w' = (w9.alloc (.cells #[.slice none 0 0, .slice none 0 0, .slice none 0 0, .slice none 0 0, .slice none 0 0, .slice none 0 0, .slice none 0 0, .slice none 0 0, .slice none 0 0, .slice none 0 0, .slice none 0 0, .slice none 0 0, .slice none 0 0, .slice none 0 0, .int .i64 0] 37)).setRow w9.heap.size h.cells := ⟨_, rfl⟩
        have hb10 : Below w9.heap.size w9 w10 := by rw [hw10]; exact setRow_below ((Below.refl _ _).alloc (Nat.le_refl _) _) (Nat.le_refl _) _
        have HH10 := Lib.hid ((hb10.block _ (lt_of_block HH9.out)).trans HH9.out)
        have HAQ10 := Lib.hid ((hb10.block _ (lt_of_block HAQ9.out)).trans HAQ9.out)
        have HG10 := Lib.hid ((hb10.block _ (lt_of_block HG9.out)).trans HG9.out)
        have B10 := Lib.hid (B9.out.trans (hb10.mono B9.out.size))
        have HT10 := Lib.hid (HT9.out.below hb10)
        have HTA10 := Lib.hid (HTA9.out.below hb10)
        have HF10 : Hid (w10.heap[w9.heap.size]? = some (.cells h.cells 37 (0, 0))) := Lib.hid (by rw [hw10]; exact setRow_heap _ _ _ _ _ _ HQ10.out)
        have HW10 := Lib.hid hw10
        clear hb10 hw10
        obtain ⟨gc, hgc⟩ : ∃ n, n = w9.heap.size := ⟨_, rfl⟩
        have HGC := Lib.hid hgc
        have HOFC : Hid (Off gc h L) := Lib.hid (HT9.out.offge (Nat.le_of_eq hgc.symm))
        go_upto_region 12 with (first
          | (refine wpList_store_row rfl 37 (.tmp 11) (.tmp 53) rfl w9.heap.size h.cells rfl rfl _ _ HQ10.out (HSH.out _) rfl (H1C.out _) ?_; rw [← HW10.out, ← HGC.out])
          | (refine wpList_load_row rfl 37 (.tmp 3) rfl w.heap.size rfl _ _ _ _ HH9.out huh rfl (HSH.out _) ?_)
          | fail)
        have HG : Hid (w10.heap[gc]? = some (.cells h.cells 37 (0, 0))) := Lib.hid (by rw [HGC.out]; exact HF10.out)
        have HGL2 : Hid (w.heap.size + 1 < gc) := Lib.hid (by rw [HGC.out]; exact lt_of_block HAQ9.out)
        have HGS : Hid (gc < w10.heap.size) := Lib.hid (lt_of_block HG.out)
        clear hgc
        simp only [Act.put]
        go_cut [64] from 54 to 66 (fun _ wx => ∃ (a : Hs) (W : World), W = wx ∧ Hid (HT a (setE 0 L 5 (L 5 ++ [oneR it zn])) W ∧ HT h L W ∧ a.n 3 ≤ 1000 ∧ a.n 5 ≤ 1001 ∧ W.heap[gc]? = some (.cells a.cells 37 (0, 0)) ∧ W.heap[w.heap.size]? = some (.cells h.cells 37 (0, 0)) ∧ W.heap[w.heap.size + 1]? = some (.cells #[.string st, .string it, .int .i64 nq] 39 (0, 0)) ∧ Below w.heap.size w W))
        case first =>
          have HST : Hid (∀ W, Below w10.heap.size w10 W → W.cell? ⟨w.heap.size, 5, none⟩ = some (.slice (h.A 5) m5 (h.c 5)) ∧ W.cell? ⟨w.heap.size + 1, 1, none⟩ = some (.string it)) := Lib.hid (fun W hW => by
            have q := (hW.block _ (lt_of_block HH10.out)).trans HH10.out
            have qx := (hW.block _ (lt_of_block HAQ10.out)).trans HAQ10.out
            exact ⟨by rw [cell_of_block q, ← HMM5.out]; rfl, by rw [cell_of_block qx]; rfl⟩)
          go_wp2_with fail
          have B13 := Lib.hid (Below.refl w10.heap.size w10).drew
          refine wp_region_noPanic ?_
          refine wp_region_held_drew (S := (fun w' => w'.cell? ⟨w.heap.size, 5, none⟩ = some (.slice (h.A 5) m5 (h.c 5)) ∧ w'.cell? ⟨w.heap.size + 1, 1, none⟩ = some (.string it))) (by kernel_rfl) (HST.out _ B13.out) (fun dd0 => ?_)
          refine wpAnyH_take (i := 1) (v := .pointer (some ⟨w.heap.size, 5, none⟩)) rfl (by kernel_rfl) (by kernel_rfl) (by kernel_rfl) (fun _ _ _ h => h.elim) (.inl ⟨by kernel_rfl, fun w hw => by clear hw; go_simp⟩) (by assumption) ?_
          (try simp only [Act.put, List.getElem_toArray, List.getElem_cons_succ, List.getElem_cons_zero, List.setIfInBounds_toArray, List.set_cons_zero, List.set_cons_succ])
          refine wpAnyH_take (i := 2) (v := .slice (h.A 5) m5 (h.c 5)) rfl (by kernel_rfl) (by kernel_rfl) (by kernel_rfl) (fun _ _ _ h => h.elim) (.inl ⟨by kernel_rfl, fun w h => by have hw := h.1; clear h; go_simp⟩) (by assumption) ?_
          (try simp only [Act.put, List.getElem_toArray, List.getElem_cons_succ, List.getElem_cons_zero, List.setIfInBounds_toArray, List.set_cons_zero, List.set_cons_succ])
          refine wpAnyH_take (i := 4) (v := .pointer (some ⟨w.heap.size + 1, 1, none⟩)) rfl (by kernel_rfl) (by kernel_rfl) (by kernel_rfl) (fun _ _ _ h => h.elim) (.inl ⟨by kernel_rfl, fun w hw => by clear hw; go_simp⟩) (by assumption) ?_
          (try simp only [Act.put, List.getElem_toArray, List.getElem_cons_succ, List.getElem_cons_zero, List.setIfInBounds_toArray, List.set_cons_zero, List.set_cons_succ])
          refine wpAnyH_take (i := 5) (v := .string it) rfl (by kernel_rfl) (by kernel_rfl) (by kernel_rfl) (fun _ _ _ h => h.elim) (.inl ⟨by kernel_rfl, fun w h => by have hw := h.2; clear h; go_simp⟩) (by assumption) ?_
          (try simp only [Act.put, List.getElem_toArray, List.getElem_cons_succ, List.getElem_cons_zero, List.setIfInBounds_toArray, List.set_cons_zero, List.set_cons_succ])
          refine wpAnyH_take (i := 6) (v := .string zn) rfl (by kernel_rfl) (by kernel_rfl) (by kernel_rfl) (fun _ _ _ h => h.elim) (.inl ⟨by kernel_rfl, fun w hw => by clear hw; go_simp⟩) (by assumption) ?_
          (try simp only [Act.put, List.getElem_toArray, List.getElem_cons_succ, List.getElem_cons_zero, List.setIfInBounds_toArray, List.set_cons_zero, List.set_cons_succ])
          refine wpAnyH_take (i := 7) (v := .agg #[.string it, .string zn, .int .i64 0]) rfl (by kernel_rfl) (by kernel_rfl) (by kernel_rfl) (fun _ _ _ h => h.elim) (.inl ⟨by kernel_rfl, fun w hw => by clear hw; go_simp⟩) (by assumption) ?_
          (try simp only [Act.put, List.getElem_toArray, List.getElem_cons_succ, List.getElem_cons_zero, List.setIfInBounds_toArray, List.set_cons_zero, List.set_cons_succ])
          have HFL : Hid ((L 5).flatten.length = m5 * 3) := Lib.hid (by rw [flat_length (HT10.out 5 (by decide)).2.2.1.len, ← HM5.out]; rfl)
          have HR5 : Hid (∀ W, Below w10.heap.size w10 W → Rd W W.heap.size (h.A 5) (L 5).flatten) := Lib.hid (fun W hW => (HT10.out.below hW 5 (by decide)).2.2.2)
          have HF1 : Hid (∀ u ∈ (L 5).flatten, u.oneCell' = true) := Lib.hid (fun u hu => by
            obtain ⟨e, he, hue⟩ := List.mem_flatten.1 hu
            exact fits_one ((HT10.out 5 (by decide)).2.2.1 e he) u hue)
          have HGS2 := HGS.out
          refine wpAnyH_ready (rs := [0, 8]) (by kernel_rfl) (by simp) ?_
          refine AllReadyH.cons rfl (fun K hK => ?_) (AllReadyH.cons rfl (fun K hK => ?_) AllReadyH.nil)
          ·
            go_simp
            obtain ⟨y1, hy1⟩ : ∃ W, W = (w10.alloc (.cells #[] 48)).drew := ⟨_, rfl⟩
            obtain ⟨g1, hg1⟩ : ∃ g, g = w10.heap.size := ⟨_, rfl⟩
            have HGN1 := Lib.hid hg1
            have BY1 : Hid (Below w10.heap.size w10 y1) := Lib.hid (by rw [hy1]; exact ((Lib.hid (Below.refl w10.heap.size w10)).out.alloc (Lib.hid (Below.refl w10.heap.size w10)).out.size _).drew)
            have HYS1 : Hid (y1.heap.size = w10.heap.size + 1) := Lib.hid (by rw [hy1]; simp [World.drew])
            have hold1 : Below w10.heap.size w10 y1 := by rw [hy1]; exact ((Below.refl _ _).alloc (Nat.le_refl _) _).drew
            have HO1 : Hid (y1.ownsRow w10.heap.size 48 3 (.slice (some ⟨g1, 0, none⟩) 0 0) 0 []) := Lib.hid (by rw [hy1, hg1]; exact (World.ownsRow_lit (base := w10.heap.size) w10 #[] 0 (Lib.hid (Below.refl w10.heap.size w10)).out.size (by decide) rfl).drew)
            rw [← hy1, ← hg1]
            refine hK.out _ _ (HST.out _ BY1.out) (fun _ => ?_)
            clear hK K hy1 hg1 hold1
            (try simp only [Act.put, List.getElem_toArray, List.getElem_cons_succ, List.getElem_cons_zero, List.setIfInBounds_toArray, List.set_cons_zero, List.set_cons_succ])
            refine wpAnyH_ready (rs := [3, 8]) (by kernel_rfl) (by simp) ?_
            refine AllReadyH.cons rfl (fun K hK => ?_) (AllReadyH.cons rfl (fun K hK => ?_) AllReadyH.nil)
            ·
              rw [if_pos (by kernel_rfl)]
              refine wp_appK (.tmp 54) (.tmp 56) _ rfl w10.heap.size 48 i0 _ 3 40 Try.underlying27 hi0 hz0 hz1 hz2 rfl (by decide) _ 0 0 [] rfl HO1.out y1.heap.size (h.A 5) m5 (h.c 5) (L 5).flatten rfl HFL.out (HR5.out _ BY1.out) HF1.out (by simp only [maxLen]; omega) (by omega) BY1.out.size ?_
              intro A2 c2 y2 hown hb hkp
              simp only [Nat.zero_add, List.nil_append] at hown ⊢
              have BY2 := Lib.hid (BY1.out.trans hb)
              have HO2 := Lib.hid hown
              refine hK.out _ _ (HST.out _ BY2.out) (fun _ => ?_)
              clear hK K hown hb hkp
              (try simp only [Act.put, List.getElem_toArray, List.getElem_cons_succ, List.getElem_cons_zero, List.setIfInBounds_toArray, List.set_cons_zero, List.set_cons_succ])
              refine wpAnyH_ready (rs := [8]) (by kernel_rfl) (by simp) ?_
              refine AllReadyH.cons rfl (fun K hK => ?_) AllReadyH.nil
              go_simp
              obtain ⟨y3, hy3⟩ : ∃ W, W = (y2.alloc (.cells #[.string it, .string zn, .int .i64 0] 48)) := ⟨_, rfl⟩
              obtain ⟨g3, hg3⟩ : ∃ g, g = y2.heap.size := ⟨_, rfl⟩
              have HGN3 := Lib.hid hg3
              have BY3 : Hid (Below w10.heap.size w10 y3) := Lib.hid (by rw [hy3]; exact (BY2.out.alloc BY2.out.size _))
              have HYS3 : Hid (y3.heap.size = y2.heap.size + 1) := Lib.hid (by rw [hy3]; simp)
              have hold3 : Below y2.heap.size y2 y3 := by rw [hy3]; exact ((Below.refl _ _).alloc (Nat.le_refl _) _)
              have HZ3 : Hid (Rd y3 y3.heap.size (some ⟨g3, 0, none⟩) [.string it, .string zn, .int .i64 0]) := Lib.hid (by rw [hy3, hg3]; exact (rd_one y2 [.string it, .string zn, .int .i64 0] 48).mono (by simp))
              have HO3 := Lib.hid (own_below HO2.out hold3)
              rw [← hy3, ← hg3]
              refine hK.out _ _ (HST.out _ BY3.out) (fun _ => ?_)
              clear hK K hy3 hg3 hold3
              (try simp only [Act.put, List.getElem_toArray, List.getElem_cons_succ, List.getElem_cons_zero, List.setIfInBounds_toArray, List.set_cons_zero, List.set_cons_succ])
              refine wpAnyH_ready (rs := [9]) (by kernel_rfl) (by simp) ?_
              refine AllReadyH.cons rfl (fun K hK => ?_) AllReadyH.nil
              rw [if_pos (by kernel_rfl)]
              refine wp_appK (.tmp 57) (.tmp 62) _ rfl w10.heap.size 48 i0 _ 3 40 Try.underlying27 hi0 hz0 hz1 hz2 rfl (by decide) _ m5 _ _ rfl HO3.out y3.heap.size _ 1 1 [.string it, .string zn, .int .i64 0] rfl rfl HZ3.out (by intro u hu; simp at hu; rcases hu with rfl | rfl | rfl <;> rfl) (by simp only [maxLen]; omega) (by omega) BY3.out.size ?_
              intro A4 c4 y4 hown hb hkp
              have BY4 := Lib.hid (BY3.out.trans hb)
              have HO4 := Lib.hid hown
              refine hK.out _ _ (HST.out _ BY4.out) (fun _ => ?_)
              clear hK K hown hb hkp
              (try simp only [Act.put, List.getElem_toArray, List.getElem_cons_succ, List.getElem_cons_zero, List.setIfInBounds_toArray, List.set_cons_zero, List.set_cons_succ])
              refine wpAnyH_take (i := 10) (v := .pointer (some ⟨gc, 5, none⟩)) rfl (by kernel_rfl) (by kernel_rfl) (by kernel_rfl) (fun _ _ _ h => h.elim) (.inl ⟨by kernel_rfl, fun w hw => by clear hw; go_simp⟩) (by assumption) ?_
              (try simp only [Act.put, List.getElem_toArray, List.getElem_cons_succ, List.getElem_cons_zero, List.setIfInBounds_toArray, List.set_cons_zero, List.set_cons_succ])
              refine wpAnyH_ready (rs := [11]) (by kernel_rfl) (by simp) ?_
              refine AllReadyH.cons rfl (fun K hK => ?_) AllReadyH.nil
              have HG9 := Lib.hid ((BY4.out.block _ HGS.out).trans HG.out)
              have c5 : y4.cell? ⟨gc, 5, none⟩ = some (.slice (h.A 5) (h.n 5) (h.c 5)) := by rw [cell_of_block HG9.out]; rfl
              have f5 : y4.frozen? ⟨gc, 5, none⟩ = false := frozen_of_block HG9.out
              have st9 := HST.out _ BY4.out
              have hgl := HGL2.out
              go_simp
              refine hK.out _ _ ⟨(World.cell?_of_block (block_setCell_other (show w.heap.size ≠ gc by omega) _)).trans st9.1, (World.cell?_of_block (block_setCell_other (show w.heap.size + 1 ≠ gc by omega) _)).trans st9.2⟩ (fun _ => ?_)
              clear hK K c5 f5 st9
              (try simp only [Act.put, List.getElem_toArray, List.getElem_cons_succ, List.getElem_cons_zero, List.setIfInBounds_toArray, List.set_cons_zero, List.set_cons_succ])
              refine wpAnyH_done (by kernel_rfl) ?_ _
              refine NoPanic.normal ?_
              go_wp2_with fail
              go_meet
              refine ⟨h.set 5 A4 (m5 + 1) c4, _, rfl, Lib.hid ⟨?_, ?_, ?_, ?_, ?_, ?_, ?_, ?_⟩⟩
              · exact HT.setList (HT10.out.below BY4.out) HOFC.out (by decide) (Things.app (HT10.out 5 (by decide)).2.2.1 (Things.one (Rl.fits ⟨it, zn, 0⟩))) (by rw [List.length_append, ← HM5.out]; rfl) (by omega) (by have := Rd.of_own HO4.out; rw [show (L 5 ++ [(Rl.mk it zn 0).cells]).flatten = (L 5).flatten ++ [.string it, .string zn, .int .i64 0] from by simp [Rl.cells]]; exact this) (fun q hq => by have h1 := own_block HO4.out hq; have h2 := HGS.out; omega) _
              · exact (HT10.out.below BY4.out).setCellOff HOFC.out _ _
              · exact HN.out 3 (by decide)
              · show m5 + 1 ≤ 1001; omega
              · rw [block_setCell HG9.out, h.set_cells _ _ _ 5 (by decide)]
              · exact (block_setCell_other (show w.heap.size ≠ gc by omega) _).trans ((BY4.out.block _ (lt_of_block HH10.out)).trans HH10.out)
              · exact (block_setCell_other (show w.heap.size + 1 ≠ gc by omega) _).trans ((BY4.out.block _ (lt_of_block HAQ10.out)).trans HAQ10.out)
              · exact (B10.out.trans (BY4.out.mono B10.out.size)).setCell (show w.heap.size ≤ gc by omega) _
            ·
              go_simp
              obtain ⟨y6, hy6⟩ : ∃ W, W = (y1.alloc (.cells #[.string it, .string zn, .int .i64 0] 48)) := ⟨_, rfl⟩
              obtain ⟨g6, hg6⟩ : ∃ g, g = y1.heap.size := ⟨_, rfl⟩
              have HGN6 := Lib.hid hg6
              have BY6 : Hid (Below w10.heap.size w10 y6) := Lib.hid (by rw [hy6]; exact (BY1.out.alloc BY1.out.size _))
              have HYS6 : Hid (y6.heap.size = y1.heap.size + 1) := Lib.hid (by rw [hy6]; simp)
              have hold6 : Below y1.heap.size y1 y6 := by rw [hy6]; exact ((Below.refl _ _).alloc (Nat.le_refl _) _)
              have HZ6 : Hid (Rd y6 y6.heap.size (some ⟨g6, 0, none⟩) [.string it, .string zn, .int .i64 0]) := Lib.hid (by rw [hy6, hg6]; exact (rd_one y1 [.string it, .string zn, .int .i64 0] 48).mono (by simp))
              have HO6 := Lib.hid (own_below HO1.out hold6)
              rw [← hy6, ← hg6]
              refine hK.out _ _ (HST.out _ BY6.out) (fun _ => ?_)
              clear hK K hy6 hg6 hold6
              (try simp only [Act.put, List.getElem_toArray, List.getElem_cons_succ, List.getElem_cons_zero, List.setIfInBounds_toArray, List.set_cons_zero, List.set_cons_succ])
              refine wpAnyH_ready (rs := [3]) (by kernel_rfl) (by simp) ?_
              refine AllReadyH.cons rfl (fun K hK => ?_) AllReadyH.nil
              rw [if_pos (by kernel_rfl)]
              refine wp_appK (.tmp 54) (.tmp 56) _ rfl w10.heap.size 48 i0 _ 3 40 Try.underlying27 hi0 hz0 hz1 hz2 rfl (by decide) _ 0 0 [] rfl HO6.out y6.heap.size (h.A 5) m5 (h.c 5) (L 5).flatten rfl HFL.out (HR5.out _ BY6.out) HF1.out (by simp only [maxLen]; omega) (by omega) BY6.out.size ?_
              intro A7 c7 y7 hown hb hkp
              simp only [Nat.zero_add, List.nil_append] at hown ⊢
              have BY7 := Lib.hid (BY6.out.trans hb)
              have HO7 := Lib.hid hown
              have HZ7 : Hid (Rd y7 y7.heap.size (some ⟨g6, 0, none⟩) [.string it, .string zn, .int .i64 0]) := Lib.hid (by
                intro hq
                obtain ⟨b, off, hA, hb2, hc⟩ := HZ6.out hq
                injection hA with hA
                have hne : (Value.slice (some ⟨g1, 0, none⟩) 0 0).ownBlock ≠ some b := by
                  injection hA with hA1 hA2 _
                  intro e
                  have e0 : g1 = b := by have e9 : some g1 = some b := e; injection e9
                  have e5 : g6 = b := hA1
                  have e1 := HGN6.out
                  have e2 := HGN1.out
                  have e3 := HYS6.out
                  have e4 := HYS1.out
                  omega
                have hkb := hkp b hb2 hne
                refine ⟨b, off, by rw [hA], ?_, fun j u hu => (World.cell?_of_block hkb).trans (hc j u hu)⟩
                have hlt := World.block_lt_of_cell? _ _ (hc 0 (.string it) rfl)
                have : y7.heap[b]? ≠ none := by rw [hkb]; exact fun e => by have := Array.getElem?_eq_none_iff.1 e; omega
                exact Nat.lt_of_not_le (fun h' => this (Array.getElem?_eq_none_iff.2 h')))
              refine hK.out _ _ (HST.out _ BY7.out) (fun _ => ?_)
              clear hK K hown hb hkp
              (try simp only [Act.put, List.getElem_toArray, List.getElem_cons_succ, List.getElem_cons_zero, List.setIfInBounds_toArray, List.set_cons_zero, List.set_cons_succ])
              refine wpAnyH_ready (rs := [9]) (by kernel_rfl) (by simp) ?_
              refine AllReadyH.cons rfl (fun K hK => ?_) AllReadyH.nil
              rw [if_pos (by kernel_rfl)]
              refine wp_appK (.tmp 57) (.tmp 62) _ rfl w10.heap.size 48 i0 _ 3 40 Try.underlying27 hi0 hz0 hz1 hz2 rfl (by decide) _ m5 _ _ rfl HO7.out y7.heap.size _ 1 1 [.string it, .string zn, .int .i64 0] rfl rfl HZ7.out (by intro u hu; simp at hu; rcases hu with rfl | rfl | rfl <;> rfl) (by simp only [maxLen]; omega) (by omega) BY7.out.size ?_
              intro A8 c8 y8 hown hb hkp
              have BY8 := Lib.hid (BY7.out.trans hb)
              have HO8 := Lib.hid hown
              refine hK.out _ _ (HST.out _ BY8.out) (fun _ => ?_)
              clear hK K hown hb hkp
              (try simp only [Act.put, List.getElem_toArray, List.getElem_cons_succ, List.getElem_cons_zero, List.setIfInBounds_toArray, List.set_cons_zero, List.set_cons_succ])
              refine wpAnyH_take (i := 10) (v := .pointer (some ⟨gc, 5, none⟩)) rfl (by kernel_rfl) (by kernel_rfl) (by kernel_rfl) (fun _ _ _ h => h.elim) (.inl ⟨by kernel_rfl, fun w hw => by clear hw; go_simp⟩) (by assumption) ?_
              (try simp only [Act.put, List.getElem_toArray, List.getElem_cons_succ, List.getElem_cons_zero, List.setIfInBounds_toArray, List.set_cons_zero, List.set_cons_succ])
              refine wpAnyH_ready (rs := [11]) (by kernel_rfl) (by simp) ?_
              refine AllReadyH.cons rfl (fun K hK => ?_) AllReadyH.nil
              have HG9 := Lib.hid ((BY8.out.block _ HGS.out).trans HG.out)
              have c5 : y8.cell? ⟨gc, 5, none⟩ = some (.slice (h.A 5) (h.n 5) (h.c 5)) := by rw [cell_of_block HG9.out]; rfl
              have f5 : y8.frozen? ⟨gc, 5, none⟩ = false := frozen_of_block HG9.out
              have st9 := HST.out _ BY8.out
              have hgl := HGL2.out
              go_simp
              refine hK.out _ _ ⟨(World.cell?_of_block (block_setCell_other (show w.heap.size ≠ gc by omega) _)).trans st9.1, (World.cell?_of_block (block_setCell_other (show w.heap.size + 1 ≠ gc by omega) _)).trans st9.2⟩ (fun _ => ?_)
              clear hK K c5 f5 st9
              (try simp only [Act.put, List.getElem_toArray, List.getElem_cons_succ, List.getElem_cons_zero, List.setIfInBounds_toArray, List.set_cons_zero, List.set_cons_succ])
              refine wpAnyH_done (by kernel_rfl) ?_ _
              refine NoPanic.normal ?_
              go_wp2_with fail
              go_meet
              refine ⟨h.set 5 A8 (m5 + 1) c8, _, rfl, Lib.hid ⟨?_, ?_, ?_, ?_, ?_, ?_, ?_, ?_⟩⟩
              · exact HT.setList (HT10.out.below BY8.out) HOFC.out (by decide) (Things.app (HT10.out 5 (by decide)).2.2.1 (Things.one (Rl.fits ⟨it, zn, 0⟩))) (by rw [List.length_append, ← HM5.out]; rfl) (by omega) (by have := Rd.of_own HO8.out; rw [show (L 5 ++ [(Rl.mk it zn 0).cells]).flatten = (L 5).flatten ++ [.string it, .string zn, .int .i64 0] from by simp [Rl.cells]]; exact this) (fun q hq => by have h1 := own_block HO8.out hq; have h2 := HGS.out; omega) _
              · exact (HT10.out.below BY8.out).setCellOff HOFC.out _ _
              · exact HN.out 3 (by decide)
              · show m5 + 1 ≤ 1001; omega
              · rw [block_setCell HG9.out, h.set_cells _ _ _ 5 (by decide)]
              · exact (block_setCell_other (show w.heap.size ≠ gc by omega) _).trans ((BY8.out.block _ (lt_of_block HH10.out)).trans HH10.out)
              · exact (block_setCell_other (show w.heap.size + 1 ≠ gc by omega) _).trans ((BY8.out.block _ (lt_of_block HAQ10.out)).trans HAQ10.out)
              · exact (B10.out.trans (BY8.out.mono B10.out.size)).setCell (show w.heap.size ≤ gc by omega) _
          ·
            go_simp
            obtain ⟨y10, hy10⟩ : ∃ W, W = (w10.alloc (.cells #[.string it, .string zn, .int .i64 0] 48)).drew := ⟨_, rfl⟩
            obtain ⟨g10, hg10⟩ : ∃ g, g = w10.heap.size := ⟨_, rfl⟩
            have HGN10 := Lib.hid hg10
            have BY10 : Hid (Below w10.heap.size w10 y10) := Lib.hid (by rw [hy10]; exact ((Lib.hid (Below.refl w10.heap.size w10)).out.alloc (Lib.hid (Below.refl w10.heap.size w10)).out.size _).drew)
            have HYS10 : Hid (y10.heap.size = w10.heap.size + 1) := Lib.hid (by rw [hy10]; simp [World.drew])
            have hold10 : Below w10.heap.size w10 y10 := by rw [hy10]; exact ((Below.refl _ _).alloc (Nat.le_refl _) _).drew
            have HZ10 : Hid (Rd y10 y10.heap.size (some ⟨g10, 0, none⟩) [.string it, .string zn, .int .i64 0]) := Lib.hid (by rw [hy10, hg10]; exact (rd_one w10 [.string it, .string zn, .int .i64 0] 48).mono (by simp [World.drew]))
            rw [← hy10, ← hg10]
            refine hK.out _ _ (HST.out _ BY10.out) (fun _ => ?_)
            clear hK K hy10 hg10 hold10
            (try simp only [Act.put, List.getElem_toArray, List.getElem_cons_succ, List.getElem_cons_zero, List.setIfInBounds_toArray, List.set_cons_zero, List.set_cons_succ])
            refine wpAnyH_ready (rs := [0]) (by kernel_rfl) (by simp) ?_
            refine AllReadyH.cons rfl (fun K hK => ?_) AllReadyH.nil
            go_simp
            obtain ⟨y11, hy11⟩ : ∃ W, W = (y10.alloc (.cells #[] 48)) := ⟨_, rfl⟩
            obtain ⟨g11, hg11⟩ : ∃ g, g = y10.heap.size := ⟨_, rfl⟩
            have HGN11 := Lib.hid hg11
            have BY11 : Hid (Below w10.heap.size w10 y11) := Lib.hid (by rw [hy11]; exact (BY10.out.alloc BY10.out.size _))
            have HYS11 : Hid (y11.heap.size = y10.heap.size + 1) := Lib.hid (by rw [hy11]; simp)
            have hold11 : Below y10.heap.size y10 y11 := by rw [hy11]; exact ((Below.refl _ _).alloc (Nat.le_refl _) _)
            have HO11 : Hid (y11.ownsRow w10.heap.size 48 3 (.slice (some ⟨g11, 0, none⟩) 0 0) 0 []) := Lib.hid (by rw [hy11, hg11]; exact (World.ownsRow_lit (base := w10.heap.size) y10 #[] 0 BY10.out.size (by decide) rfl))
            have HZ11 := Lib.hid ((HZ10.out.below hold11).mono hold11.size)
            rw [← hy11, ← hg11]
            refine hK.out _ _ (HST.out _ BY11.out) (fun _ => ?_)
            clear hK K hy11 hg11 hold11
            (try simp only [Act.put, List.getElem_toArray, List.getElem_cons_succ, List.getElem_cons_zero, List.setIfInBounds_toArray, List.set_cons_zero, List.set_cons_succ])
            refine wpAnyH_ready (rs := [3]) (by kernel_rfl) (by simp) ?_
            refine AllReadyH.cons rfl (fun K hK => ?_) AllReadyH.nil
            rw [if_pos (by kernel_rfl)]
            refine wp_appK (.tmp 54) (.tmp 56) _ rfl w10.heap.size 48 i0 _ 3 40 Try.underlying27 hi0 hz0 hz1 hz2 rfl (by decide) _ 0 0 [] rfl HO11.out y11.heap.size (h.A 5) m5 (h.c 5) (L 5).flatten rfl HFL.out (HR5.out _ BY11.out) HF1.out (by simp only [maxLen]; omega) (by omega) BY11.out.size ?_
            intro A12 c12 y12 hown hb hkp
            simp only [Nat.zero_add, List.nil_append] at hown ⊢
            have BY12 := Lib.hid (BY11.out.trans hb)
            have HO12 := Lib.hid hown
            have HZ12 : Hid (Rd y12 y12.heap.size (some ⟨g10, 0, none⟩) [.string it, .string zn, .int .i64 0]) := Lib.hid (by
              intro hq
              obtain ⟨b, off, hA, hb2, hc⟩ := HZ11.out hq
              injection hA with hA
              have hne : (Value.slice (some ⟨g11, 0, none⟩) 0 0).ownBlock ≠ some b := by
                injection hA with hA1 hA2 _
                intro e
                have e0 : g11 = b := by have e9 : some g11 = some b := e; injection e9
                have e5 : g10 = b := hA1
                have e1 := HGN10.out
                have e2 := HGN11.out
                have e3 := HYS10.out
                have e4 := HYS11.out
                omega
              have hkb := hkp b hb2 hne
              refine ⟨b, off, by rw [hA], ?_, fun j u hu => (World.cell?_of_block hkb).trans (hc j u hu)⟩
              have hlt := World.block_lt_of_cell? _ _ (hc 0 (.string it) rfl)
              have : y12.heap[b]? ≠ none := by rw [hkb]; exact fun e => by have := Array.getElem?_eq_none_iff.1 e; omega
              exact Nat.lt_of_not_le (fun h' => this (Array.getElem?_eq_none_iff.2 h')))
            refine hK.out _ _ (HST.out _ BY12.out) (fun _ => ?_)
            clear hK K hown hb hkp
            (try simp only [Act.put, List.getElem_toArray, List.getElem_cons_succ, List.getElem_cons_zero, List.setIfInBounds_toArray, List.set_cons_zero, List.set_cons_succ])
            refine wpAnyH_ready (rs := [9]) (by kernel_rfl) (by simp) ?_
            refine AllReadyH.cons rfl (fun K hK => ?_) AllReadyH.nil
            rw [if_pos (by kernel_rfl)]
            refine wp_appK (.tmp 57) (.tmp 62) _ rfl w10.heap.size 48 i0 _ 3 40 Try.underlying27 hi0 hz0 hz1 hz2 rfl (by decide) _ m5 _ _ rfl HO12.out y12.heap.size _ 1 1 [.string it, .string zn, .int .i64 0] rfl rfl HZ12.out (by intro u hu; simp at hu; rcases hu with rfl | rfl | rfl <;> rfl) (by simp only [maxLen]; omega) (by omega) BY12.out.size ?_
            intro A13 c13 y13 hown hb hkp
            have BY13 := Lib.hid (BY12.out.trans hb)
            have HO13 := Lib.hid hown
            refine hK.out _ _ (HST.out _ BY13.out) (fun _ => ?_)
            clear hK K hown hb hkp
            (try simp only [Act.put, List.getElem_toArray, List.getElem_cons_succ, List.getElem_cons_zero, List.setIfInBounds_toArray, List.set_cons_zero, List.set_cons_succ])
            refine wpAnyH_take (i := 10) (v := .pointer (some ⟨gc, 5, none⟩)) rfl (by kernel_rfl) (by kernel_rfl) (by kernel_rfl) (fun _ _ _ h => h.elim) (.inl ⟨by kernel_rfl, fun w hw => by clear hw; go_simp⟩) (by assumption) ?_
            (try simp only [Act.put, List.getElem_toArray, List.getElem_cons_succ, List.getElem_cons_zero, List.setIfInBounds_toArray, List.set_cons_zero, List.set_cons_succ])
            refine wpAnyH_ready (rs := [11]) (by kernel_rfl) (by simp) ?_
            refine AllReadyH.cons rfl (fun K hK => ?_) AllReadyH.nil
            have HG9 := Lib.hid ((BY13.out.block _ HGS.out).trans HG.out)
            have c5 : y13.cell? ⟨gc, 5, none⟩ = some (.slice (h.A 5) (h.n 5) (h.c 5)) := by rw [cell_of_block HG9.out]; rfl
            have f5 : y13.frozen? ⟨gc, 5, none⟩ = false := frozen_of_block HG9.out
            have st9 := HST.out _ BY13.out
            have hgl := HGL2.out
            go_simp
            refine hK.out _ _ ⟨(World.cell?_of_block (block_setCell_other (show w.heap.size ≠ gc by omega) _)).trans st9.1, (World.cell?_of_block (block_setCell_other (show w.heap.size + 1 ≠ gc by omega) _)).trans st9.2⟩ (fun _ => ?_)
            clear hK K c5 f5 st9
            (try simp only [Act.put, List.getElem_toArray, List.getElem_cons_succ, List.getElem_cons_zero, List.setIfInBounds_toArray, List.set_cons_zero, List.set_cons_succ])
            refine wpAnyH_done (by kernel_rfl) ?_ _
            refine NoPanic.normal ?_
            go_wp2_with fail
            go_meet
            refine ⟨h.set 5 A13 (m5 + 1) c13, _, rfl, Lib.hid ⟨?_, ?_, ?_, ?_, ?_, ?_, ?_, ?_⟩⟩
            · exact HT.setList (HT10.out.below BY13.out) HOFC.out (by decide) (Things.app (HT10.out 5 (by decide)).2.2.1 (Things.one (Rl.fits ⟨it, zn, 0⟩))) (by rw [List.length_append, ← HM5.out]; rfl) (by omega) (by have := Rd.of_own HO13.out; rw [show (L 5 ++ [(Rl.mk it zn 0).cells]).flatten = (L 5).flatten ++ [.string it, .string zn, .int .i64 0] from by simp [Rl.cells]]; exact this) (fun q hq => by have h1 := own_block HO13.out hq; have h2 := HGS.out; omega) _
            · exact (HT10.out.below BY13.out).setCellOff HOFC.out _ _
            · exact HN.out 3 (by decide)
            · show m5 + 1 ≤ 1001; omega
            · rw [block_setCell HG9.out, h.set_cells _ _ _ 5 (by decide)]
            · exact (block_setCell_other (show w.heap.size ≠ gc by omega) _).trans ((BY13.out.block _ (lt_of_block HH10.out)).trans HH10.out)
            · exact (block_setCell_other (show w.heap.size + 1 ≠ gc by omega) _).trans ((BY13.out.block _ (lt_of_block HAQ10.out)).trans HAQ10.out)
            · exact (B10.out.trans (BY13.out.mono B10.out.size)).setCell (show w.heap.size ≤ gc by omega) _
        case rest =>
          obtain ⟨a2, WCUT, rfl, HR⟩ := hcut
          have HTC20 := Lib.hid HR.out.1
          have HT20 := Lib.hid HR.out.2.1
          have HA23 := Lib.hid (And.intro HR.out.2.2.1 HR.out.2.2.2.1)
          have HF20 := Lib.hid HR.out.2.2.2.2.1
          have HH20 := Lib.hid HR.out.2.2.2.2.2.1
          have HAQ20 := Lib.hid HR.out.2.2.2.2.2.2.1
          have B20 := Lib.hid HR.out.2.2.2.2.2.2.2
          clear HR
          have x0 : WCUT.cell? ⟨w.heap.size + 1, 0, none⟩ = some (.string st) := by rw [cell_of_block HAQ20.out]; rfl
          have x1 : WCUT.cell? ⟨w.heap.size + 1, 1, none⟩ = some (.string it) := by rw [cell_of_block HAQ20.out]; rfl
          have x2 : WCUT.cell? ⟨w.heap.size + 1, 2, none⟩ = some (.int .i64 nq) := by rw [cell_of_block HAQ20.out]; rfl
          have xlt : w.heap.size + 1 < WCUT.heap.size := lt_of_block HAQ20.out
          go_wp2_with (first
            | (refine wpList_load_row rfl 37 (.tmp 11) rfl gc rfl _ _ _ _ HF20.out huh rfl (HSH.out _) ?_)
            | fail)
          refine (CG2.out a2 _ _ HTC20.out HA23.out.1 HA23.out.2 rfl rfl rfl rfl rfl).mono ?_
          rintro e w21 ⟨rfl, hb21⟩
          have HH21 := Lib.hid ((hb21.block _ (lt_of_block HH20.out)).trans HH20.out)
          have HAQ21 := Lib.hid ((hb21.block _ (lt_of_block HAQ20.out)).trans HAQ20.out)
          have HF21 := Lib.hid ((hb21.block _ (lt_of_block HF20.out)).trans HF20.out)
          have B21 := Lib.hid (B20.out.trans (hb21.mono B20.out.size))
          have HT21 := Lib.hid (HT20.out.below hb21)
          have HTC21 := Lib.hid (HTC20.out.below hb21)
          clear hb21
          clear x0 x1 x2 xlt
          have x0 : w21.cell? ⟨w.heap.size + 1, 0, none⟩ = some (.string st) := by rw [cell_of_block HAQ21.out]; rfl
          have x1 : w21.cell? ⟨w.heap.size + 1, 1, none⟩ = some (.string it) := by rw [cell_of_block HAQ21.out]; rfl
          have x2 : w21.cell? ⟨w.heap.size + 1, 2, none⟩ = some (.int .i64 nq) := by rw [cell_of_block HAQ21.out]; rfl
          have xlt : w.heap.size + 1 < w21.heap.size := lt_of_block HAQ21.out
          go_wp2_with (first
            | (refine wpList_load_row rfl 37 (.tmp 3) rfl w.heap.size rfl _ _ _ _ HH21.out huh rfl (HSH.out _) ?_)
            | fail)
          refine (CG3.out h _ _ HT21.out (HN.out 3 (by decide)) (Nat.le_succ_of_le (HN.out 5 (by decide))) rfl rfl rfl rfl rfl).mono ?_
          rintro e w22 ⟨rfl, hb22⟩
          have HH22 := Lib.hid ((hb22.block _ (lt_of_block HH21.out)).trans HH21.out)
          have HAQ22 := Lib.hid ((hb22.block _ (lt_of_block HAQ21.out)).trans HAQ21.out)
          have HF22 := Lib.hid ((hb22.block _ (lt_of_block HF21.out)).trans HF21.out)
          have B22 := Lib.hid (B21.out.trans (hb22.mono B21.out.size))
          have HT22 := Lib.hid (HT21.out.below hb22)
          have HTC22 := Lib.hid (HTC21.out.below hb22)
          clear hb22
          clear x0 x1 x2 xlt
          rcases HFA.out with ⟨rfl, rfl, rfl⟩ | ⟨hne, rfl, rfl⟩
          ·
            go_wp2_with fail
            refine (HAW.out _).mono ?_
            rintro e w29 ⟨rfl, hb29⟩
            have BN := Lib.hid (B22.out.trans (hb29.mono B22.out.size))
            clear hb29
            go_wp2_with fail
            go_ret
            exact ⟨rfl, BN.out⟩
          ·
            have hn1 : ((e1 : Int) == 0) = false := by simpa using hne
            clear hne
            go_wp2_with fail
            refine (HAW.out _).mono ?_
            rintro e w29 ⟨rfl, hb29⟩
            have BN := Lib.hid (B22.out.trans (hb29.mono B22.out.size))
            clear hb29
            go_wp2_with fail
            go_ret
            exact ⟨rfl, BN.out⟩
theorem walk (C : Cons) (h : Hs) (L : Nat → List (List Value)) (cq : List Value) (zn : ByteArray) (w : World) (hin : HIn h L w) (fq : Fits kAsk cq) (mq : ∀ u ∈ cq, Mild u) (hs : zn.size ≤ 140737488351232) :
    Calls Try.prog 4 #[.agg h.cells, .agg cq.toArray, .string zn] w fun e w' => e = .returned (.bool true) ∧ Below w.heap.size w w' := by
  obtain ⟨s, t, n, rfl⟩ := ask_cells fq
  exact walk0 C h L s t n zn w hin (wf_of (mq _ (by simp)))
end Go.Proofs.Ytjphjblcahadkaa.rulesRank
