/-
  CONTRACTS of the code's isStatus, Status; stock: all of it. (By wip/tools/gen_qcode.py.)
-/
import Derived.Test.YtjacodbmmhnopaaGreatCM
namespace Go.Proofs.YtjacodbmmhnopaaGreat
set_option linter.unusedVariables false
open Go.RowKit
open Pl (firstG findG putG dropG It)

theorem cisst (st : Int) (w : World) : Calls Tryz.prog 56 #[.int .i64 st] w fun e w' => e = .returned (.bool (decide (1 ≤ st ∧ st ≤ 3))) ∧ w' = w := by
  rcases Classical.em (st = 1) with q1 | q1
  · subst q1
    go_enter Tryz.func56, Tryz.ntmps56
    go_wp2_with fail
    go_ret
    simp
  rcases Classical.em (st = 2) with q2 | q2
  · subst q2
    go_enter Tryz.func56, Tryz.ntmps56
    go_wp2_with fail
    go_ret
    simp
  rcases Classical.em (st = 3) with q3 | q3
  · subst q3
    go_enter Tryz.func56, Tryz.ntmps56
    go_wp2_with fail
    go_ret
    simp
  have q4 : decide (1 ≤ st ∧ st ≤ 3) = false := decide_eq_false (by omega)
  rw [q4]
  clear q4
  go_enter Tryz.func56, Tryz.ntmps56
  go_wp2_with fail
  go_ret
  simp [q1, q2, q3]

set_option maxRecDepth 100000 in
set_option maxHeartbeats 6400000 in
theorem cstat (h : Hs) (L : Nat → List (List Value)) (kb ki kl : ByteArray) (ks : Int) (n st : Int) (w : World) (hh : HT h L w) (hn4 : h.n 4 ≤ 8000) (hc1 : h.n 4 ≤ h.c 4 ∧ h.c 4 ≤ 9223372036854775807) :
    Calls Tryz.prog 11 #[.agg h.cells, .agg #[.string kb, .string ki, .string kl, .int .i64 ks], .int .i64 n, .int .i64 st] w (PutP 55 6 4 (statE (L 3) (L 4) (Ky.mk kb ki kl ks) n st) (statL (L 4) (Ky.mk kb ki kl ks) n st) h w) := by
  obtain ⟨ss, hss⟩ : ∃ z, decide (1 ≤ st ∧ st ≤ 3) = z := ⟨_, rfl⟩
  obtain ⟨fb, hfb⟩ : ∃ z, frozB (L 3) kb = z := ⟨_, rfl⟩
  obtain ⟨et, het⟩ : ∃ z, takeE (L 4) (Ky.mk kb ki kl ks) n = z := ⟨_, rfl⟩
  obtain ⟨lt, hlt⟩ : ∃ z, takeL (L 4) (Ky.mk kb ki kl ks) n = z := ⟨_, rfl⟩
  obtain ⟨ep, hep⟩ : ∃ z, putE lt (Ky.mk kb ki kl st) n = z := ⟨_, rfl⟩
  obtain ⟨lp, hlp⟩ : ∃ z, putL lt (Ky.mk kb ki kl st) n = z := ⟨_, rfl⟩
  obtain ⟨er, her⟩ : ∃ z, statE (L 3) (L 4) (Ky.mk kb ki kl ks) n st = z := ⟨_, rfl⟩
  have HS1 : ss = false ↔ (st < 1 ∨ 3 < st) := by rw [← hss, decide_eq_false_iff_not]; omega
  have HA : Hid (er = if ss = false ∨ st = ks then 31 else if fb = true then 25 else if et ≠ 0 then et else ep) := Lib.hid (by rw [← her]; unfold statE; simp only [HS1]; rw [hfb, het, hlt, hep])
  have HLS : statL (L 4) (Ky.mk kb ki kl ks) n st = lp := by unfold statL; rw [hlt, hlp]
  rw [her, HLS]
  have CS : Hid (∀ W, Calls Tryz.prog 56 #[.int .i64 st] W fun e w' => e = .returned (.bool ss) ∧ w' = W) := Lib.hid (fun W => by have := cisst st W; rwa [hss] at this)
  have CF : Hid (∀ W, Below w.heap.size w W → Calls Tryz.prog 34 #[.agg h.cells, .string kb] W fun e w' => e = .returned (.bool fb) ∧ Below W.heap.size W w') := Lib.hid (fun W hW => by have := cfroz h L kb W (hh.below hW); rwa [hfb] at this)
  have CT : Hid (∀ W, Below w.heap.size w W → Calls Tryz.prog 15 #[.agg h.cells, .agg #[.string kb, .string ki, .string kl, .int .i64 ks], .int .i64 n] W fun e w' => Below W.heap.size W w' ∧ ∃ g : Hs, e = .returned (.tuple #[.agg g.cells, .int .i64 (et : Nat)]) ∧ PutK 55 6 4 et lt h g W.heap.size w' ∧ HT g (setE et L 4 lt) w' ∧ (g.n 4 ≤ g.c 4 ∧ g.c 4 ≤ 9223372036854775807)) := Lib.hid (fun W hW => (ctake h L kb ki kl ks n W (hh.below hW) (by omega) hc1).mono (fun e w' h5 => by
    rw [het, hlt] at h5
    have hcp := h5
    obtain ⟨hb, g, he, hk⟩ := h5.k
    exact ⟨hb, g, he, hk, hk.htl (by decide) (by rw [← hlt]; exact upQ_things (hh 4 (by decide)).2.2.1 _) (by have h6 := (hh 4 (by decide)).1; have h7 : (takeL (L 4) (Ky.mk kb ki kl ks) n).length ≤ (L 4).length + 1 := upQ_len _ _; rw [hlt] at h7; omega) ((hh.below hW).below hb), PutP.caps hcp he (by decide) hc1⟩))
  have HLN : Hid (lt.length ≤ 8001) := Lib.hid (by have h6 := (hh 4 (by decide)).1; have h7 : (takeL (L 4) (Ky.mk kb ki kl ks) n).length ≤ (L 4).length + 1 := upQ_len _ _; rw [hlt] at h7; omega)
  have HHT := Lib.hid hh
  have CP : Hid (∀ (g : Hs) (G : Nat → List (List Value)) W, HT g G W → G 4 = lt → g.n 4 ≤ 9000 → (g.n 4 ≤ g.c 4 ∧ g.c 4 ≤ 9223372036854775807) → Calls Tryz.prog 36 #[.agg g.cells, .agg #[.string kb, .string ki, .string kl, .int .i64 st], .int .i64 n] W (PutP 55 6 4 ep lp g W)) := Lib.hid (fun g G W hg hG hn hc => by have := cputq g G (Ky.mk kb ki kl st).bin (Ky.mk kb ki kl st).item (Ky.mk kb ki kl st).lot (Ky.mk kb ki kl st).st n W hg hn hc; rw [hG] at this; rwa [show putE lt (Ky.mk (Ky.mk kb ki kl st).bin (Ky.mk kb ki kl st).item (Ky.mk kb ki kl st).lot (Ky.mk kb ki kl st).st) n = ep from hep, show putL lt (Ky.mk (Ky.mk kb ki kl st).bin (Ky.mk kb ki kl st).item (Ky.mk kb ki kl st).lot (Ky.mk kb ki kl st).st) n = lp from hlp] at this)
  clear her hss hfb het hlt hep hlp HLS HS1
  obtain ⟨W0, hW0⟩ : ∃ W0, W0 = (((w.alloc (.cells h.cells 37)).alloc (.cells #[.string kb, .string ki, .string kl, .int .i64 ks] 39)).alloc (.cells #[.slice none 0 0, .slice none 0 0, .slice none 0 0, .slice none 0 0, .slice none 0 0, .slice none 0 0, .slice none 0 0, .slice none 0 0, .slice none 0 0, .slice none 0 0, .slice none 0 0, .slice none 0 0, .slice none 0 0, .slice none 0 0, .int .i64 0] 37)) := ⟨_, rfl⟩
  have hb0 : Below w.heap.size w W0 := by rw [hW0]; exact (((Below.refl _ _).alloc (Nat.le_refl _) _).alloc (by simp <;> omega) _).alloc (by simp <;> omega) _
  have hs0 : W0.heap.size = w.heap.size + 3 := by rw [hW0]; simp
  have HH : Hid (∀ W, Below W0.heap.size W0 W → W.heap[w.heap.size]? = some (.cells h.cells 37 (0, 0))) := Lib.hid (fun W hW => (hW.block _ (by omega)).trans (by
    rw [hW0]
    have hq := heap_alloc_new w (.cells h.cells 37)
    exact (Below.heap_alloc _ _ _ (by simp <;> omega)).trans ((Below.heap_alloc _ _ _ (by simp <;> omega)).trans ((by simpa using hq)))))
  have HK : Hid (∀ W, Below W0.heap.size W0 W → W.heap[w.heap.size + 1]? = some (.cells #[.string kb, .string ki, .string kl, .int .i64 ks] 39 (0, 0))) := Lib.hid (fun W hW => (hW.block _ (by omega)).trans (by
    rw [hW0]
    have hq := heap_alloc_new (w.alloc (.cells h.cells 37)) (.cells #[.string kb, .string ki, .string kl, .int .i64 ks] 39)
    exact (Below.heap_alloc _ _ _ (by simp <;> omega)).trans ((by simpa using hq))))
  have HZ : Hid (∀ W, Below W0.heap.size W0 W → W.heap[w.heap.size + 2]? = some (.cells Hs.zero 37 (0, 0))) := Lib.hid (fun W hW => (hW.block _ (by omega)).trans (by
    rw [hW0]
    have hq := heap_alloc_new ((w.alloc (.cells h.cells 37)).alloc (.cells #[.string kb, .string ki, .string kl, .int .i64 ks] 39)) (.cells #[.slice none 0 0, .slice none 0 0, .slice none 0 0, .slice none 0 0, .slice none 0 0, .slice none 0 0, .slice none 0 0, .slice none 0 0, .slice none 0 0, .slice none 0 0, .slice none 0 0, .slice none 0 0, .slice none 0 0, .slice none 0 0, .int .i64 0] 37)
    exact (by simpa [Hs.zero] using hq)))
  have HBW : Hid (∀ W, Below W0.heap.size W0 W → Below w.heap.size w W ∧ w.heap.size + 3 ≤ W.heap.size) := Lib.hid (fun W hW => ⟨hb0.trans (hW.mono (by omega)), by have := hW.size; omega⟩)
  have huh := Tryz.underlying37
  have HSH : Hid (∀ a : Hs, (Tryz.prog.info? 37).map (·.size) = some a.cells.size) := Lib.hid (fun a => by kernel_rfl)
  have HSQ : Hid ((Tryz.prog.info? 37).map (·.size) = some Hs.zero.size) := Lib.hid (by kernel_rfl)
  have H1C : Hid (∀ a : Hs, a.cells.all (·.oneCell') = true) := Lib.hid (fun a => by simp [Hs.cells, Value.oneCell'])
  have H1Q : Hid (Hs.zero.all (·.oneCell') = true) := Lib.hid (by simp [Hs.zero, Value.oneCell'])
  have huHK := Tryz.underlying39
  have HSHK : Hid ((Tryz.prog.info? 39).map (·.size) = some 4) := Lib.hid (by kernel_rfl)
  have HCHK : Hid (∀ W, Below W0.heap.size W0 W → W.cell? ⟨w.heap.size + 1, 0, none⟩ = some (.string kb) ∧ W.cell? ⟨w.heap.size + 1, 1, none⟩ = some (.string ki) ∧ W.cell? ⟨w.heap.size + 1, 2, none⟩ = some (.string kl) ∧ W.cell? ⟨w.heap.size + 1, 3, none⟩ = some (.int .i64 ks) ∧ w.heap.size + 1 < W.heap.size) := Lib.hid (fun W hW => ⟨by rw [cell_of_block (HK.out W hW)]; rfl, by rw [cell_of_block (HK.out W hW)]; rfl, by rw [cell_of_block (HK.out W hW)]; rfl, by rw [cell_of_block (HK.out W hW)]; rfl, by have := hW.size; omega⟩)
  have H0 := Lib.hid (Below.refl W0.heap.size W0)
  clear hb0 hs0 hh hn4 hc1
  subst hW0
  go_enter Tryz.func11, Tryz.ntmps11
  obtain ⟨hk0, hk1, hk2, hk3, hlthk⟩ := HCHK.out _ H0.out
  go_wp2_with fail
  refine (CS.out _).mono ?_
  rintro e w2 ⟨rfl, rfl⟩
  cases ss with
  | false =>
    have HE : Hid (er = 31) := Lib.hid (by rw [HA.out, if_pos (.inl rfl)])
    go_wp2_with (first
      | (refine wpList_store_row rfl 37 (.tmp 8) (.tmp 20) rfl (w.heap.size + 2) Hs.zero rfl rfl _ _ (HZ.out _ H0.out) HSQ.out rfl H1Q.out ?_)
      | fail)
    exact bodyPost_ret (results_row_tmp rfl _ _ (w.heap.size + 2) _ _ _ _ rfl (setRow_heap _ _ _ _ _ _ (HZ.out _ H0.out)) huh rfl HSQ.out) rfl ⟨setRow_below (HBW.out _ H0.out).1 (by omega) _, .inl ⟨by rw [HE.out]; decide, by rw [HE.out]; rfl⟩⟩
  | true =>
    by_cases q5 : st = ks
    · have q6 : (st == ks) = true := by simpa using q5
      have HE : Hid (er = 31) := Lib.hid (by rw [HA.out, if_pos (.inr q5)])
      clear q5
      go_wp2_with (first
        | (refine wpList_store_row rfl 37 (.tmp 8) (.tmp 20) rfl (w.heap.size + 2) Hs.zero rfl rfl _ _ (HZ.out _ H0.out) HSQ.out rfl H1Q.out ?_)
        | fail)
      exact bodyPost_ret (results_row_tmp rfl _ _ (w.heap.size + 2) _ _ _ _ rfl (setRow_heap _ _ _ _ _ _ (HZ.out _ H0.out)) huh rfl HSQ.out) rfl ⟨setRow_below (HBW.out _ H0.out).1 (by omega) _, .inl ⟨by rw [HE.out]; decide, by rw [HE.out]; rfl⟩⟩
    · have q6 : (st == ks) = false := by simpa using q5
      have HA1 : Hid (er = if fb = true then 25 else if et ≠ 0 then et else ep) := Lib.hid (by rw [HA.out, if_neg (fun h => h.elim (fun h => by cases h) q5)])
      clear q5
      go_wp2_with (first
        | (refine wpList_load_row rfl 37 (.tmp 4) rfl w.heap.size rfl _ _ _ _ (HH.out _ H0.out) huh rfl (HSH.out _) ?_)
        | fail)
      refine (CF.out _ (HBW.out _ H0.out).1).mono ?_
      rintro e w1 ⟨rfl, hb1⟩
      have H1 := Lib.hid (H0.out.trans (hb1.mono H0.out.size))
      clear hb1
      clear hk0 hk1 hk2 hk3 hlthk
      clear q6
      cases fb with
      | true =>
        have HE : Hid (er = 25) := Lib.hid (by rw [HA1.out]; rfl)
        go_wp2_with (first
          | (refine wpList_store_row rfl 37 (.tmp 8) (.tmp 25) rfl (w.heap.size + 2) Hs.zero rfl rfl _ _ (HZ.out _ H1.out) HSQ.out rfl H1Q.out ?_)
          | fail)
        exact bodyPost_ret (results_row_tmp rfl _ _ (w.heap.size + 2) _ _ _ _ rfl (setRow_heap _ _ _ _ _ _ (HZ.out _ H1.out)) huh rfl HSQ.out) rfl ⟨setRow_below (HBW.out _ H1.out).1 (by omega) _, .inl ⟨by rw [HE.out]; decide, by rw [HE.out]; rfl⟩⟩
      | false =>
        have HSZ := Lib.hid (HBW.out _ H1.out).2
        go_wp2_with (first
          | (refine wpList_load_row rfl 37 (.tmp 4) rfl w.heap.size rfl _ _ _ _ (HH.out _ H1.out) huh rfl (HSH.out _) ?_)
          | (refine wpList_load_row rfl 39 (.tmp 5) rfl (w.heap.size + 1) rfl _ _ _ _ (HK.out _ H1.out) huHK rfl HSHK.out ?_)
          | fail)
        refine (CT.out _ (HBW.out _ H1.out).1).mono ?_
        rintro e w4 ⟨hb4, g, rfl, hk4, hg4, hc4⟩
        have H4 := Lib.hid (H1.out.trans (hb4.mono H1.out.size))
        have HH4 := Lib.hid (HH.out _ H4.out)
        have HB4 := Lib.hid (HBW.out _ H4.out)
        have HK4 := Lib.hid hk4
        have HC4 := Lib.hid hc4
        have HOF0 : Off w.heap.size g (setE et L 4 lt) := hk4.off (by have := HSZ.out; omega) (HHT.out.offge (Nat.le_refl _))
        have HOFF : Hid (Off (w.heap.size + 1) g (setE et L 4 lt)) := Lib.hid (hk4.off (by have := HSZ.out; omega) (HHT.out.offge (Nat.le_succ _)))
        obtain ⟨w5, hw5⟩ : ∃ W, W = w4.setRow w.heap.size g.cells := ⟨_, rfl⟩
        have HG5 : Hid (w5.heap[w.heap.size]? = some (.cells g.cells 37 (0, 0))) := Lib.hid (by rw [hw5]; exact setRow_heap _ _ _ _ _ _ HH4.out)
        have HKB5 : Hid (w5.heap[w.heap.size + 1]? = some (.cells #[.string kb, .string ki, .string kl, .int .i64 ks] 39 (0, 0))) := Lib.hid (by rw [hw5]; exact (setRow_other _ _ _ _ (by omega)).trans (HK.out _ H4.out))
        have HZ5 : Hid (w5.heap[w.heap.size + 2]? = some (.cells Hs.zero 37 (0, 0))) := Lib.hid (by rw [hw5]; exact (setRow_other _ _ _ _ (by omega)).trans (HZ.out _ H4.out))
        have HB5 : Hid (Below w.heap.size w w5) := Lib.hid (by rw [hw5]; exact setRow_below HB4.out.1 (Nat.le_refl _) _)
        have HS5 : Hid (w.heap.size + 3 ≤ w5.heap.size) := Lib.hid (by rw [hw5]; simpa using HB4.out.2)
        have HT5 : Hid (HT g (setE et L 4 lt) w5) := Lib.hid (by rw [hw5]; exact hg4.setRowOff HOF0 _)
        have HW5 := Lib.hid hw5
        clear hw5 hb4 hk4 hg4 hc4 HOF0
        go_upto_region 6 with (first
          | (refine wpList_store_row rfl 37 (.tmp 4) (.tmp 31) rfl w.heap.size g.cells rfl rfl _ _ HH4.out (HSH.out _) rfl (H1C.out _) ?_; rw [← HW5.out])
          | fail)
        by_cases he0 : et = 0
        case neg =>
          have HKE := Lib.hid he0
          have hk0 : ((et : Int) != 0) = true := by simpa using he0
          have HE : Hid (er = et) := Lib.hid (by have : er = if et ≠ 0 then et else ep := (by rw [HA1.out]; rfl); rw [this, if_pos he0])
          clear he0
          go_wp2_with (first
            | (refine wpList_store_row rfl 37 (.tmp 8) (.tmp 35) rfl (w.heap.size + 2) Hs.zero rfl rfl _ _ HZ5.out HSQ.out rfl H1Q.out ?_)
            | fail)
          exact bodyPost_ret (results_row_tmp rfl _ _ (w.heap.size + 2) _ _ _ _ rfl (setRow_heap _ _ _ _ _ _ HZ5.out) huh rfl HSQ.out) rfl ⟨setRow_below HB5.out (by omega) _, .inl ⟨by rw [HE.out]; exact HKE.out, by rw [HE.out]; rfl⟩⟩
        subst he0
        have HA0 : Hid (er = ep) := Lib.hid (by have : er = if (0 : Nat) ≠ 0 then 0 else ep := (by rw [HA1.out]; rfl); rw [this, if_neg (by simp)])
        have HAP := HA0
        obtain ⟨w6, hw6⟩ : ∃ W, W = w5 := ⟨_, rfl⟩
        have HG6 := HG5
        have HKB6 := HKB5
        have HZ6 := HZ5
        have HB6 := HB5
        have HS6 := HS5
        have HT6 := HT5
        rw [← hw6] at HG6 HKB6 HZ6 HB6 HS6 HT6 ⊢
        clear hw6
        obtain ⟨w7, hw7⟩ : ∃ W, W = w6.setCell ⟨w.heap.size + 1, 3, none⟩ (.int .i64 st) := ⟨_, rfl⟩
        have HK7 : Hid (w7.heap[w.heap.size + 1]? = some (.cells #[.string kb, .string ki, .string kl, .int .i64 st] 39 (0, 0))) := Lib.hid (by rw [hw7, block_setCell HKB6.out]; rfl)
        have HG7 : Hid (w7.heap[w.heap.size]? = some (.cells g.cells 37 (0, 0))) := Lib.hid (by rw [hw7]; exact (block_setCell_other (show w.heap.size ≠ w.heap.size + 1 by omega) _).trans HG6.out)
        have HZ7 : Hid (w7.heap[w.heap.size + 2]? = some (.cells Hs.zero 37 (0, 0))) := Lib.hid (by rw [hw7]; exact (block_setCell_other (show w.heap.size + 2 ≠ w.heap.size + 1 by omega) _).trans HZ6.out)
        have HT7 : Hid (HT g (setE 0 L 4 lt) w7) := Lib.hid (by rw [hw7]; exact HT6.out.setCellOff HOFF.out _)
        have HB7 : Hid (Below w.heap.size w w7) := Lib.hid (by rw [hw7]; exact HB6.out.setCell (show w.heap.size ≤ w.heap.size + 1 by omega) _)
        have HS7 : Hid (w.heap.size + 3 ≤ w7.heap.size) := Lib.hid (by rw [hw7]; simpa using HS6.out)
        have HGN : Hid (g.n 4 ≤ 9000) := Lib.hid (by rw [(HT6.out 4 (by decide)).1]; exact Nat.le_trans HLN.out (by decide))
        have HW7 := Lib.hid hw7
        clear hw7
        have ff : w6.frozen? ⟨w.heap.size + 1, 3, none⟩ = false := frozen_of_block HKB6.out
        have y0 : w6.cell? ⟨w.heap.size + 1, 3, none⟩ = some (.int .i64 ks) := by rw [cell_of_block HKB6.out]; rfl
        have ylt : w.heap.size + 1 < w6.heap.size := by have := HS6.out; omega
        go_upto_region 9 with fail
        rw [← HW7.out]
        clear ff y0 ylt
        go_wp2_with (first
          | (refine wpList_load_row rfl 37 (.tmp 4) rfl w.heap.size rfl _ _ _ _ HG7.out huh rfl (HSH.out _) ?_)
          | (refine wpList_load_row rfl 39 (.tmp 5) rfl (w.heap.size + 1) rfl _ _ _ _ HK7.out huHK rfl HSHK.out ?_)
          | fail)
        refine (CP.out g _ w7 HT7.out rfl HGN.out HC4.out).mono ?_
        intro e w8 hP
        obtain ⟨hb8, hP⟩ := hP
        have HB8 := Lib.hid (HB7.out.trans (hb8.mono HB7.out.size))
        have HZ8 := Lib.hid ((hb8.block _ (lt_of_block HZ7.out)).trans HZ7.out)
        clear hb8
        rcases hP with ⟨hne, rfl⟩ | ⟨h0, A, n9, cc, hl, ho, rfl⟩
        · have HNE := Lib.hid hne
          clear hne
          go_wp2_with (first
            | (refine wpList_store_row rfl 37 (.tmp 8) (.tmp 43) rfl (w.heap.size + 2) Hs.zero rfl rfl _ _ HZ8.out HSQ.out rfl H1Q.out ?_)
            | fail)
          exact bodyPost_ret (results_row_tmp rfl _ _ (w.heap.size + 2) _ _ _ _ rfl (setRow_heap _ _ _ _ _ _ HZ8.out) huh rfl HSQ.out) rfl ⟨setRow_below HB8.out (by omega) _, .inl ⟨by rw [HAP.out]; exact HNE.out, by rw [HAP.out]; rfl⟩⟩
        · have HLE := Lib.hid hl
          have HO := Lib.hid ho
          have H00 := Lib.hid h0
          clear hl ho h0
          go_wp2_with (first
            | (refine wpList_store_row rfl 37 (.tmp 8) (.tmp 43) rfl (w.heap.size + 2) (g.set 4 A n9 cc).cells rfl rfl _ _ HZ8.out (HSH.out _) rfl (H1C.out _) ?_)
            | fail)
          refine bodyPost_ret (results_row_tmp rfl _ _ (w.heap.size + 2) _ _ _ _ rfl (setRow_heap _ _ _ _ _ _ HZ8.out) huh rfl (HSH.out _)) rfl ⟨setRow_below HB8.out (by omega) _, .inr ⟨by rw [HAP.out]; exact H00.out, A, n9, cc, HLE.out, own_rowed HO.out (by have := HS7.out; omega) (by have := HS7.out; omega), ?_⟩⟩
          rcases HK4.out with ⟨h1, _⟩ | ⟨_, A0, n0, c0, _, _, hg⟩
          · exact absurd rfl h1
          · rw [hg, Hs.set_set]; rfl

theorem cons : Cons := ⟨fun h L kb ki kl ks w hh => fcq hh kb ki kl ks, fun h L s t w hh => ctotal h L s t w hh, fun h L kb ki kl ks n w hh hn hc => ctake h L kb ki kl ks n w hh (by omega) hc, fun h L kb ki kl ks n w hh hn hc => cputq h L kb ki kl ks n w hh (by omega) hc, fun h L kb ki kl ks n w hh hn hc => chold h L kb ki kl ks n w hh (by omega) hc, fun h L kb ki kl ks n t w hh hn hc => cmove h L kb ki kl ks n t w hh (by omega) hc, fun h L kb ki kl ks n st w hh hn hc => cstat h L kb ki kl ks n st w hh (by omega) hc⟩
end Go.Proofs.YtjacodbmmhnopaaGreat
