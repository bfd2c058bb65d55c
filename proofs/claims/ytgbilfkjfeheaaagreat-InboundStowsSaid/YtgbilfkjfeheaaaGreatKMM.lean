/-
 CONTRACTS of stock's frozen, Move.
-/
import Derived.Test.YtgbilfkjfeheaaaGreatKM
import Derived.Test.YtgbilfkjfeheaaaGreatKQT
import Derived.Test.YtgbilfkjfeheaaaGreatKF
import Derived.Test.YtgbilfkjfeheaaaGreatGT
namespace Go.Proofs.YtgbilfkjfeheaaaGreat
set_option linter.unusedVariables false
open Go.RowKit
open Pl (firstG findG putG dropG It)

set_option maxRecDepth 100000 in
set_option maxHeartbeats 3200000 in
set_option maxRecDepth 100000 in
set_option maxHeartbeats 3200000 in
theorem cfroz (h : Hs) (L : Nat → List (List Value)) (s : ByteArray) (w : World) (hh : HT h L w) :
 Calls Tryz.prog 123 #[.agg h.cells, .string s] w fun e w' => e = .returned (.bool (frozB (L 3) s)) ∧ Below w.heap.size w w' := by
 obtain ⟨y, hy, hyb⟩ := bin_eight hh s
 obtain ⟨ib, hib⟩ : ∃ z, (atBin (L 3) s).isSome = z := ⟨_, rfl⟩
 obtain ⟨r, hr⟩ : ∃ r, frozB (L 3) s = r := ⟨_, rfl⟩
 have HE : Hid (r = y.frz) := Lib.hid (by
  rw [← hr]; unfold frozB; rw [hib, hyb]
  cases ib with
  | true => rfl
  | false => rw [gotBin_none hib] at hyb; rw [← hyb]; rfl)
 have CB : Hid (∀ W, Below w.heap.size w W → Calls Tryz.prog 24 #[.agg h.cells, .string s] W fun e w' => e = .returned (.tuple #[.agg #[.string y.code, .string y.zone, .int .i64 y.kind, .int .i64 y.aisle, .int .i64 y.place, .int .i64 y.vol, .int .i64 y.wei, .bool y.frz], .bool ib]) ∧ Below W.heap.size W w') := Lib.hid (fun W hW => by have := fcBin (hh.below hW) s; rw [hy, hib] at this; exact this)
 rw [hr]
 clear hr hib hy hyb
 obtain ⟨W0, hW0⟩ : ∃ W0, W0 = (w.alloc (.cells h.cells 37)) := ⟨_, rfl⟩
 have hb0 : Below w.heap.size w W0 := by rw [hW0]; exact (Below.refl _ _).alloc (Nat.le_refl _) _
 have hs0 : W0.heap.size = w.heap.size + 1 := by rw [hW0]; simp
 have HH : Hid (∀ W, Below W0.heap.size W0 W → W.heap[w.heap.size]? = some (.cells h.cells 37 (0, 0))) := Lib.hid (fun W hW => (hW.block _ (by omega)).trans (by
  rw [hW0]
  have hq := heap_alloc_new w (.cells h.cells 37)
  exact (by simpa using hq)))
 have HBW : Hid (∀ W, Below W0.heap.size W0 W → Below w.heap.size w W ∧ w.heap.size + 1 ≤ W.heap.size) := Lib.hid (fun W hW => ⟨hb0.trans (hW.mono (by omega)), by have := hW.size; omega⟩)
 have huh := Tryz.underlying37
 have HSH : Hid (∀ a : Hs, (Tryz.prog.info? 37).map (·.size) = some a.cells.size) := Lib.hid (fun a => by kernel_rfl)
 have H0 := Lib.hid (Below.refl W0.heap.size W0)
 clear hb0 hs0 hh
 subst hW0
 go_enter Tryz.func123, Tryz.ntmps123
 go_wp2_with (first
  | (refine wpList_load_row rfl 37 (.tmp 2) rfl w.heap.size rfl _ _ _ _ (HH.out _ H0.out) huh rfl (HSH.out _) ?_)
  | fail)
 refine (CB.out _ (HBW.out _ H0.out).1).mono ?_
 rintro e w1 ⟨rfl, hb1⟩
 have H1 := Lib.hid (H0.out.trans (hb1.mono H0.out.size))
 clear hb1
 have H2 := Lib.hid (H1.out.alloc H1.out.size (.cells #[.string y.code, .string y.zone, .int .i64 y.kind, .int .i64 y.aisle, .int .i64 y.place, .int .i64 y.vol, .int .i64 y.wei, .bool y.frz] 64))
 go_wp2_with fail
 go_ret
 exact ⟨by rw [HE.out]; rfl, (HBW.out _ H2.out).1⟩

set_option maxRecDepth 100000 in
set_option maxHeartbeats 6400000 in
theorem cmove (h : Hs) (L : Nat → List (List Value)) (kb ki kl : ByteArray) (ks : Int) (n : Int) (tb : ByteArray) (w : World) (hh : HT h L w) (hn4 : h.n 4 ≤ 8000) (hc1 : h.n 4 ≤ h.c 4 ∧ h.c 4 ≤ 9223372036854775807) :
 Calls Tryz.prog 83 #[.agg h.cells, .agg #[.string kb, .string ki, .string kl, .int .i64 ks], .int .i64 n, .string tb] w (PutP 71 6 4 (moveE (L 0) (L 3) (L 4) (Ky.mk kb ki kl ks) n tb) (moveL (L 4) (Ky.mk kb ki kl ks) n tb) h w) := by
 obtain ⟨y, hy, hyb⟩ := bin_eight hh tb
 obtain ⟨ib, hib⟩ : ∃ z, (atBin (L 3) tb).isSome = z := ⟨_, rfl⟩
 obtain ⟨eq, heq⟩ : ∃ z, Pl.eqv tb kb = z := ⟨_, rfl⟩
 obtain ⟨fa, hfa⟩ : ∃ z, frozB (L 3) tb = z := ⟨_, rfl⟩
 obtain ⟨fb, hfb⟩ : ∃ z, frozB (L 3) kb = z := ⟨_, rfl⟩
 obtain ⟨et, het⟩ : ∃ z, takeE (L 4) (Ky.mk kb ki kl ks) n = z := ⟨_, rfl⟩
 obtain ⟨lt, hlt⟩ : ∃ z, takeL (L 4) (Ky.mk kb ki kl ks) n = z := ⟨_, rfl⟩
 obtain ⟨rm, hrm⟩ : ∃ z, roomE (L 0) (L 3) lt tb ki n = z := ⟨_, rfl⟩
 obtain ⟨ep, hep⟩ : ∃ z, putE lt (Ky.mk tb ki kl ks) n = z := ⟨_, rfl⟩
 obtain ⟨lp, hlp⟩ : ∃ z, putL lt (Ky.mk tb ki kl ks) n = z := ⟨_, rfl⟩
 obtain ⟨er, her⟩ : ∃ z, moveE (L 0) (L 3) (L 4) (Ky.mk kb ki kl ks) n tb = z := ⟨_, rfl⟩
 have HA : Hid (er = if eq = true then 1 else if ib = false then 12 else if (fa || fb) = true then 25 else if et ≠ 0 then et else if rm ≠ 0 then rm else ep) := Lib.hid (by rw [← her]; unfold moveE; simp only []; rw [heq, hib, hfa, hfb, het, hlt, hrm, hep])
 have HLS : moveL (L 4) (Ky.mk kb ki kl ks) n tb = lp := by unfold moveL; simp only []; rw [hlt, hlp]
 rw [her, HLS]
 have CF : Hid (∀ W, Below w.heap.size w W → Calls Tryz.prog 123 #[.agg h.cells, .string tb] W fun e w' => e = .returned (.bool fa) ∧ Below W.heap.size W w') := Lib.hid (fun W hW => by have := cfroz h L tb W (hh.below hW); rwa [hfa] at this)
 have CG : Hid (∀ W, Below w.heap.size w W → Calls Tryz.prog 123 #[.agg h.cells, .string kb] W fun e w' => e = .returned (.bool fb) ∧ Below W.heap.size W w') := Lib.hid (fun W hW => by have := cfroz h L kb W (hh.below hW); rwa [hfb] at this)
 have CB : Hid (∀ W, Below w.heap.size w W → Calls Tryz.prog 24 #[.agg h.cells, .string tb] W fun e w' => e = .returned (.tuple #[.agg #[.string y.code, .string y.zone, .int .i64 y.kind, .int .i64 y.aisle, .int .i64 y.place, .int .i64 y.vol, .int .i64 y.wei, .bool y.frz], .bool ib]) ∧ Below W.heap.size W w') := Lib.hid (fun W hW => by have := fcBin (hh.below hW) tb; rw [hy, hib] at this; exact this)
 have CR : Hid (∀ (g : Hs) W, HT g (setE 0 L 4 lt) W → Calls Tryz.prog 106 #[.agg g.cells, .string tb, .string ki, .int .i64 n] W fun e w' => e = .returned (.int .i64 (rm : Nat)) ∧ Below W.heap.size W w') := Lib.hid (fun g W hg => by have := cfits_any g (setE 0 L 4 lt) tb ki n W hg; rwa [show roomE (setE 0 L 4 lt 0) (setE 0 L 4 lt 3) (setE 0 L 4 lt 4) tb ki n = rm from hrm] at this)
 have CT : Hid (∀ W, Below w.heap.size w W → Calls Tryz.prog 124 #[.agg h.cells, .agg #[.string kb, .string ki, .string kl, .int .i64 ks], .int .i64 n] W fun e w' => Below W.heap.size W w' ∧ ∃ g : Hs, e = .returned (.tuple #[.agg g.cells, .int .i64 (et : Nat)]) ∧ PutK 71 6 4 et lt h g W.heap.size w' ∧ HT g (setE et L 4 lt) w' ∧ (g.n 4 ≤ g.c 4 ∧ g.c 4 ≤ 9223372036854775807)) := Lib.hid (fun W hW => (ctake h L kb ki kl ks n W (hh.below hW) (by omega) hc1).mono (fun e w' h5 => by
  rw [het, hlt] at h5
  have hcp := h5
  obtain ⟨hb, g, he, hk⟩ := h5.k
  exact ⟨hb, g, he, hk, hk.htl (by decide) (by rw [← hlt]; exact upQ_things (hh 4 (by decide)).2.2.1 _) (by have h6 := (hh 4 (by decide)).1; have h7 : (takeL (L 4) (Ky.mk kb ki kl ks) n).length ≤ (L 4).length + 1 := upQ_len _ _; rw [hlt] at h7; omega) ((hh.below hW).below hb), PutP.caps hcp he (by decide) hc1⟩))
 have HLN : Hid (lt.length ≤ 8001) := Lib.hid (by have h6 := (hh 4 (by decide)).1; have h7 : (takeL (L 4) (Ky.mk kb ki kl ks) n).length ≤ (L 4).length + 1 := upQ_len _ _; rw [hlt] at h7; omega)
 have HHT := Lib.hid hh
 have CP : Hid (∀ (g : Hs) (G : Nat → List (List Value)) W, HT g G W → G 4 = lt → g.n 4 ≤ 9000 → (g.n 4 ≤ g.c 4 ∧ g.c 4 ≤ 9223372036854775807) → Calls Tryz.prog 71 #[.agg g.cells, .agg #[.string tb, .string ki, .string kl, .int .i64 ks], .int .i64 n] W (PutP 71 6 4 ep lp g W)) := Lib.hid (fun g G W hg hG hn hc => by have := cputq g G (Ky.mk tb ki kl ks).bin (Ky.mk tb ki kl ks).item (Ky.mk tb ki kl ks).lot (Ky.mk tb ki kl ks).st n W hg hn hc; rw [hG] at this; rwa [show putE lt (Ky.mk (Ky.mk tb ki kl ks).bin (Ky.mk tb ki kl ks).item (Ky.mk tb ki kl ks).lot (Ky.mk tb ki kl ks).st) n = ep from hep, show putL lt (Ky.mk (Ky.mk tb ki kl ks).bin (Ky.mk tb ki kl ks).item (Ky.mk tb ki kl ks).lot (Ky.mk tb ki kl ks).st) n = lp from hlp] at this)
 have HEQ := Lib.hid heq
 clear her hib heq hfa hfb het hlt hep hlp hrm HLS hy hyb
 obtain ⟨W0, hW0⟩ : ∃ W0, W0 = (((w.alloc (.cells h.cells 37)).alloc (.cells #[.string kb, .string ki, .string kl, .int .i64 ks] 60)).alloc (.cells #[.slice none 0 0, .slice none 0 0, .slice none 0 0, .slice none 0 0, .slice none 0 0, .slice none 0 0, .slice none 0 0, .slice none 0 0, .slice none 0 0, .slice none 0 0, .slice none 0 0, .slice none 0 0, .slice none 0 0, .slice none 0 0, .int .i64 0] 37)) := ⟨_, rfl⟩
 have hb0 : Below w.heap.size w W0 := by rw [hW0]; exact (((Below.refl _ _).alloc (Nat.le_refl _) _).alloc (by simp <;> omega) _).alloc (by simp <;> omega) _
 have hs0 : W0.heap.size = w.heap.size + 3 := by rw [hW0]; simp
 have HH : Hid (∀ W, Below W0.heap.size W0 W → W.heap[w.heap.size]? = some (.cells h.cells 37 (0, 0))) := Lib.hid (fun W hW => (hW.block _ (by omega)).trans (by
  rw [hW0]
  have hq := heap_alloc_new w (.cells h.cells 37)
  exact (Below.heap_alloc _ _ _ (by simp <;> omega)).trans ((Below.heap_alloc _ _ _ (by simp <;> omega)).trans ((by simpa using hq)))))
 have HK : Hid (∀ W, Below W0.heap.size W0 W → W.heap[w.heap.size + 1]? = some (.cells #[.string kb, .string ki, .string kl, .int .i64 ks] 60 (0, 0))) := Lib.hid (fun W hW => (hW.block _ (by omega)).trans (by
  rw [hW0]
  have hq := heap_alloc_new (w.alloc (.cells h.cells 37)) (.cells #[.string kb, .string ki, .string kl, .int .i64 ks] 60)
  exact (Below.heap_alloc _ _ _ (by simp <;> omega)).trans ((by simpa using hq))))
 have HZ : Hid (∀ W, Below W0.heap.size W0 W → W.heap[w.heap.size + 2]? = some (.cells Hs.zero 37 (0, 0))) := Lib.hid (fun W hW => (hW.block _ (by omega)).trans (by
  rw [hW0]
  have hq := heap_alloc_new ((w.alloc (.cells h.cells 37)).alloc (.cells #[.string kb, .string ki, .string kl, .int .i64 ks] 60)) (.cells #[.slice none 0 0, .slice none 0 0, .slice none 0 0, .slice none 0 0, .slice none 0 0, .slice none 0 0, .slice none 0 0, .slice none 0 0, .slice none 0 0, .slice none 0 0, .slice none 0 0, .slice none 0 0, .slice none 0 0, .slice none 0 0, .int .i64 0] 37)
  exact (by simpa [Hs.zero] using hq)))
 have HBW : Hid (∀ W, Below W0.heap.size W0 W → Below w.heap.size w W ∧ w.heap.size + 3 ≤ W.heap.size) := Lib.hid (fun W hW => ⟨hb0.trans (hW.mono (by omega)), by have := hW.size; omega⟩)
 have huh := Tryz.underlying37
 have HSH : Hid (∀ a : Hs, (Tryz.prog.info? 37).map (·.size) = some a.cells.size) := Lib.hid (fun a => by kernel_rfl)
 have HSQ : Hid ((Tryz.prog.info? 37).map (·.size) = some Hs.zero.size) := Lib.hid (by kernel_rfl)
 have H1C : Hid (∀ a : Hs, a.cells.all (·.oneCell') = true) := Lib.hid (fun a => by simp [Hs.cells, Value.oneCell'])
 have H1Q : Hid (Hs.zero.all (·.oneCell') = true) := Lib.hid (by simp [Hs.zero, Value.oneCell'])
 have huHK := Tryz.underlying60
 have HSHK : Hid ((Tryz.prog.info? 60).map (·.size) = some 4) := Lib.hid (by kernel_rfl)
 have HCHK : Hid (∀ W, Below W0.heap.size W0 W → W.cell? ⟨w.heap.size + 1, 0, none⟩ = some (.string kb) ∧ W.cell? ⟨w.heap.size + 1, 1, none⟩ = some (.string ki) ∧ W.cell? ⟨w.heap.size + 1, 2, none⟩ = some (.string kl) ∧ W.cell? ⟨w.heap.size + 1, 3, none⟩ = some (.int .i64 ks) ∧ w.heap.size + 1 < W.heap.size) := Lib.hid (fun W hW => ⟨by rw [cell_of_block (HK.out W hW)]; rfl, by rw [cell_of_block (HK.out W hW)]; rfl, by rw [cell_of_block (HK.out W hW)]; rfl, by rw [cell_of_block (HK.out W hW)]; rfl, by have := hW.size; omega⟩)
 have H0 := Lib.hid (Below.refl W0.heap.size W0)
 clear hb0 hs0 hh hn4 hc1
 subst hW0
 go_enter Tryz.func83, Tryz.ntmps83
 obtain ⟨hk0, hk1, hk2, hk3, hlthk⟩ := HCHK.out _ H0.out
 cases eq with
 | true =>
  have he' : (tb.toList == kb.toList) = true := HEQ.out
  have HE : Hid (er = 1) := Lib.hid (by rw [HA.out]; rfl)
  go_wp2_with (first
   | (refine wpList_store_row rfl 37 (.tmp 8) (.tmp 18) rfl (w.heap.size + 2) Hs.zero rfl rfl _ _ (HZ.out _ H0.out) HSQ.out rfl H1Q.out ?_)
   | fail)
  exact bodyPost_ret (results_row_tmp rfl _ _ (w.heap.size + 2) _ _ _ _ rfl (setRow_heap _ _ _ _ _ _ (HZ.out _ H0.out)) huh rfl HSQ.out) rfl ⟨setRow_below (HBW.out _ H0.out).1 (by omega) _, .inl ⟨by rw [HE.out]; decide, by rw [HE.out]; rfl⟩⟩
 | false =>
  have he' : (tb.toList == kb.toList) = false := HEQ.out
  go_wp2_with (first
   | (refine wpList_load_row rfl 37 (.tmp 4) rfl w.heap.size rfl _ _ _ _ (HH.out _ H0.out) huh rfl (HSH.out _) ?_)
   | fail)
  refine (CB.out _ (HBW.out _ H0.out).1).mono ?_
  rintro e w1 ⟨rfl, hb1⟩
  have H1 := Lib.hid (H0.out.trans (hb1.mono H0.out.size))
  clear hb1
  have H2 := Lib.hid (H1.out.alloc H1.out.size (.cells #[.string y.code, .string y.zone, .int .i64 y.kind, .int .i64 y.aisle, .int .i64 y.place, .int .i64 y.vol, .int .i64 y.wei, .bool y.frz] 64))
  clear hk0 hk1 hk2 hk3 hlthk
  clear he'
  cases ib with
  | false =>
   have HE : Hid (er = 12) := Lib.hid (by rw [HA.out]; rfl)
   go_wp2_with (first
    | (refine wpList_store_row rfl 37 (.tmp 8) (.tmp 27) rfl (w.heap.size + 2) Hs.zero rfl rfl _ _ (HZ.out _ H2.out) HSQ.out rfl H1Q.out ?_)
    | fail)
   exact bodyPost_ret (results_row_tmp rfl _ _ (w.heap.size + 2) _ _ _ _ rfl (setRow_heap _ _ _ _ _ _ (HZ.out _ H2.out)) huh rfl HSQ.out) rfl ⟨setRow_below (HBW.out _ H2.out).1 (by omega) _, .inl ⟨by rw [HE.out]; decide, by rw [HE.out]; rfl⟩⟩
  | true =>
   obtain ⟨hk0, hk1, hk2, hk3, hlthk⟩ := HCHK.out _ H2.out
   go_wp2_with (first
    | (refine wpList_load_row rfl 37 (.tmp 4) rfl w.heap.size rfl _ _ _ _ (HH.out _ H2.out) huh rfl (HSH.out _) ?_)
    | fail)
   refine (CG.out _ (HBW.out _ H2.out).1).mono ?_
   rintro e w2 ⟨rfl, hb2⟩
   have H3 := Lib.hid (H2.out.trans (hb2.mono H2.out.size))
   clear hb2
   clear hk0 hk1 hk2 hk3 hlthk
   cases fb with
   | true =>
    have HE : Hid (er = 25) := Lib.hid (by rw [HA.out]; cases fa <;> rfl)
    go_wp2_with (first
     | (refine wpList_store_row rfl 37 (.tmp 8) (.tmp 37) rfl (w.heap.size + 2) Hs.zero rfl rfl _ _ (HZ.out _ H3.out) HSQ.out rfl H1Q.out ?_)
     | fail)
    exact bodyPost_ret (results_row_tmp rfl _ _ (w.heap.size + 2) _ _ _ _ rfl (setRow_heap _ _ _ _ _ _ (HZ.out _ H3.out)) huh rfl HSQ.out) rfl ⟨setRow_below (HBW.out _ H3.out).1 (by omega) _, .inl ⟨by rw [HE.out]; decide, by rw [HE.out]; rfl⟩⟩
   | false =>
    have HSHL : Hid (∀ a : Hs, (Tryz.prog.info? 37).map (·.size) = some a.cells.toList.length) := Lib.hid (fun a => by kernel_rfl)
    go_wp2_with (first
     | (refine BigFrame.wpList_want (by kernel_rfl) (fun K hK => Go.wp_load_mid 37 (.tmp 4) rfl w.heap.size 0 rfl h.cells.toList _ (range_row0 (HH.out _ H3.out)) huh rfl (HSHL.out _) (hK _ _ ?_)); clear hK K)
     | fail)
    refine (CF.out _ (HBW.out _ H3.out).1).mono ?_
    rintro e w3 ⟨rfl, hb3⟩
    have H3b := Lib.hid (H3.out.trans (hb3.mono H3.out.size))
    clear hb3
    cases fa with
    | true =>
     have HE : Hid (er = 25) := Lib.hid (by rw [HA.out]; rfl)
     go_wp2_with (first
      | (refine wpList_store_row rfl 37 (.tmp 8) (.tmp 37) rfl (w.heap.size + 2) Hs.zero rfl rfl _ _ (HZ.out _ H3b.out) HSQ.out rfl H1Q.out ?_)
      | fail)
     exact bodyPost_ret (results_row_tmp rfl _ _ (w.heap.size + 2) _ _ _ _ rfl (setRow_heap _ _ _ _ _ _ (HZ.out _ H3b.out)) huh rfl HSQ.out) rfl ⟨setRow_below (HBW.out _ H3b.out).1 (by omega) _, .inl ⟨by rw [HE.out]; decide, by rw [HE.out]; rfl⟩⟩
    | false =>
     have HSZ := Lib.hid (HBW.out _ H3b.out).2
     go_wp2_with (first
      | (refine wpList_load_row rfl 37 (.tmp 4) rfl w.heap.size rfl _ _ _ _ (HH.out _ H3b.out) huh rfl (HSH.out _) ?_)
      | (refine wpList_load_row rfl 60 (.tmp 5) rfl (w.heap.size + 1) rfl _ _ _ _ (HK.out _ H3b.out) huHK rfl HSHK.out ?_)
      | fail)
     refine (CT.out _ (HBW.out _ H3b.out).1).mono ?_
     rintro e w4 ⟨hb4, g, rfl, hk4, hg4, hc4⟩
     have H4 := Lib.hid (H3b.out.trans (hb4.mono H3b.out.size))
     have HH4 := Lib.hid (HH.out _ H4.out)
     have HB4 := Lib.hid (HBW.out _ H4.out)
     have HK4 := Lib.hid hk4
     have HC4 := Lib.hid hc4
     have HOF0 : Off w.heap.size g (setE et L 4 lt) := hk4.off (by have := HSZ.out; omega) (HHT.out.offge (Nat.le_refl _))
     have HOFF : Hid (Off (w.heap.size + 1) g (setE et L 4 lt)) := Lib.hid (hk4.off (by have := HSZ.out; omega) (HHT.out.offge (Nat.le_succ _)))
     obtain ⟨w5, hw5⟩ : ∃ W, W = w4.setRow w.heap.size g.cells := ⟨_, rfl⟩
     have HG5 : Hid (w5.heap[w.heap.size]? = some (.cells g.cells 37 (0, 0))) := Lib.hid (by rw [hw5]; exact setRow_heap _ _ _ _ _ _ HH4.out)
     have HKB5 : Hid (w5.heap[w.heap.size + 1]? = some (.cells #[.string kb, .string ki, .string kl, .int .i64 ks] 60 (0, 0))) := Lib.hid (by rw [hw5]; exact (setRow_other _ _ _ _ (by omega)).trans (HK.out _ H4.out))
     have HZ5 : Hid (w5.heap[w.heap.size + 2]? = some (.cells Hs.zero 37 (0, 0))) := Lib.hid (by rw [hw5]; exact (setRow_other _ _ _ _ (by omega)).trans (HZ.out _ H4.out))
     have HB5 : Hid (Below w.heap.size w w5) := Lib.hid (by rw [hw5]; exact setRow_below HB4.out.1 (Nat.le_refl _) _)
     have HS5 : Hid (w.heap.size + 3 ≤ w5.heap.size) := Lib.hid (by rw [hw5]; simpa using HB4.out.2)
     have HT5 : Hid (HT g (setE et L 4 lt) w5) := Lib.hid (by rw [hw5]; exact hg4.setRowOff HOF0 _)
     have HW5 := Lib.hid hw5
     clear hw5 hb4 hk4 hg4 hc4 HOF0
     go_upto_region 9 with (first
      | (refine wpList_store_row rfl 37 (.tmp 4) (.tmp 43) rfl w.heap.size g.cells rfl rfl _ _ HH4.out (HSH.out _) rfl (H1C.out _) ?_; rw [← HW5.out])
      | fail)
     by_cases he0 : et = 0
     case neg =>
      have HKE := Lib.hid he0
      have hk0 : ((et : Int) != 0) = true := by simpa using he0
      have HE : Hid (er = et) := Lib.hid (by have : er = if et ≠ 0 then et else (if rm ≠ 0 then rm else ep) := (by rw [HA.out]; rfl); rw [this, if_pos he0])
      clear he0
      go_wp2_with (first
       | (refine wpList_store_row rfl 37 (.tmp 8) (.tmp 47) rfl (w.heap.size + 2) Hs.zero rfl rfl _ _ HZ5.out HSQ.out rfl H1Q.out ?_)
       | fail)
      exact bodyPost_ret (results_row_tmp rfl _ _ (w.heap.size + 2) _ _ _ _ rfl (setRow_heap _ _ _ _ _ _ HZ5.out) huh rfl HSQ.out) rfl ⟨setRow_below HB5.out (by omega) _, .inl ⟨by rw [HE.out]; exact HKE.out, by rw [HE.out]; rfl⟩⟩
     subst he0
     have HA0 : Hid (er = (if rm ≠ 0 then rm else ep)) := Lib.hid (by have : er = if (0 : Nat) ≠ 0 then 0 else (if rm ≠ 0 then rm else ep) := (by rw [HA.out]; rfl); rw [this, if_neg (by simp)])
     have x1 : w5.cell? ⟨w.heap.size + 1, 1, none⟩ = some (.string ki) := by rw [cell_of_block HKB5.out]; rfl
     have xlt : w.heap.size + 1 < w5.heap.size := by have := HS5.out; omega
     go_wp2_with (first
      | (refine wpList_load_row rfl 37 (.tmp 4) rfl w.heap.size rfl _ _ _ _ HG5.out huh rfl (HSH.out _) ?_)
      | fail)
     refine (CR.out g _ HT5.out).mono ?_
     rintro e w6 ⟨rfl, hb6⟩
     clear x1 xlt
     have HG6 := Lib.hid ((hb6.block _ (lt_of_block HG5.out)).trans HG5.out)
     have HKB6 := Lib.hid ((hb6.block _ (lt_of_block HKB5.out)).trans HKB5.out)
     have HZ6 := Lib.hid ((hb6.block _ (lt_of_block HZ5.out)).trans HZ5.out)
     have HB6 := Lib.hid (HB5.out.trans (hb6.mono HB5.out.size))
     have HS6 : Hid (w.heap.size + 3 ≤ w6.heap.size) := Lib.hid (Nat.le_trans HS5.out hb6.size)
     have HT6 := Lib.hid (HT5.out.below hb6)
     clear hb6
     by_cases hr0 : rm = 0
     case neg =>
      have HKR := Lib.hid hr0
      have hr1 : ((rm : Int) != 0) = true := by simpa using hr0
      have HE : Hid (er = rm) := Lib.hid (by rw [HA0.out, if_pos hr0])
      clear hr0
      go_wp2_with (first
       | (refine wpList_store_row rfl 37 (.tmp 8) (.tmp 57) rfl (w.heap.size + 2) Hs.zero rfl rfl _ _ HZ6.out HSQ.out rfl H1Q.out ?_)
       | fail)
      exact bodyPost_ret (results_row_tmp rfl _ _ (w.heap.size + 2) _ _ _ _ rfl (setRow_heap _ _ _ _ _ _ HZ6.out) huh rfl HSQ.out) rfl ⟨setRow_below HB6.out (by omega) _, .inl ⟨by rw [HE.out]; exact HKR.out, by rw [HE.out]; rfl⟩⟩
     subst hr0
     have HAP : Hid (er = ep) := Lib.hid (by rw [HA0.out, if_neg (by simp)])
     obtain ⟨w7, hw7⟩ : ∃ W, W = w6.setCell ⟨w.heap.size + 1, 0, none⟩ (.string tb) := ⟨_, rfl⟩
     have HK7 : Hid (w7.heap[w.heap.size + 1]? = some (.cells #[.string tb, .string ki, .string kl, .int .i64 ks] 60 (0, 0))) := Lib.hid (by rw [hw7, block_setCell HKB6.out]; rfl)
     have HG7 : Hid (w7.heap[w.heap.size]? = some (.cells g.cells 37 (0, 0))) := Lib.hid (by rw [hw7]; exact (block_setCell_other (show w.heap.size ≠ w.heap.size + 1 by omega) _).trans HG6.out)
     have HZ7 : Hid (w7.heap[w.heap.size + 2]? = some (.cells Hs.zero 37 (0, 0))) := Lib.hid (by rw [hw7]; exact (block_setCell_other (show w.heap.size + 2 ≠ w.heap.size + 1 by omega) _).trans HZ6.out)
     have HT7 : Hid (HT g (setE 0 L 4 lt) w7) := Lib.hid (by rw [hw7]; exact HT6.out.setCellOff HOFF.out _)
     have HB7 : Hid (Below w.heap.size w w7) := Lib.hid (by rw [hw7]; exact HB6.out.setCell (show w.heap.size ≤ w.heap.size + 1 by omega) _)
     have HS7 : Hid (w.heap.size + 3 ≤ w7.heap.size) := Lib.hid (by rw [hw7]; simpa using HS6.out)
     have HGN : Hid (g.n 4 ≤ 9000) := Lib.hid (by rw [(HT6.out 4 (by decide)).1]; exact Nat.le_trans HLN.out (by decide))
     have HW7 := Lib.hid hw7
     clear hw7
     have ff : w6.frozen? ⟨w.heap.size + 1, 0, none⟩ = false := frozen_of_block HKB6.out
     have y0 : w6.cell? ⟨w.heap.size + 1, 0, none⟩ = some (.string kb) := by rw [cell_of_block HKB6.out]; rfl
     have ylt : w.heap.size + 1 < w6.heap.size := by have := HS6.out; omega
     go_upto_region 15 with fail
     rw [← HW7.out]
     clear ff y0 ylt
     go_wp2_with (first
      | (refine wpList_load_row rfl 37 (.tmp 4) rfl w.heap.size rfl _ _ _ _ HG7.out huh rfl (HSH.out _) ?_)
      | (refine wpList_load_row rfl 60 (.tmp 5) rfl (w.heap.size + 1) rfl _ _ _ _ HK7.out huHK rfl HSHK.out ?_)
      | fail)
     refine (CP.out g _ w7 HT7.out rfl HGN.out HC4.out).mono ?_
     intro e w8 hP
     obtain ⟨hb8, hP⟩ := hP
     have HB8 := Lib.hid (HB7.out.trans (hb8.mono HB7.out.size))
     have HZ8 := Lib.hid ((hb8.block _ (lt_of_block HZ7.out)).trans HZ7.out)
     clear hb8
     rcases hP with ⟨hne, rfl⟩ | ⟨h0, A, n9, cc, hl, ho, rfl⟩
     · have HNE := Lib.hid hne
       clear hne
       go_wp2_with (first
        | (refine wpList_store_row rfl 37 (.tmp 8) (.tmp 65) rfl (w.heap.size + 2) Hs.zero rfl rfl _ _ HZ8.out HSQ.out rfl H1Q.out ?_)
        | fail)
       exact bodyPost_ret (results_row_tmp rfl _ _ (w.heap.size + 2) _ _ _ _ rfl (setRow_heap _ _ _ _ _ _ HZ8.out) huh rfl HSQ.out) rfl ⟨setRow_below HB8.out (by omega) _, .inl ⟨by rw [HAP.out]; exact HNE.out, by rw [HAP.out]; rfl⟩⟩
     · have HLE := Lib.hid hl
       have HO := Lib.hid ho
       have H00 := Lib.hid h0
       clear hl ho h0
       go_wp2_with (first
        | (refine wpList_store_row rfl 37 (.tmp 8) (.tmp 65) rfl (w.heap.size + 2) (g.set 4 A n9 cc).cells rfl rfl _ _ HZ8.out (HSH.out _) rfl (H1C.out _) ?_)
        | fail)
       refine bodyPost_ret (results_row_tmp rfl _ _ (w.heap.size + 2) _ _ _ _ rfl (setRow_heap _ _ _ _ _ _ HZ8.out) huh rfl (HSH.out _)) rfl ⟨setRow_below HB8.out (by omega) _, .inr ⟨by rw [HAP.out]; exact H00.out, A, n9, cc, HLE.out, own_rowed HO.out (by have := HS7.out; omega) (by have := HS7.out; omega), ?_⟩⟩
       rcases HK4.out with ⟨h1, _⟩ | ⟨_, A0, n0, c0, _, _, hg⟩
       · exact absurd rfl h1
       · rw [hg, Hs.set_set]; rfl

end Go.Proofs.YtgbilfkjfeheaaaGreat
