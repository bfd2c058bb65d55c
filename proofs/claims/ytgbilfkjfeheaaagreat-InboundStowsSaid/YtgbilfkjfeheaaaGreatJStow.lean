/-
 CONTRACT of the reference's Stow. (By wip/tools/gen_jstow.py.)
-/
import Derived.Test.YtgbilfkjfeheaaaGreatJCon
import Derived.Test.YtgbilfkjfeheaaaGreatURefC
import Derived.Test.YtgbilfkjfeheaaaGreatQMove
import Derived.Deep.CutRange
namespace Go.Proofs.YtgbilfkjfeheaaaGreat
set_option linter.unusedVariables false
open Go.RowKit
open Pl (firstG findG putG It)

theorem results_row_tmp2 {P : Program} {fn : Func} {p q r : Tmp} {ty : TypeId} (h : fn.results = #[.cell p ty, .tmp q, .tmp r]) (tmps : Array Value) (w : World) (g : Nat) (t : TypeId) (cs : Array Value) (fr : Nat × Nat) (d : TypeDesc)
 (hp : tmps.getD p undef = .pointer (some ⟨g, 0, none⟩)) (hg : w.heap[g]? = some (.cells cs t fr))
 (hu : P.underlying ty = some d) (hd : (match d with | .struct _ | .array _ _ => true | _ => false) = true) (hi : (P.info? ty).map (·.size) = some cs.size) :
 (results fn tmps).run P w = .ok (.tuple #[.agg cs, tmps.getD q undef, tmps.getD r undef]) w := by
 have hp' : tmps[p]?.getD undef = .pointer (some ⟨g, 0, none⟩) := by simpa using hp
 simp [results, h, hp', asAddr, run_loadVar_row w g t ty cs fr d hg hu hd hi]
theorem putL_len1 (L : List (List Value)) (k : Ky) (n : Int) : (putL L k n).length ≤ L.length + 1 := upQ_len _ _
theorem takeL_len1 (L : List (List Value)) (k : Ky) (n : Int) : (takeL L k n).length ≤ L.length + 1 := upQ_len _ _
theorem moveL_len2 (L : List (List Value)) (k : Ky) (n : Int) (t : ByteArray) : (moveL L k n t).length ≤ L.length + 2 := by
 have h1 := putL_len1 (takeL L k n) ⟨t, k.item, k.lot, k.st⟩ n
 have h2 := takeL_len1 L k n
 unfold moveL; omega
theorem StowP.bad {err : Nat} {tt : ByteArray} {l : List (List Value)} {h : Hs} {L : Nat → List (List Value)} {w w' : World} (he : err ≠ 0) (hb : Below w.heap.size w w') : StowP err tt l h L w (.returned (.tuple #[.agg Hs.zero, .string ⟨#[]⟩, .int .i64 (err : Nat)])) w' :=
 ⟨hb, hsN, by rw [if_neg he]; rfl, fun j hj => by rw [setE_bad he]; exact hsN_ht w' j hj, by unfold zE; rw [if_neg he]; rfl, fun _ => hsN_caps, fun g _ _ j hj hne => absurd (setE_bad he L 4 j l) hne⟩

set_option maxRecDepth 100000 in
set_option maxHeartbeats 6400000 in
theorem rstow_any (h : Hs) (L : Nat → List (List Value)) (kb ki kl : ByteArray) (ks n : Int) (w : World) (hh : HT h L w) (hn4 : h.n 4 ≤ 1000) (hn5 : h.n 5 ≤ 1000) :
 Calls Tryz.prog 23 #[.agg h.cells, .agg #[.string kb, .string ki, .string kl, .int .i64 ks], .int .i64 n] w (StowP (stowE L (Ky.mk kb ki kl ks) n) (stowT L (Ky.mk kb ki kl ks) n) (stowL L (Ky.mk kb ki kl ks) n) h L w) := by
 have HHT := Lib.hid hh
 obtain ⟨⟨yc, yz, kd, ai, pl, vo, we, fz⟩, hy, hyb⟩ := bin_eight hh kb
 unfold Bn.cells at hy
 obtain ⟨ib, hib⟩ : ∃ z, (atBin (L 3) kb).isSome = z := ⟨_, rfl⟩
 obtain ⟨st, hst⟩ : ∃ z, siteT (L 2) (L 3) kb = z := ⟨_, rfl⟩
 obtain ⟨tt, htt⟩ : ∃ z, sugT (L 0) (L 2) (L 3) (L 4) (L 5) st ki n = z := ⟨_, rfl⟩
 obtain ⟨se, hse⟩ : ∃ z, sugE (L 0) (L 2) (L 3) (L 4) (L 5) st ki n = z := ⟨_, rfl⟩
 have hstow : stowT L (Ky.mk kb ki kl ks) n = tt := by unfold stowT; simp only []; rw [hst, htt]
 obtain ⟨me, hme⟩ : ∃ z, moveE (L 0) (L 3) (L 4) (Ky.mk kb ki kl ks) n tt = z := ⟨_, rfl⟩
 obtain ⟨lx, hlx⟩ : ∃ z, moveL (L 4) (Ky.mk kb ki kl ks) n tt = z := ⟨_, rfl⟩
 obtain ⟨er, her⟩ : ∃ z, stowE L (Ky.mk kb ki kl ks) n = z := ⟨_, rfl⟩
 have hlx2 : stowL L (Ky.mk kb ki kl ks) n = lx := by unfold stowL; rw [hstow, hlx]
 have HA : Hid (er = if ib = false then 12 else if kd ≠ 2 then 23 else if se ≠ 0 then se else me) := Lib.hid (by rw [← her]; unfold stowE; rw [hstow]; simp only []; rw [hib, hyb, hst, hse, hme])
 have CB : Hid (∀ W, Below w.heap.size w W → Calls Tryz.prog 84 #[.agg h.cells, .string kb] W fun e w' => e = .returned (.tuple #[.agg #[.string yc, .string yz, .int .i64 kd, .int .i64 ai, .int .i64 pl, .int .i64 vo, .int .i64 we, .bool fz], .bool ib]) ∧ Below W.heap.size W w') := Lib.hid (fun W hW => by have := frBin (hh.below hW) kb; rw [hy, hib] at this; exact this)
 have CS : Hid (∀ W, Below w.heap.size w W → Calls Tryz.prog 86 #[.agg h.cells, .string kb] W fun e w' => e = .returned (.string st) ∧ Below W.heap.size W w') := Lib.hid (fun W hW => by have := rsite_any h L kb W (hh.below hW); rwa [hst] at this)
 have CG : Hid (∀ W, Below w.heap.size w W → Calls Tryz.prog 85 #[.agg h.cells, .string st, .string ki, .int .i64 n] W fun e w' => e = .returned (.tuple #[.string tt, .int .i64 (se : Nat)]) ∧ Below W.heap.size W w') := Lib.hid (fun W hW => by have := rsuggest_any h L st ki n W (hh.below hW) hn5; rwa [htt, hse] at this)
 have CM : Hid (∀ W, Below w.heap.size w W → Calls Tryz.prog 87 #[.agg h.cells, .agg #[.string kb, .string ki, .string kl, .int .i64 ks], .int .i64 n, .string tt] W (PutP 71 6 4 me lx h W)) := Lib.hid (fun W hW => by have := rmove h L kb ki kl ks n tt W (hh.below hW) hn4; rwa [hme, hlx] at this)
 have HL4 : Hid (Things (kOf 4) lx ∧ lx.length ≤ 1000000) := Lib.hid ⟨by rw [← hlx]; exact upQ_things (upQ_things (hh 4 (by decide)).2.2.1 _) _, by rw [← hlx]; have h1 := moveL_len2 (L 4) (Ky.mk kb ki kl ks) n tt; have h3 := (hh 4 (by decide)).1; omega⟩
 have HOH : Hid (∀ g, w.heap.size ≤ g → Off g h L) := Lib.hid (fun g hg => hh.offge hg)
 rw [her, hstow, hlx2]
 clear her hstow hlx2 hib hst hy hyb htt hse hme hlx
 have HSHL : Hid (∀ a : Hs, (Tryz.prog.info? 37).map (·.size) = some a.cells.toList.length) := Lib.hid (fun a => by kernel_rfl)
 obtain ⟨W0, hW0⟩ : ∃ W0, W0 = (((w.alloc (.cells h.cells 37)).alloc (.cells #[.string kb, .string ki, .string kl, .int .i64 ks] 60)).alloc (.cells #[.slice none 0 0, .slice none 0 0, .slice none 0 0, .slice none 0 0, .slice none 0 0, .slice none 0 0, .slice none 0 0, .slice none 0 0, .slice none 0 0, .slice none 0 0, .slice none 0 0, .slice none 0 0, .slice none 0 0, .slice none 0 0, .int .i64 0] 37)) := ⟨_, rfl⟩
 have hb0 : Below w.heap.size w W0 := by rw [hW0]; exact (((Below.refl _ _).alloc (Nat.le_refl _) _).alloc (by simp <;> omega) _).alloc (by simp <;> omega) _
 have hs0 : W0.heap.size = w.heap.size + 3 := by rw [hW0]; simp
 have HH : Hid (∀ W, Below W0.heap.size W0 W → W.heap[w.heap.size]? = some (.cells h.cells 37 (0, 0))) := Lib.hid (fun W hW => (hW.block _ (by omega)).trans (by
  rw [hW0]
  have hq := heap_alloc_new w (.cells h.cells 37)
  exact (Below.heap_alloc _ _ _ (by simp <;> omega)).trans ((Below.heap_alloc _ _ _ (by simp <;> omega)).trans ((by simpa using hq)))))
 have HK : Hid (∀ W, Below W0.heap.size W0 W → W.heap[w.heap.size + 1]? = some (.cells #[.string kb, .string ki, .string kl, .int .i64 ks] 60 (0, 0))) := Lib.hid (fun W hW => (hW.block _ (by omega)).trans (by
  rw [hW0]
  have hq := heap_alloc_new (w.alloc (.cells h.cells 37)) (.cells #[.string kb, .string ki, .string kl, .int .i64 ks] 60)
  exact (Below.heap_alloc _ _ _ (by simp <;> omega)).trans ((by simpa using hq))))
 have HZ : Hid (∀ W, Below W0.heap.size W0 W → W.heap[w.heap.size + 2]? = some (.cells Hs.zero 37 (0, 0))) := Lib.hid (fun W hW => (hW.block _ (by omega)).trans (by
  rw [hW0]
  have hq := heap_alloc_new ((w.alloc (.cells h.cells 37)).alloc (.cells #[.string kb, .string ki, .string kl, .int .i64 ks] 60)) (.cells #[.slice none 0 0, .slice none 0 0, .slice none 0 0, .slice none 0 0, .slice none 0 0, .slice none 0 0, .slice none 0 0, .slice none 0 0, .slice none 0 0, .slice none 0 0, .slice none 0 0, .slice none 0 0, .slice none 0 0, .slice none 0 0, .int .i64 0] 37)
  exact (by simpa [Hs.zero] using hq)))
 have HBW : Hid (∀ W, Below W0.heap.size W0 W → Below w.heap.size w W ∧ w.heap.size + 3 ≤ W.heap.size) := Lib.hid (fun W hW => ⟨hb0.trans (hW.mono (by omega)), by have := hW.size; omega⟩)
 have huh := Tryz.underlying37
 have HSH : Hid (∀ a : Hs, (Tryz.prog.info? 37).map (·.size) = some a.cells.size) := Lib.hid (fun a => by kernel_rfl)
 have HSQ : Hid ((Tryz.prog.info? 37).map (·.size) = some Hs.zero.size) := Lib.hid (by kernel_rfl)
 have H1C : Hid (∀ a : Hs, a.cells.all (·.oneCell') = true) := Lib.hid (fun a => by simp [Hs.cells, Value.oneCell'])
 have H1Q : Hid (Hs.zero.all (·.oneCell') = true) := Lib.hid (by simp [Hs.zero, Value.oneCell'])
 have huHK := Tryz.underlying60
 have HSHK : Hid ((Tryz.prog.info? 60).map (·.size) = some 4) := Lib.hid (by kernel_rfl)
 have HCHK : Hid (∀ W, Below W0.heap.size W0 W → W.cell? ⟨w.heap.size + 1, 0, none⟩ = some (.string kb) ∧ W.cell? ⟨w.heap.size + 1, 1, none⟩ = some (.string ki) ∧ W.cell? ⟨w.heap.size + 1, 2, none⟩ = some (.string kl) ∧ W.cell? ⟨w.heap.size + 1, 3, none⟩ = some (.int .i64 ks) ∧ w.heap.size + 1 < W.heap.size) := Lib.hid (fun W hW => ⟨by rw [cell_of_block (HK.out W hW)]; rfl, by rw [cell_of_block (HK.out W hW)]; rfl, by rw [cell_of_block (HK.out W hW)]; rfl, by rw [cell_of_block (HK.out W hW)]; rfl, by have := hW.size; omega⟩)
 have H0 := Lib.hid (Below.refl W0.heap.size W0)
 clear hb0 hs0 hh hn4 hn5
 subst hW0
 go_enter Tryz.func23, Tryz.ntmps23
 obtain ⟨x0, x1, x2, x3, xlt⟩ := HCHK.out _ H0.out
 go_wp2_with (first
  | (refine wpList_load_row rfl 37 (.tmp 3) rfl w.heap.size rfl _ _ _ _ (HH.out _ H0.out) huh rfl (HSH.out _) ?_)
  | fail)
 refine (CB.out _ (HBW.out _ H0.out).1).mono ?_
 rintro e w1 ⟨rfl, hb1⟩
 have H1 := Lib.hid (H0.out.trans (hb1.mono H0.out.size))
 clear hb1
 clear x0 x1 x2 x3 xlt
 have H2 := Lib.hid (H1.out.alloc H1.out.size (.cells #[.string yc, .string yz, .int .i64 kd, .int .i64 ai, .int .i64 pl, .int .i64 vo, .int .i64 we, .bool fz] 64))
 cases ib with
 | false =>
  have HE : Hid (er = 12) := Lib.hid (by rw [HA.out]; rfl)
  go_wp2_with (first
   | (refine wpList_store_row rfl 37 (.tmp 6) (.tmp 24) rfl (w.heap.size + 2) Hs.zero rfl rfl _ _ (HZ.out _ H2.out) HSQ.out rfl H1Q.out ?_)
   | fail)
  exact bodyPost_ret (results_row_tmp2 rfl _ _ (w.heap.size + 2) _ _ _ _ rfl (setRow_heap _ _ _ _ _ _ (HZ.out _ H2.out)) huh rfl HSQ.out) rfl (by
   have hne : er ≠ 0 := by rw [HE.out]; decide
   rw [HE.out] at hne ⊢
   exact StowP.bad hne (setRow_below (HBW.out _ H2.out).1 (show w.heap.size ≤ w.heap.size + 2 by omega) Hs.zero))
 | true =>
  by_cases q1 : kd = 2
  · subst q1
    obtain ⟨w2, hw2⟩ : ∃ W, W = w1.alloc (.cells #[.string yc, .string yz, .int .i64 2, .int .i64 ai, .int .i64 pl, .int .i64 vo, .int .i64 we, .bool fz] 64) := ⟨_, rfl⟩
    rw [← hw2] at H2
    have HW2 := Lib.hid hw2
    clear hw2
    go_upto_region 6 with fail
    rw [← HW2.out]
    have RHH : Hid (∀ X : BW w2, X.W.heap[w.heap.size]? = some (.cells h.cells 37 (0, 0))) := Lib.hid (fun X => HH.out _ (H2.out.trans (X.h.mono H2.out.size)))
    have CSX : Hid (∀ X : BW w2, Calls Tryz.prog 86 #[.agg h.cells, .string kb] X.W fun e w' => e = .returned (.string st) ∧ Below X.W.heap.size X.W w') := Lib.hid (fun X => CS.out X.W (HBW.out _ (H2.out.trans (X.h.mono H2.out.size))).1)
    have CGX : Hid (∀ X : BW w2, Calls Tryz.prog 85 #[.agg h.cells, .string st, .string ki, .int .i64 n] X.W fun e w' => e = .returned (.tuple #[.string tt, .int .i64 (se : Nat)]) ∧ Below X.W.heap.size X.W w') := Lib.hid (fun X => CG.out X.W (HBW.out _ (H2.out.trans (X.h.mono H2.out.size))).1)
    have RK : Hid (∀ X : BW w2, X.W.cell? ⟨w.heap.size + 1, 0, none⟩ = some (.string kb) ∧ X.W.cell? ⟨w.heap.size + 1, 1, none⟩ = some (.string ki) ∧ w.heap.size + 1 < X.W.heap.size) := Lib.hid (fun X => by have := HCHK.out _ (H2.out.trans (X.h.mono H2.out.size)); exact ⟨this.1, this.2.1, this.2.2.2.2⟩)
    have y0 : ∀ X : BW w2, X.W.cell? ⟨w.heap.size + 1, 0, none⟩ = some (.string kb) := fun X => (RK.out X).1
    have y1 : ∀ X : BW w2, X.W.cell? ⟨w.heap.size + 1, 1, none⟩ = some (.string ki) := fun X => (RK.out X).2.1
    refine wp_grow w2 (by kernel_rfl) (by kernel_rfl) (Below.refl _ _) ?_
    simp only []
    refine BigFrame.wpQuiet_want (by kernel_rfl) (fun K hK => quiet_load_mid 37 (.tmp 3) rfl w.heap.size 0 rfl h.cells.toList _ (fun W ⟨X, hX⟩ => by rw [hX]; exact range_row0 (RHH.out X)) huh rfl (HSHL.out _) (hK _ ?_))
    simp only [ax, Array.toArray_toList]
    refine BigFrame.wpQuiet_want (by kernel_rfl) (fun K hK => quiet_load_mid 37 (.tmp 3) rfl w.heap.size 0 rfl h.cells.toList _ (fun W ⟨X, hX⟩ => by rw [hX]; exact range_row0 (RHH.out X)) huh rfl (HSHL.out _) (hK _ ?_))
    simp only [ax, Array.toArray_toList]
    iterate 2 go_big_quiet_step (fail)
    go_big_quiet_step (exact grow_call _ (CSX.out _))
    iterate 3 go_big_quiet_step (fail)
    go_big_quiet_step (exact grow_call _ (CGX.out _))
    iterate 5 go_big_quiet_step (fail)
    refine wpQuiet_nil ?_
    intro X
    obtain ⟨w3, hb3⟩ := X
    simp only []
    have H3 := Lib.hid (H2.out.trans (hb3.mono H2.out.size))
    clear hb3 y0 y1 RK CSX CGX RHH
    by_cases hk0 : se = 0
    · subst hk0
      have HA2 : Hid (er = me) := Lib.hid (by rw [HA.out]; simp)
      go_wp2_with (first
       | (refine wpList_load_row rfl 37 (.tmp 3) rfl w.heap.size rfl _ _ _ _ (HH.out _ H3.out) huh rfl (HSH.out _) ?_)
       | (refine wpList_load_row rfl 60 (.tmp 4) rfl (w.heap.size + 1) rfl _ _ _ _ (HK.out _ H3.out) huHK rfl HSHK.out ?_)
       | fail)
      refine (CM.out _ (HBW.out _ H3.out).1).mono ?_
      intro e w4 hpp
      obtain ⟨hb4, g, rfl, hk4⟩ := hpp.k
      have H4 := Lib.hid (H3.out.trans (hb4.mono H3.out.size))
      have HGT := Lib.hid (hk4.htl (by decide) HL4.out.1 HL4.out.2 (HHT.out.below (HBW.out _ H4.out).1))
      have HGK := Lib.hid hk4
      have HGB : Hid (w.heap.size + 3 ≤ w3.heap.size) := Lib.hid (HBW.out _ H3.out).2
      clear hb4 hk4 hpp
      have HBG : Hid ((w4.alloc (.cells #[.slice none 0 0, .slice none 0 0, .slice none 0 0, .slice none 0 0, .slice none 0 0, .slice none 0 0, .slice none 0 0, .slice none 0 0, .slice none 0 0, .slice none 0 0, .slice none 0 0, .slice none 0 0, .slice none 0 0, .slice none 0 0, .int .i64 0] 37)).heap[w4.heap.size]? = some (.cells #[.slice none 0 0, .slice none 0 0, .slice none 0 0, .slice none 0 0, .slice none 0 0, .slice none 0 0, .slice none 0 0, .slice none 0 0, .slice none 0 0, .slice none 0 0, .slice none 0 0, .slice none 0 0, .slice none 0 0, .slice none 0 0, .int .i64 0] 37 (0, 0))) := Lib.hid (heap_alloc_new _ _)
      obtain ⟨w5, hw5⟩ : ∃ W, W = (w4.alloc (.cells #[.slice none 0 0, .slice none 0 0, .slice none 0 0, .slice none 0 0, .slice none 0 0, .slice none 0 0, .slice none 0 0, .slice none 0 0, .slice none 0 0, .slice none 0 0, .slice none 0 0, .slice none 0 0, .slice none 0 0, .slice none 0 0, .int .i64 0] 37)).setRow w4.heap.size g.cells := ⟨_, rfl⟩
      have hb5 : Below w4.heap.size w4 w5 := by rw [hw5]; exact setRow_below ((Below.refl _ _).alloc (Nat.le_refl _) _) (Nat.le_refl _) _
      have H5 := Lib.hid (H4.out.trans (hb5.mono H4.out.size))
      have HG5 : Hid (w5.heap[w4.heap.size]? = some (.cells g.cells 37 (0, 0))) := Lib.hid (by rw [hw5]; exact setRow_heap _ _ _ _ _ _ HBG.out)
      have HT5 := Lib.hid (HGT.out.below hb5)
      have HW5 := Lib.hid hw5
      clear hw5 hb5
      by_cases hk0 : me = 0
      ·
       have HE : Hid (er = 0) := Lib.hid (by rw [HA2.out]; exact hk0)
       subst hk0
       go_wp2_with (first
        | (refine wpList_store_row rfl 37 (.tmp 13) (.tmp 51) rfl w4.heap.size g.cells rfl rfl _ _ HBG.out (HSH.out _) rfl (H1C.out _) ?_; rw [← HW5.out])
        | (refine wpList_load_row rfl 37 (.tmp 13) rfl w4.heap.size rfl _ _ _ _ HG5.out huh rfl (HSH.out _) ?_)
        | (refine wpList_store_row rfl 37 (.tmp 6) (.tmp 57) rfl (w.heap.size + 2) g.cells rfl rfl _ _ (HZ.out _ H5.out) (HSH.out _) rfl (H1C.out _) ?_)
        | fail)
       have hof : ∀ o, Off o h L → o < w3.heap.size → Off o g (setE 0 L 4 lx) := fun o ho hl => HGK.out.off hl ho
       have hz : g.z = zE 0 h.z := by rcases HGK.out with ⟨h1, _⟩ | ⟨_, A, m4, c4, _, _, rfl⟩; exact absurd rfl h1; rfl
       exact bodyPost_ret (results_row_tmp2 rfl _ _ (w.heap.size + 2) _ _ _ _ rfl (setRow_heap _ _ _ _ _ _ (HZ.out _ H5.out)) huh rfl (HSH.out _)) rfl (by
        rw [HE.out]
        refine ⟨setRow_below (HBW.out _ H5.out).1 (show w.heap.size ≤ w.heap.size + 2 by omega) _, g, rfl, HT5.out.setRowOff (hof _ (HOH.out _ (by omega)) (by have := HGB.out; omega)) _, hz, fun hc => HGK.out.caps hc, fun o ho hl => hof o ho (by have := HGB.out; omega)⟩)
      · have bn : ((me : Int) != 0) = true := by simpa using hk0
        have HKL := Lib.hid hk0
        have HE : Hid (er = me) := HA2
        clear hk0
        go_wp2_with (first
         | (refine wpList_store_row rfl 37 (.tmp 13) (.tmp 51) rfl w4.heap.size g.cells rfl rfl _ _ HBG.out (HSH.out _) rfl (H1C.out _) ?_; rw [← HW5.out])
         | (refine wpList_store_row rfl 37 (.tmp 6) (.tmp 55) rfl (w.heap.size + 2) Hs.zero rfl rfl _ _ (HZ.out _ H5.out) HSQ.out rfl H1Q.out ?_)
         | fail)
        exact bodyPost_ret (results_row_tmp2 rfl _ _ (w.heap.size + 2) _ _ _ _ rfl (setRow_heap _ _ _ _ _ _ (HZ.out _ H5.out)) huh rfl HSQ.out) rfl (by
         have hne : er ≠ 0 := by rw [HE.out]; exact HKL.out
         rw [HE.out] at hne ⊢
         exact StowP.bad hne (setRow_below (HBW.out _ H5.out).1 (show w.heap.size ≤ w.heap.size + 2 by omega) Hs.zero))
    · have bn : ((se : Int) != 0) = true := by simpa using hk0
      have HKL := Lib.hid hk0
      have HE : Hid (er = se) := Lib.hid (by rw [HA.out]; simp [hk0])
      clear hk0
      go_wp2_with (first
       | (refine wpList_store_row rfl 37 (.tmp 6) (.tmp 43) rfl (w.heap.size + 2) Hs.zero rfl rfl _ _ (HZ.out _ H3.out) HSQ.out rfl H1Q.out ?_)
       | fail)
      exact bodyPost_ret (results_row_tmp2 rfl _ _ (w.heap.size + 2) _ _ _ _ rfl (setRow_heap _ _ _ _ _ _ (HZ.out _ H3.out)) huh rfl HSQ.out) rfl (by
       have hne : er ≠ 0 := by rw [HE.out]; exact HKL.out
       rw [HE.out] at hne ⊢
       exact StowP.bad hne (setRow_below (HBW.out _ H3.out).1 (show w.heap.size ≤ w.heap.size + 2 by omega) Hs.zero))
  · have HE : Hid (er = 23) := Lib.hid (by rw [HA.out]; simp [q1])
    have b1 : (kd != 2) = true := by simpa using q1
    clear q1
    go_wp2_with (first
     | (refine wpList_store_row rfl 37 (.tmp 6) (.tmp 28) rfl (w.heap.size + 2) Hs.zero rfl rfl _ _ (HZ.out _ H2.out) HSQ.out rfl H1Q.out ?_)
     | fail)
    exact bodyPost_ret (results_row_tmp2 rfl _ _ (w.heap.size + 2) _ _ _ _ rfl (setRow_heap _ _ _ _ _ _ (HZ.out _ H2.out)) huh rfl HSQ.out) rfl (by
     have hne : er ≠ 0 := by rw [HE.out]; decide
     rw [HE.out] at hne ⊢
     exact StowP.bad hne (setRow_below (HBW.out _ H2.out).1 (show w.heap.size ≤ w.heap.size + 2 by omega) Hs.zero))

end Go.Proofs.YtgbilfkjfeheaaaGreat
