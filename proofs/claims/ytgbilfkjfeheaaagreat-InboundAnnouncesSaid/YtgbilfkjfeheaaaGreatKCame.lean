/-
 CONTRACT of inbound's checkCame. (By wip/tools/gen_kin.py.)
-/
import Derived.Test.YtgbilfkjfeheaaaGreatKDock
import Derived.Test.YtgbilfkjfeheaaaGreatKL
import Derived.Test.YtgbilfkjfeheaaaGreatKN
import Derived.BigQuiet
import Derived.Deep.CutRange
namespace Go.Proofs.YtgbilfkjfeheaaaGreat
set_option linter.unusedVariables false
open Go.RowKit
open Pl (firstG findG putG It firstG_none firstG_some)

/-- What is wrong with what comes in, behind its unit. -/
def camE (L : Nat → List (List Value)) (x : Cm) (X : List Value) (k : Nat) (q : Int) : Nat :=
 if fitE (L 0) (L 1) (L 4) x.item x.lot q ≠ 0 then fitE (L 0) (L 1) (L 4) x.item x.lot q
 else if wrap64 ((lnAt (nlines X) k).asked - (lnAt (nlines X) k).got) < q then 29
 else if dockE (L 2) (L 3) x.dock (nsite X) ≠ 0 then dockE (L 2) (L 3) x.dock (nsite X)
 else roomE (L 0) (L 3) (L 4) x.dock x.item q
theorem recB_came (L : Nat → List (List Value)) (x : Cm) (X : List Value) (k : Nat) : recB L x X k = if Pl.baseE (itOf (gotItem (L 0) x.item)) x.unit x.n ≠ 0 then Pl.baseE (itOf (gotItem (L 0) x.item)) x.unit x.n else camE L x X k (recQ L x) := rfl
set_option maxRecDepth 100000 in
set_option maxHeartbeats 3200000 in
theorem ccame (h : Hs) (L : Nat → List (List Value)) (cn ci cu : ByteArray) (n : Int) (cl cd : ByteArray) (X : List Value) (k : Nat) (q : Int) (w : World) (hh : HT h L w) (hX : Fits kNotice X) (hk8 : k < 8) (hqw : -9223372036854775808 ≤ q ∧ q ≤ 9223372036854775807) :
 Calls Tryz.prog 70 #[.agg h.cells, .agg #[.string cn, .string ci, .string cu, .int .i64 n, .string cl, .string cd], .agg X.toArray, .int .i64 (k : Int), .int .i64 q] w fun e w' => e = .returned (.int .i64 (camE L (Cm.mk cn ci cu n cl cd) X k q : Nat)) ∧ Below w.heap.size w w' := by
 have HXF := Lib.hid hX
 obtain ⟨si, hsi⟩ : ∃ z, nsite X = z := ⟨_, rfl⟩
 obtain ⟨ll, hll⟩ : ∃ z, nlines X = z := ⟨_, rfl⟩
 have HLF : Hid (Fits kLine8 ll) := Lib.hid (by rw [← hll]; exact (notice_parts hX).2.2.1)
 obtain ⟨⟨yi, ya, yg, yb, yp, yo⟩, hy⟩ : ∃ z, lnAt ll k = z := ⟨_, rfl⟩
 obtain ⟨fe, hfe⟩ : ∃ z, fitE (L 0) (L 1) (L 4) ci cl q = z := ⟨_, rfl⟩
 obtain ⟨de, hde⟩ : ∃ z, dkE (L 3) cd = z := ⟨_, rfl⟩
 obtain ⟨⟨bc, bz, kd, ai, pl, vo, we, fz⟩, hdb⟩ : ∃ z, dkB (L 3) cd = z := ⟨_, rfl⟩
 obtain ⟨st, hst⟩ : ∃ z, siteT (L 2) (L 3) cd = z := ⟨_, rfl⟩
 obtain ⟨re, hre⟩ : ∃ z, roomE (L 0) (L 3) (L 4) cd ci q = z := ⟨_, rfl⟩
 obtain ⟨er, her⟩ : ∃ r, camE L (Cm.mk cn ci cu n cl cd) X k q = r := ⟨_, rfl⟩
 have HA : Hid (er = if fe ≠ 0 then fe else if wrap64 (ya - yg) < q then 29 else if (if de ≠ 0 then de else if Pl.eqv st si = false then 24 else if fz = true then 25 else 0) ≠ 0 then (if de ≠ 0 then de else if Pl.eqv st si = false then 24 else if fz = true then 25 else 0) else re) := Lib.hid (by rw [← her]; unfold camE; simp only []; rw [dock_parts, hll, hsi, hy, hfe, hde, hst, hdb, hre])
 have CL : Hid (∀ W, Below w.heap.size w W → Calls Tryz.prog 105 #[.agg h.cells, .string ci, .string cl, .int .i64 q] W fun e w' => e = .returned (.int .i64 (fe : Nat)) ∧ Below W.heap.size W w') := Lib.hid (fun W hW => by have := lcfits_any h L ci cl q W (hh.below hW) hqw; rwa [hfe] at this)
 have CD : Hid (∀ W, Below w.heap.size w W → Calls Tryz.prog 80 #[.agg h.cells, .string cd] W fun e w' => e = .returned (.tuple #[.agg #[.string bc, .string bz, .int .i64 kd, .int .i64 ai, .int .i64 pl, .int .i64 vo, .int .i64 we, .bool fz], .int .i64 (de : Nat)]) ∧ Below W.heap.size W w') := Lib.hid (fun W hW => by have := cdock h L cd W (hh.below hW); rw [hde, hdb] at this; exact this)
 have CS : Hid (∀ W, Below w.heap.size w W → Calls Tryz.prog 82 #[.agg h.cells, .string cd] W fun e w' => e = .returned (.string st) ∧ Below W.heap.size W w') := Lib.hid (fun W hW => by have := csite_any h L cd W (hh.below hW); rwa [hst] at this)
 have CR : Hid (∀ W, Below w.heap.size w W → Calls Tryz.prog 106 #[.agg h.cells, .string cd, .string ci, .int .i64 q] W fun e w' => e = .returned (.int .i64 (re : Nat)) ∧ Below W.heap.size W w') := Lib.hid (fun W hW => by have := cfits_any h L cd ci q W (hh.below hW); rwa [hre] at this)
 have HY := Lib.hid hy
 have HSI := Lib.hid hsi
 have HLV := Lib.hid hll
 have HK8 := Lib.hid hk8
 have i1 : (0 : Int) ≤ (k : Int) := by omega
 have i2 : (k : Int) < 8 := by omega
 rw [her]
 clear her hsi hll hy hfe hde hdb hst hre hqw
 obtain ⟨W0, hW0⟩ : ∃ W0, W0 = (((w.alloc (.cells h.cells 37)).alloc (.cells #[.string cn, .string ci, .string cu, .int .i64 n, .string cl, .string cd] 54)).alloc (.cells X.toArray 42)) := ⟨_, rfl⟩
 have hb0 : Below w.heap.size w W0 := by rw [hW0]; exact (((Below.refl _ _).alloc (Nat.le_refl _) _).alloc (by simp <;> omega) _).alloc (by simp <;> omega) _
 have hs0 : W0.heap.size = w.heap.size + 3 := by rw [hW0]; simp
 have HH : Hid (∀ W, Below W0.heap.size W0 W → W.heap[w.heap.size]? = some (.cells h.cells 37 (0, 0))) := Lib.hid (fun W hW => (hW.block _ (by omega)).trans (by
  rw [hW0]
  have hq := heap_alloc_new w (.cells h.cells 37)
  exact (Below.heap_alloc _ _ _ (by simp <;> omega)).trans ((Below.heap_alloc _ _ _ (by simp <;> omega)).trans ((by simpa using hq)))))
 have HX : Hid (∀ W, Below W0.heap.size W0 W → W.heap[w.heap.size + 1]? = some (.cells #[.string cn, .string ci, .string cu, .int .i64 n, .string cl, .string cd] 54 (0, 0))) := Lib.hid (fun W hW => (hW.block _ (by omega)).trans (by
  rw [hW0]
  have hq := heap_alloc_new (w.alloc (.cells h.cells 37)) (.cells #[.string cn, .string ci, .string cu, .int .i64 n, .string cl, .string cd] 54)
  exact (Below.heap_alloc _ _ _ (by simp <;> omega)).trans ((by simpa using hq))))
 have HN : Hid (∀ W, Below W0.heap.size W0 W → W.heap[w.heap.size + 2]? = some (.cells X.toArray 42 (0, 0))) := Lib.hid (fun W hW => (hW.block _ (by omega)).trans (by
  rw [hW0]
  have hq := heap_alloc_new ((w.alloc (.cells h.cells 37)).alloc (.cells #[.string cn, .string ci, .string cu, .int .i64 n, .string cl, .string cd] 54)) (.cells X.toArray 42)
  exact (by simpa using hq)))
 have HBW : Hid (∀ W, Below W0.heap.size W0 W → Below w.heap.size w W ∧ w.heap.size + 3 ≤ W.heap.size) := Lib.hid (fun W hW => ⟨hb0.trans (hW.mono (by omega)), by have := hW.size; omega⟩)
 have huh := Tryz.underlying37
 have HSH : Hid (∀ a : Hs, (Tryz.prog.info? 37).map (·.size) = some a.cells.size) := Lib.hid (fun a => by kernel_rfl)
 have huHX := Tryz.underlying54
 have HSHX : Hid ((Tryz.prog.info? 54).map (·.size) = some 6) := Lib.hid (by kernel_rfl)
 have HCHX : Hid (∀ W, Below W0.heap.size W0 W → W.cell? ⟨w.heap.size + 1, 0, none⟩ = some (.string cn) ∧ W.cell? ⟨w.heap.size + 1, 1, none⟩ = some (.string ci) ∧ W.cell? ⟨w.heap.size + 1, 2, none⟩ = some (.string cu) ∧ W.cell? ⟨w.heap.size + 1, 3, none⟩ = some (.int .i64 n) ∧ W.cell? ⟨w.heap.size + 1, 4, none⟩ = some (.string cl) ∧ W.cell? ⟨w.heap.size + 1, 5, none⟩ = some (.string cd) ∧ w.heap.size + 1 < W.heap.size) := Lib.hid (fun W hW => ⟨by rw [cell_of_block (HX.out W hW)]; rfl, by rw [cell_of_block (HX.out W hW)]; rfl, by rw [cell_of_block (HX.out W hW)]; rfl, by rw [cell_of_block (HX.out W hW)]; rfl, by rw [cell_of_block (HX.out W hW)]; rfl, by rw [cell_of_block (HX.out W hW)]; rfl, by have := hW.size; omega⟩)
 have huHN := Tryz.underlying42
 have HSHL : Hid (∀ a : Hs, (Tryz.prog.info? 37).map (·.size) = some a.cells.toList.length) := Lib.hid (fun a => by kernel_rfl)
 have HNL : Hid (∀ W, Below W0.heap.size W0 W → W.cell? ⟨w.heap.size + 2, 1, none⟩ = some (.string si) ∧ W.cell? ⟨w.heap.size + 2, 2 + k * 6 + 1, none⟩ = some (.int .i64 ya) ∧ W.cell? ⟨w.heap.size + 2, 2 + k * 6 + 2, none⟩ = some (.int .i64 yg) ∧ w.heap.size + 2 < W.heap.size) := Lib.hid (fun W hW => by
  have h0 := cnotice_box (HN.out W hW) HXF.out
  rw [HSI.out, HLV.out] at h0
  have r1 := line_at HLF.out h0.2.2.1 HK8.out
  rw [HY.out] at r1
  exact ⟨h0.2.1, r1 1 (.int .i64 ya) rfl, r1 2 (.int .i64 yg) rfl, h0.2.2.2.2⟩)
 have H0 := Lib.hid (Below.refl W0.heap.size W0)
 clear hb0 hs0 hh hX hk8
 subst hW0
 go_enter Tryz.func70, Tryz.ntmps70
 obtain ⟨hx0, hx1, hx2, hx3, hx4, hx5, hlthx⟩ := HCHX.out _ H0.out
 go_wp2_with (first
  | (refine wpList_load_row rfl 37 (.tmp 5) rfl w.heap.size rfl _ _ _ _ (HH.out _ H0.out) huh rfl (HSH.out _) ?_)
  | fail)
 refine (CL.out _ (HBW.out _ H0.out).1).mono ?_
 rintro e w1 ⟨rfl, hb1⟩
 have H1 := Lib.hid (H0.out.trans (hb1.mono H0.out.size))
 clear hb1
 clear hx0 hx1 hx2 hx3 hx4 hx5 hlthx
 by_cases hk0 : fe = 0
 · subst hk0
   have HA1 : Hid (er = if wrap64 (ya - yg) < q then 29 else if (if de ≠ 0 then de else if Pl.eqv st si = false then 24 else if fz = true then 25 else 0) ≠ 0 then (if de ≠ 0 then de else if Pl.eqv st si = false then 24 else if fz = true then 25 else 0) else re) := Lib.hid (by rw [HA.out, if_neg (by simp)])
   obtain ⟨_, z1, z2, clt⟩ := HNL.out _ H1.out
   by_cases ov : wrap64 (ya - yg) < q
   ·
    have HE : Hid (er = 29) := Lib.hid (by rw [HA1.out, if_pos ov])
    go_wp2_with fail
    go_quiet (fail)
    have H2 := Lib.hid (below_drewN H1.out nq)
    go_wp2_with fail
    go_ret
    exact ⟨by rw [HE.out]; rfl, (HBW.out _ H2.out).1⟩
   · have HA2 : Hid (er = if (if de ≠ 0 then de else if Pl.eqv st si = false then 24 else if fz = true then 25 else 0) ≠ 0 then (if de ≠ 0 then de else if Pl.eqv st si = false then 24 else if fz = true then 25 else 0) else re) := Lib.hid (by rw [HA1.out, if_neg ov])
     have ov2 : q ≤ wrap64 (ya - yg) := Int.not_lt.1 ov
     have ov3 : decide (wrap64 (ya - yg) < q) = false := decide_eq_false ov
     go_wp2_with fail
     go_quiet (fail)
     have H2 := Lib.hid (below_drewN H1.out nq)
     clear z1 z2 clt ov ov2 ov3
     obtain ⟨w2, hw2⟩ : ∃ W, W = w1.drewN nq := ⟨_, rfl⟩
     rw [← hw2] at H2 ⊢
     clear hw2
     obtain ⟨hx0, hx1, hx2, hx3, hx4, hx5, hlthx⟩ := HCHX.out _ H2.out
     go_wp2_with (first
      | (refine wpList_load_row rfl 37 (.tmp 5) rfl w.heap.size rfl _ _ _ _ (HH.out _ H2.out) huh rfl (HSH.out _) ?_)
      | fail)
     refine (CD.out _ (HBW.out _ H2.out).1).mono ?_
     rintro e w3 ⟨rfl, hb3⟩
     have H3 := Lib.hid (H2.out.trans (hb3.mono H2.out.size))
     clear hb3
     clear hx0 hx1 hx2 hx3 hx4 hx5 hlthx
     obtain ⟨w4, hw4⟩ : ∃ W, W = w3.alloc (.cells #[.string bc, .string bz, .int .i64 kd, .int .i64 ai, .int .i64 pl, .int .i64 vo, .int .i64 we, .bool fz] 64) := ⟨_, rfl⟩
     have H4 : Hid (Below _ _ w4) := Lib.hid (by rw [hw4]; exact H3.out.alloc H3.out.size _)
     have HB4 : Hid (∀ W, Below w4.heap.size w4 W → W.heap[w3.heap.size]? = some (.cells #[.string bc, .string bz, .int .i64 kd, .int .i64 ai, .int .i64 pl, .int .i64 vo, .int .i64 we, .bool fz] 64 (0, 0))) := Lib.hid (fun W hW => (hW.block _ (by rw [hw4]; simp)).trans (by rw [hw4]; exact heap_alloc_new _ _))
     have HW4 := Lib.hid hw4
     clear hw4
     go_upto_region 7 with fail
     rw [← HW4.out]
     by_cases hk0 : de = 0
     · subst hk0
       have HA3 : Hid (er = if (if Pl.eqv st si = false then 24 else if fz = true then 25 else 0) ≠ 0 then (if Pl.eqv st si = false then 24 else if fz = true then 25 else 0) else re) := Lib.hid (by rw [HA2.out]; simp)
       have RH : Hid (∀ X : BW w4, X.W.heap[w.heap.size]? = some (.cells h.cells 37 (0, 0))) := Lib.hid (fun X => HH.out _ (H4.out.trans (X.h.mono H4.out.size)))
       have y5 : ∀ X : BW w4, X.W.cell? ⟨w.heap.size + 1, 5, none⟩ = some (.string cd) := fun X => by rw [cell_of_block (HX.out _ (H4.out.trans (X.h.mono H4.out.size)))]; rfl
       have y1 : ∀ X : BW w4, X.W.cell? ⟨w.heap.size + 2, 1, none⟩ = some (.string si) := fun X => (HNL.out _ (H4.out.trans (X.h.mono H4.out.size))).1
       have CSX : Hid (∀ X : BW w4, Calls Tryz.prog 82 #[.agg h.cells, .string cd] X.W fun e w' => e = .returned (.string st) ∧ Below X.W.heap.size X.W w') := Lib.hid (fun X => CS.out _ (HBW.out _ (H4.out.trans (X.h.mono H4.out.size))).1)
       go_wp2_with fail
       refine wp_grow w4 (by kernel_rfl) (by kernel_rfl) (Below.refl _ _) ?_
       simp only []
       refine BigFrame.wpQuiet_want (by kernel_rfl) (fun K hK => quiet_load_mid 37 (.tmp 5) rfl w.heap.size 0 rfl h.cells.toList _ (fun W ⟨X, hX⟩ => by rw [hX]; exact range_row0 (RH.out X)) huh rfl (HSHL.out _) (hK _ ?_))
       simp only [ax]
       iterate 2 go_big_quiet_step (fail)
       go_big_quiet_step (exact grow_call _ (CSX.out _))
       iterate 3 go_big_quiet_step (fail)
       refine wpQuiet_nil ?_
       intro X
       obtain ⟨w5, hb5⟩ := X
       simp only []
       have H5 := Lib.hid (H4.out.trans (hb5.mono H4.out.size))
       have HB5 := Lib.hid (HB4.out _ hb5)
       clear hb5 y5 y1 RH CSX
       obtain ⟨eb, heb⟩ : ∃ b, (st.toList == si.toList) = b := ⟨_, rfl⟩
       rw [heb]
       have HEB : Hid (Pl.eqv st si = eb) := Lib.hid heb
       clear heb
       cases eb with
       | false =>
        have HE : Hid (er = 24) := Lib.hid (by rw [HA3.out, HEB.out]; rfl)
        go_wp2_with fail
        go_ret
        exact ⟨by rw [HE.out]; rfl, (HBW.out _ H5.out).1⟩
       | true =>
        have HA4 : Hid (er = if (if fz = true then 25 else 0) ≠ 0 then (if fz = true then 25 else 0) else re) := Lib.hid (by rw [HA3.out, HEB.out]; simp)
        have a7 : w5.cell? ⟨w3.heap.size, 7, none⟩ = some (.bool fz) := by rw [cell_of_block HB5.out]; rfl
        have alt := lt_of_block HB5.out
        cases fz with
        | true =>
         have HE : Hid (er = 25) := Lib.hid (by rw [HA4.out]; rfl)
         go_wp2_with fail
         go_ret
         exact ⟨by rw [HE.out]; rfl, (HBW.out _ H5.out).1⟩
        | false =>
         have HE : Hid (er = re) := Lib.hid (by rw [HA4.out]; rfl)
         obtain ⟨hx0, hx1, hx2, hx3, hx4, hx5, hlthx⟩ := HCHX.out _ H5.out
         go_wp2_with (first
          | (refine wpList_load_row rfl 37 (.tmp 5) rfl w.heap.size rfl _ _ _ _ (HH.out _ H5.out) huh rfl (HSH.out _) ?_)
          | fail)
         refine (CR.out _ (HBW.out _ H5.out).1).mono ?_
         rintro e w6 ⟨rfl, hb6⟩
         have H6 := Lib.hid (H5.out.trans (hb6.mono H5.out.size))
         clear hb6
         clear hx0 hx1 hx2 hx3 hx4 hx5 hlthx
         go_wp2_with fail
         go_ret
         exact ⟨by rw [HE.out]; rfl, (HBW.out _ H6.out).1⟩
     · have bn : ((de : Int) != 0) = true := by simpa using hk0
       have HE : Hid (er = de) := Lib.hid (by rw [HA2.out]; simp [hk0])
       clear hk0
       go_wp2_with fail
       go_ret
       exact ⟨by rw [HE.out]; rfl, (HBW.out _ H4.out).1⟩
 · have bn : ((fe : Int) != 0) = true := by simpa using hk0
   have HE : Hid (er = fe) := Lib.hid (by rw [HA.out, if_pos hk0])
   clear hk0
   go_wp2_with fail
   go_ret
   exact ⟨by rw [HE.out]; rfl, (HBW.out _ H1.out).1⟩
end Go.Proofs.YtgbilfkjfeheaaaGreat
