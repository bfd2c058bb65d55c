/-
 CONTRACTS of inbound's checkNotice, Announce. (By wip/tools/gen_kin.py.)
-/
import Derived.Test.YtgbilfkjfeheaaaGreatKNote
import Derived.Test.YtgbilfkjfeheaaaGreatKLines
import Derived.Test.YtgbilfkjfeheaaaGreatKSite
import Derived.Test.YtgbilfkjfeheaaaGreatIName
namespace Go.Proofs.YtgbilfkjfeheaaaGreat
set_option linter.unusedVariables false
open Go.RowKit
open Pl (firstG findG putG It firstG_none firstG_some)

set_option maxRecDepth 100000 in
set_option maxHeartbeats 3200000 in
theorem ccheckN (h : Hs) (L : Nat → List (List Value)) (cs : List Value) (w : World) (hh : HT h L w) (hf : Fits kNotice cs) (hm : (codeOf cs).size ≤ maxLen)
 (hz : ∀ W, Below w.heap.size w W → Calls Tryz.prog 91 #[.agg h.cells, .string (nsite cs)] W fun e w' => e = .returned (.bool (zonedB (L 2) (nsite cs))) ∧ Below W.heap.size W w')
 (hl : ∀ W, Below w.heap.size w W → Calls Tryz.prog 17 #[.agg h.cells, .agg (nlines cs).toArray] W fun e w' => e = .returned (.int .i64 (linesE (L 0) (nlines cs) : Nat)) ∧ Below W.heap.size W w') :
 Calls Tryz.prog 43 #[.agg h.cells, .agg cs.toArray] w fun e w' => e = .returned (.int .i64 (annE (L 0) (L 2) (L 6) cs : Nat)) ∧ Below w.heap.size w w' := by
 have HCF := Lib.hid hf
 have hn9 := (hh 6 (by decide)).2.1
 obtain ⟨cd, hcd⟩ : ∃ z, codeOf cs = z := ⟨_, rfl⟩
 obtain ⟨si, hsi⟩ : ∃ z, nsite cs = z := ⟨_, rfl⟩
 obtain ⟨sh, hsh⟩ : ∃ z, nshut cs = z := ⟨_, rfl⟩
 obtain ⟨ll, hll⟩ : ∃ z, nlines cs = z := ⟨_, rfl⟩
 have HLF : Hid (Fits kLine8 ll) := Lib.hid (by rw [← hll]; exact (notice_parts hf).2.2.1)
 obtain ⟨X, hX⟩ : ∃ X, gotNotice (L 6) cd = X := ⟨_, rfl⟩
 have HXF : Hid (Fits kNotice X) := Lib.hid (hX ▸ gotNotice_fits (hh 6 (by decide)).2.2.1 cd)
 obtain ⟨il, hil⟩ : ∃ q, (atNotice (L 6) cd).isSome = q := ⟨_, rfl⟩
 obtain ⟨nm, hnm⟩ : ∃ q, Pl.nmE cd = q := ⟨_, rfl⟩
 obtain ⟨zb, hzb⟩ : ∃ q, zonedB (L 2) si = q := ⟨_, rfl⟩
 obtain ⟨le, hle⟩ : ∃ q, linesE (L 0) ll = q := ⟨_, rfl⟩
 obtain ⟨er, her⟩ : ∃ r, annE (L 0) (L 2) (L 6) cs = r := ⟨_, rfl⟩
 obtain ⟨m, hmm⟩ : ∃ m, h.n 6 = m := ⟨_, rfl⟩
 have HA : Hid (er = if nm ≠ 0 then nm else if zb = false then 12 else if le ≠ 0 then le else if sh = true then 13 else if il = true then 11 else if 32 ≤ m then 14 else 0) := Lib.hid (by rw [← her]; unfold annE; rw [hcd, hsi, hll, hsh, hnm, hzb, hle, hil, ← (hh 6 (by decide)).1, hmm])
 have CN : Hid (∀ W, Calls Tryz.prog 90 #[.string cd] W fun e w' => e = .returned (.int .i64 (nm : Nat)) ∧ Below W.heap.size W w') := Lib.hid (fun W => (name_any cd W (by rw [← hcd]; exact hm)).mono fun e w' ⟨h1, h2⟩ => ⟨by rw [show Pl.nameE cd.data.toList = nm from hnm] at h1; exact h1, by rw [h2]; exact Below.refl _ _⟩)
 rw [hsi, hzb] at hz
 rw [hll, hle] at hl
 have CZ := Lib.hid hz
 have CL := Lib.hid hl
 have CF : Hid (∀ W, Below w.heap.size w W → Calls Tryz.prog 92 #[.agg h.cells, .string cd] W fun e w' => e = .returned (.tuple #[.agg X.toArray, .bool il]) ∧ Below W.heap.size W w') := Lib.hid (fun W hW => by have := fcNotice (hh.below hW) cd; rw [hX, hil] at this; exact this)
 rw [hmm] at hn9
 have HMM := Lib.hid hmm
 have HCD := Lib.hid hcd
 have HSI := Lib.hid hsi
 have HSV := Lib.hid hsh
 have HLV := Lib.hid hll
 have HLL : Hid ((Tryz.prog.info? 40).map (·.size) = some ll.length) := Lib.hid (by rw [HLF.out.length]; kernel_rfl)
 have huL8 := Tryz.underlying40
 rw [her]
 clear her hcd hsi hsh hll hX hil hnm hzb hle hmm hz hl
 have HSNO : Hid (∀ y, Fits kNotice y → (Tryz.prog.info? 42).map (·.size) = some y.toArray.size) := Lib.hid (fun y hy => by rw [show (Tryz.prog.info? 42).map (·.size) = some 51 from by kernel_rfl, List.size_toArray, hy.length]; rfl)
 have huNO := Tryz.underlying42
 have HOO : Hid (∀ y, Fits kNotice y → (#[.string ⟨#[]⟩, .string ⟨#[]⟩, .string ⟨#[]⟩, .int .i64 0, .int .i64 0, .int .i64 0, .int .i64 0, .int .i64 0, .string ⟨#[]⟩, .int .i64 0, .int .i64 0, .int .i64 0, .int .i64 0, .int .i64 0, .string ⟨#[]⟩, .int .i64 0, .int .i64 0, .int .i64 0, .int .i64 0, .int .i64 0, .string ⟨#[]⟩, .int .i64 0, .int .i64 0, .int .i64 0, .int .i64 0, .int .i64 0, .string ⟨#[]⟩, .int .i64 0, .int .i64 0, .int .i64 0, .int .i64 0, .int .i64 0, .string ⟨#[]⟩, .int .i64 0, .int .i64 0, .int .i64 0, .int .i64 0, .int .i64 0, .string ⟨#[]⟩, .int .i64 0, .int .i64 0, .int .i64 0, .int .i64 0, .int .i64 0, .string ⟨#[]⟩, .int .i64 0, .int .i64 0, .int .i64 0, .int .i64 0, .int .i64 0, .bool false] : Array Value).size = y.toArray.size) := Lib.hid (fun y hy => by rw [List.size_toArray, List.size_toArray, hy.length]; rfl)
 have HOC : Hid (∀ y, Fits kNotice y → y.toArray.all (·.oneCell') = true) := Lib.hid (fun y hy => all_oneCell_toArray (fits_one hy))
 obtain ⟨W0, hW0⟩ : ∃ W0, W0 = ((w.alloc (.cells h.cells 37)).alloc (.cells cs.toArray 42)) := ⟨_, rfl⟩
 have hb0 : Below w.heap.size w W0 := by rw [hW0]; exact ((Below.refl _ _).alloc (Nat.le_refl _) _).alloc (by simp <;> omega) _
 have hs0 : W0.heap.size = w.heap.size + 2 := by rw [hW0]; simp
 have HH : Hid (∀ W, Below W0.heap.size W0 W → W.heap[w.heap.size]? = some (.cells h.cells 37 (0, 0))) := Lib.hid (fun W hW => (hW.block _ (by omega)).trans (by
  rw [hW0]
  have hq := heap_alloc_new w (.cells h.cells 37)
  exact (Below.heap_alloc _ _ _ (by simp <;> omega)).trans ((by simpa using hq))))
 have HX : Hid (∀ W, Below W0.heap.size W0 W → W.heap[w.heap.size + 1]? = some (.cells cs.toArray 42 (0, 0))) := Lib.hid (fun W hW => (hW.block _ (by omega)).trans (by
  rw [hW0]
  have hq := heap_alloc_new (w.alloc (.cells h.cells 37)) (.cells cs.toArray 42)
  exact (by simpa using hq)))
 have HBW : Hid (∀ W, Below W0.heap.size W0 W → Below w.heap.size w W ∧ w.heap.size + 2 ≤ W.heap.size) := Lib.hid (fun W hW => ⟨hb0.trans (hW.mono (by omega)), by have := hW.size; omega⟩)
 have huh := Tryz.underlying37
 have HSH : Hid (∀ a : Hs, (Tryz.prog.info? 37).map (·.size) = some a.cells.size) := Lib.hid (fun a => by kernel_rfl)
 have huHX := Tryz.underlying42
 have HL6 : Hid (∀ W, Below W0.heap.size W0 W → W.cell? ⟨w.heap.size, 6, none⟩ = some (.slice (h.A 6) m (h.c 6)) ∧ w.heap.size < W.heap.size) := Lib.hid (fun W hW => ⟨by rw [cell_of_block (HH.out W hW), ← HMM.out]; rfl, by have := hW.size; omega⟩)
 have HCX : Hid (∀ W, Below W0.heap.size W0 W → W.cell? ⟨w.heap.size + 1, 0, none⟩ = some (.string cd) ∧ W.cell? ⟨w.heap.size + 1, 1, none⟩ = some (.string si) ∧ W.rangeAt (w.heap.size + 1) 2 ll ∧ W.cell? ⟨w.heap.size + 1, 50, none⟩ = some (.bool sh) ∧ w.heap.size + 1 < W.heap.size) := Lib.hid (fun W hW => by have := cnotice_box (HX.out W hW) HCF.out; rwa [HCD.out, HSI.out, HLV.out, HSV.out] at this)
 have HSHL : Hid (∀ a : Hs, (Tryz.prog.info? 37).map (·.size) = some a.cells.toList.length) := Lib.hid (fun a => by kernel_rfl)
 have H0 := Lib.hid (Below.refl W0.heap.size W0)
 clear hb0 hs0 hh hf hm
 subst hW0
 go_enter Tryz.func43, Tryz.ntmps43
 obtain ⟨x0, x1, x2, x50, xlt⟩ := HCX.out _ H0.out
 go_wp2_with fail
 refine (CN.out _).mono ?_
 rintro e w1 ⟨rfl, hb1⟩
 have H1 := Lib.hid (H0.out.trans (hb1.mono H0.out.size))
 clear hb1
 clear x0 x1 x2 x50 xlt
 by_cases hk : nm = 0
 · subst hk
   obtain ⟨x0, x1, x2, x50, xlt⟩ := HCX.out _ H1.out
   go_wp2_with (first
    | (refine wpList_load_row rfl 37 (.tmp 2) rfl w.heap.size rfl _ _ _ _ (HH.out _ H1.out) huh rfl (HSH.out _) ?_)
    | fail)
   refine (CZ.out _ (HBW.out _ H1.out).1).mono ?_
   rintro e w2 ⟨rfl, hb2⟩
   have H2 := Lib.hid (H1.out.trans (hb2.mono H1.out.size))
   clear hb2
   clear x0 x1 x2 x50 xlt
   cases zb with
   | false =>
    have HE : Hid (er = 12) := Lib.hid (by rw [HA.out]; rfl)
    go_wp2_with fail
    go_ret
    exact ⟨by rw [HE.out]; rfl, (HBW.out _ H2.out).1⟩
   | true =>
    obtain ⟨x0, x1, x2, x50, xlt⟩ := HCX.out _ H2.out
    go_wp2_with (first
     | (refine wpList_load_row rfl 37 (.tmp 2) rfl w.heap.size rfl _ _ _ _ (HH.out _ H2.out) huh rfl (HSH.out _) ?_)
     | (refine wpList_load_mid rfl 40 (.tmp 21) rfl (w.heap.size + 1) 2 rfl ll _ x2 huL8 rfl HLL.out ?_)
     | fail)
    refine (CL.out _ (HBW.out _ H2.out).1).mono ?_
    rintro e w3 ⟨rfl, hb3⟩
    have H3 := Lib.hid (H2.out.trans (hb3.mono H2.out.size))
    clear hb3
    clear x0 x1 x2 x50 xlt
    by_cases hl : le = 0
    · subst hl
      obtain ⟨x0, x1, x2, x50, xlt⟩ := HCX.out _ H3.out
      cases sh with
      | true =>
       have HE : Hid (er = 13) := Lib.hid (by rw [HA.out]; rfl)
       go_wp2_with fail
       go_ret
       exact ⟨by rw [HE.out]; rfl, (HBW.out _ H3.out).1⟩
      | false =>
       go_wp2_with (first
        | (refine wpList_load_row rfl 37 (.tmp 2) rfl w.heap.size rfl _ _ _ _ (HH.out _ H3.out) huh rfl (HSH.out _) ?_)
        | fail)
       refine (CF.out _ (HBW.out _ H3.out).1).mono ?_
       rintro e v1 ⟨rfl, hb9⟩
       have HPHQ1 := Lib.hid (H3.out.trans (hb9.mono H3.out.size))
       clear hb9
       have HBXHQ1 : Hid ((v1.alloc (.cells #[.string ⟨#[]⟩, .string ⟨#[]⟩, .string ⟨#[]⟩, .int .i64 0, .int .i64 0, .int .i64 0, .int .i64 0, .int .i64 0, .string ⟨#[]⟩, .int .i64 0, .int .i64 0, .int .i64 0, .int .i64 0, .int .i64 0, .string ⟨#[]⟩, .int .i64 0, .int .i64 0, .int .i64 0, .int .i64 0, .int .i64 0, .string ⟨#[]⟩, .int .i64 0, .int .i64 0, .int .i64 0, .int .i64 0, .int .i64 0, .string ⟨#[]⟩, .int .i64 0, .int .i64 0, .int .i64 0, .int .i64 0, .int .i64 0, .string ⟨#[]⟩, .int .i64 0, .int .i64 0, .int .i64 0, .int .i64 0, .int .i64 0, .string ⟨#[]⟩, .int .i64 0, .int .i64 0, .int .i64 0, .int .i64 0, .int .i64 0, .string ⟨#[]⟩, .int .i64 0, .int .i64 0, .int .i64 0, .int .i64 0, .int .i64 0, .bool false] 42)).heap[v1.heap.size]? = some (.cells #[.string ⟨#[]⟩, .string ⟨#[]⟩, .string ⟨#[]⟩, .int .i64 0, .int .i64 0, .int .i64 0, .int .i64 0, .int .i64 0, .string ⟨#[]⟩, .int .i64 0, .int .i64 0, .int .i64 0, .int .i64 0, .int .i64 0, .string ⟨#[]⟩, .int .i64 0, .int .i64 0, .int .i64 0, .int .i64 0, .int .i64 0, .string ⟨#[]⟩, .int .i64 0, .int .i64 0, .int .i64 0, .int .i64 0, .int .i64 0, .string ⟨#[]⟩, .int .i64 0, .int .i64 0, .int .i64 0, .int .i64 0, .int .i64 0, .string ⟨#[]⟩, .int .i64 0, .int .i64 0, .int .i64 0, .int .i64 0, .int .i64 0, .string ⟨#[]⟩, .int .i64 0, .int .i64 0, .int .i64 0, .int .i64 0, .int .i64 0, .string ⟨#[]⟩, .int .i64 0, .int .i64 0, .int .i64 0, .int .i64 0, .int .i64 0, .bool false] 42 (0, 0))) := Lib.hid (heap_alloc_new _ _)
       obtain ⟨v1b, hv1b⟩ : ∃ W, W = (v1.alloc (.cells #[.string ⟨#[]⟩, .string ⟨#[]⟩, .string ⟨#[]⟩, .int .i64 0, .int .i64 0, .int .i64 0, .int .i64 0, .int .i64 0, .string ⟨#[]⟩, .int .i64 0, .int .i64 0, .int .i64 0, .int .i64 0, .int .i64 0, .string ⟨#[]⟩, .int .i64 0, .int .i64 0, .int .i64 0, .int .i64 0, .int .i64 0, .string ⟨#[]⟩, .int .i64 0, .int .i64 0, .int .i64 0, .int .i64 0, .int .i64 0, .string ⟨#[]⟩, .int .i64 0, .int .i64 0, .int .i64 0, .int .i64 0, .int .i64 0, .string ⟨#[]⟩, .int .i64 0, .int .i64 0, .int .i64 0, .int .i64 0, .int .i64 0, .string ⟨#[]⟩, .int .i64 0, .int .i64 0, .int .i64 0, .int .i64 0, .int .i64 0, .string ⟨#[]⟩, .int .i64 0, .int .i64 0, .int .i64 0, .int .i64 0, .int .i64 0, .bool false] 42)).setRow v1.heap.size X.toArray := ⟨_, rfl⟩
       have HQ1 : Hid (Below ((w.alloc (.cells h.cells 37)).alloc (.cells cs.toArray 42)).heap.size ((w.alloc (.cells h.cells 37)).alloc (.cells cs.toArray 42)) v1b) := Lib.hid (by rw [hv1b]; exact setRow_below (HPHQ1.out.alloc HPHQ1.out.size _) HPHQ1.out.size _)
       have HRHQ1 : Hid (v1b.heap[v1.heap.size]? = some (.cells X.toArray 42 (0, 0))) := Lib.hid (by rw [hv1b]; exact setRow_heap _ _ _ _ _ _ HBXHQ1.out)
       have HWHQ1 := Lib.hid hv1b
       clear hv1b
       clear x0 x1 x2 x50 xlt
       cases il with
       | true =>
        have HE : Hid (er = 11) := Lib.hid (by rw [HA.out]; rfl)
        go_wp2_with (first
         | (refine wpList_store_row rfl 42 (.tmp 7) (.tmp 34) rfl v1.heap.size X.toArray rfl rfl _ _ HBXHQ1.out (HSNO.out _ HXF.out) (HOO.out _ HXF.out) (HOC.out _ HXF.out) ?_; rw [← HWHQ1.out])
         | fail)
        go_ret
        exact ⟨by rw [HE.out]; rfl, (HBW.out _ HQ1.out).1⟩
       | false =>
        obtain ⟨d6, dlt⟩ := HL6.out _ HQ1.out
        by_cases q1 : 32 ≤ m
        ·
         have HE : Hid (er = 14) := Lib.hid (by rw [HA.out]; simp [q1])
         go_wp2_with (first
          | (refine wpList_store_row rfl 42 (.tmp 7) (.tmp 34) rfl v1.heap.size X.toArray rfl rfl _ _ HBXHQ1.out (HSNO.out _ HXF.out) (HOO.out _ HXF.out) (HOC.out _ HXF.out) ?_; rw [← HWHQ1.out])
          | fail)
         go_ret
         exact ⟨by rw [HE.out]; rfl, (HBW.out _ HQ1.out).1⟩
        ·
         have HE : Hid (er = 0) := Lib.hid (by rw [HA.out]; simp [q1])
         go_wp2_with (first
          | (refine wpList_store_row rfl 42 (.tmp 7) (.tmp 34) rfl v1.heap.size X.toArray rfl rfl _ _ HBXHQ1.out (HSNO.out _ HXF.out) (HOO.out _ HXF.out) (HOC.out _ HXF.out) ?_; rw [← HWHQ1.out])
          | fail)
         go_ret
         exact ⟨by rw [HE.out]; rfl, (HBW.out _ HQ1.out).1⟩
    · have bn : ((le : Int) != 0) = true := by simpa using hl
      have HKL := Lib.hid hl
      clear hl
      have HE : Hid (er = le) := Lib.hid (by rw [HA.out]; simp [HKL.out])
      go_wp2_with fail
      go_ret
      exact ⟨by rw [HE.out]; rfl, (HBW.out _ H3.out).1⟩
 · have bn : ((nm : Int) != 0) = true := by simpa using hk
   have HKL := Lib.hid hk
   clear hk
   have HE : Hid (er = nm) := Lib.hid (by rw [HA.out]; simp [HKL.out])
   go_wp2_with fail
   go_ret
   exact ⟨by rw [HE.out]; rfl, (HBW.out _ H1.out).1⟩

set_option maxRecDepth 100000 in
set_option maxHeartbeats 3200000 in
theorem cann (h : Hs) (L : Nat → List (List Value)) (cs : List Value) (w : World) (hh : HT h L w) (hf : Fits kNotice cs) (hm : (codeOf cs).size ≤ maxLen) (hn6 : h.n 6 ≤ 1100) (hc1 : h.n 6 ≤ h.c 6 ∧ h.c 6 ≤ 9223372036854775807) :
 Calls Tryz.prog 12 #[.agg h.cells, .agg cs.toArray] w (PutP 42 51 6 (annE (L 0) (L 2) (L 6) cs) (putG ordNotice (L 6) cs) h w) := by
 have HXF := Lib.hid hf
 obtain ⟨k, hk⟩ : ∃ k, annE (L 0) (L 2) (L 6) cs = k := ⟨_, rfl⟩
 obtain ⟨lx, hlx⟩ : ∃ l, putG ordNotice (L 6) cs = l := ⟨_, rfl⟩
 have HCK : Hid (∀ W, Below w.heap.size w W → Calls Tryz.prog 43 #[.agg h.cells, .agg cs.toArray] W fun e w' => e = .returned (.int .i64 (k : Nat)) ∧ Below W.heap.size W w') := Lib.hid (fun W hW => by
  rw [← hk]
  have h0 := hh.below hW
  exact ccheckN h L cs W h0 hf hm (fun W2 h2 => cisSite h L (nsite cs) W2 (h0.below h2)) (fun W2 h2 => clines h L (nlines cs) W2 (h0.below h2) (notice_parts hf).2.2.1))
 have HP2 : Hid (∀ W, Below w.heap.size w W → Calls Tryz.prog 44 #[.agg h.cells, .agg cs.toArray] W fun e w' => Below W.heap.size W w' ∧ ∃ A n c, n = lx.length ∧ w'.ownsRow W.heap.size 42 51 (.slice A n c) n lx.flatten ∧ e = .returned (.agg (h.set 6 A n c).cells)) := Lib.hid (fun W hW => by rw [← hlx]; exact cwithN h L cs W (hh.below hW) hf hn6 hc1)
 rw [hk, hlx]
 clear hk hlx hm hf
 have HSNO : Hid (∀ y, Fits kNotice y → (Tryz.prog.info? 42).map (·.size) = some y.toArray.size) := Lib.hid (fun y hy => by rw [show (Tryz.prog.info? 42).map (·.size) = some 51 from by kernel_rfl, List.size_toArray, hy.length]; rfl)
 have huNO := Tryz.underlying42
 have HOO : Hid (∀ y, Fits kNotice y → (#[.string ⟨#[]⟩, .string ⟨#[]⟩, .string ⟨#[]⟩, .int .i64 0, .int .i64 0, .int .i64 0, .int .i64 0, .int .i64 0, .string ⟨#[]⟩, .int .i64 0, .int .i64 0, .int .i64 0, .int .i64 0, .int .i64 0, .string ⟨#[]⟩, .int .i64 0, .int .i64 0, .int .i64 0, .int .i64 0, .int .i64 0, .string ⟨#[]⟩, .int .i64 0, .int .i64 0, .int .i64 0, .int .i64 0, .int .i64 0, .string ⟨#[]⟩, .int .i64 0, .int .i64 0, .int .i64 0, .int .i64 0, .int .i64 0, .string ⟨#[]⟩, .int .i64 0, .int .i64 0, .int .i64 0, .int .i64 0, .int .i64 0, .string ⟨#[]⟩, .int .i64 0, .int .i64 0, .int .i64 0, .int .i64 0, .int .i64 0, .string ⟨#[]⟩, .int .i64 0, .int .i64 0, .int .i64 0, .int .i64 0, .int .i64 0, .bool false] : Array Value).size = y.toArray.size) := Lib.hid (fun y hy => by rw [List.size_toArray, List.size_toArray, hy.length]; rfl)
 have HOC : Hid (∀ y, Fits kNotice y → y.toArray.all (·.oneCell') = true) := Lib.hid (fun y hy => all_oneCell_toArray (fits_one hy))
 obtain ⟨W0, hW0⟩ : ∃ W0, W0 = (((w.alloc (.cells h.cells 37)).alloc (.cells cs.toArray 42)).alloc (.cells #[.slice none 0 0, .slice none 0 0, .slice none 0 0, .slice none 0 0, .slice none 0 0, .slice none 0 0, .slice none 0 0, .slice none 0 0, .slice none 0 0, .slice none 0 0, .slice none 0 0, .slice none 0 0, .slice none 0 0, .slice none 0 0, .int .i64 0] 37)) := ⟨_, rfl⟩
 have hb0 : Below w.heap.size w W0 := by rw [hW0]; exact (((Below.refl _ _).alloc (Nat.le_refl _) _).alloc (by simp <;> omega) _).alloc (by simp <;> omega) _
 have hs0 : W0.heap.size = w.heap.size + 3 := by rw [hW0]; simp
 have HH : Hid (∀ W, Below W0.heap.size W0 W → W.heap[w.heap.size]? = some (.cells h.cells 37 (0, 0))) := Lib.hid (fun W hW => (hW.block _ (by omega)).trans (by
  rw [hW0]
  have hq := heap_alloc_new w (.cells h.cells 37)
  exact (Below.heap_alloc _ _ _ (by simp <;> omega)).trans ((Below.heap_alloc _ _ _ (by simp <;> omega)).trans ((by simpa using hq)))))
 have HX : Hid (∀ W, Below W0.heap.size W0 W → W.heap[w.heap.size + 1]? = some (.cells cs.toArray 42 (0, 0))) := Lib.hid (fun W hW => (hW.block _ (by omega)).trans (by
  rw [hW0]
  have hq := heap_alloc_new (w.alloc (.cells h.cells 37)) (.cells cs.toArray 42)
  exact (Below.heap_alloc _ _ _ (by simp <;> omega)).trans ((by simpa using hq))))
 have HZ : Hid (∀ W, Below W0.heap.size W0 W → W.heap[w.heap.size + 2]? = some (.cells Hs.zero 37 (0, 0))) := Lib.hid (fun W hW => (hW.block _ (by omega)).trans (by
  rw [hW0]
  have hq := heap_alloc_new ((w.alloc (.cells h.cells 37)).alloc (.cells cs.toArray 42)) (.cells #[.slice none 0 0, .slice none 0 0, .slice none 0 0, .slice none 0 0, .slice none 0 0, .slice none 0 0, .slice none 0 0, .slice none 0 0, .slice none 0 0, .slice none 0 0, .slice none 0 0, .slice none 0 0, .slice none 0 0, .slice none 0 0, .int .i64 0] 37)
  exact (by simpa [Hs.zero] using hq)))
 have HBW : Hid (∀ W, Below W0.heap.size W0 W → Below w.heap.size w W ∧ w.heap.size + 3 ≤ W.heap.size) := Lib.hid (fun W hW => ⟨hb0.trans (hW.mono (by omega)), by have := hW.size; omega⟩)
 have huh := Tryz.underlying37
 have HSH : Hid (∀ a : Hs, (Tryz.prog.info? 37).map (·.size) = some a.cells.size) := Lib.hid (fun a => by kernel_rfl)
 have HSQ : Hid ((Tryz.prog.info? 37).map (·.size) = some Hs.zero.size) := Lib.hid (by kernel_rfl)
 have H1C : Hid (∀ a : Hs, a.cells.all (·.oneCell') = true) := Lib.hid (fun a => by simp [Hs.cells, Value.oneCell'])
 have H1Q : Hid (Hs.zero.all (·.oneCell') = true) := Lib.hid (by simp [Hs.zero, Value.oneCell'])
 have huHX := Tryz.underlying42
 have H0 := Lib.hid (Below.refl W0.heap.size W0)
 clear hb0 hs0 hh hn6 hc1
 subst hW0
 go_enter Tryz.func12, Tryz.ntmps12
 go_wp2_with (first
  | (refine wpList_load_row rfl 37 (.tmp 2) rfl w.heap.size rfl _ _ _ _ (HH.out _ H0.out) huh rfl (HSH.out _) ?_)
  | (refine wpList_load_row rfl 42 (.tmp 3) rfl (w.heap.size + 1) rfl _ _ _ _ (HX.out _ H0.out) huNO rfl (HSNO.out _ HXF.out) ?_)
  | fail)
 refine (HCK.out _ (HBW.out _ H0.out).1).mono ?_
 rintro e w1 ⟨rfl, hb1⟩
 have H1 := Lib.hid (H0.out.trans (hb1.mono H0.out.size))
 clear hb1
 by_cases hk : k = 0
 · have HE := Lib.hid hk
   have bn : ((k : Int) != 0) = false := by simpa using hk
   clear hk
   go_wp2_with (first
    | (refine wpList_load_row rfl 37 (.tmp 2) rfl w.heap.size rfl _ _ _ _ (HH.out _ H1.out) huh rfl (HSH.out _) ?_)
    | (refine wpList_load_row rfl 42 (.tmp 3) rfl (w.heap.size + 1) rfl _ _ _ _ (HX.out _ H1.out) huNO rfl (HSNO.out _ HXF.out) ?_)
    | fail)
   refine (HP2.out _ (HBW.out _ H1.out).1).mono ?_
   rintro e w5 ⟨hb9, A, n, cc, hl, hown, rfl⟩
   have H9 := Lib.hid (H1.out.trans (hb9.mono H1.out.size))
   have HO9 := Lib.hid hown
   have HLE := Lib.hid hl
   have HSZ9 := Lib.hid (HBW.out _ H1.out).2
   clear hb9 hown hl
   go_wp2_with (first
    | (refine wpList_store_row rfl 37 (.tmp 4) (.tmp 16) rfl (w.heap.size + 2) (h.set 6 A n cc).cells rfl rfl _ _ (HZ.out _ H9.out) (HSH.out _) rfl (H1C.out _) ?_)
    | fail)
   exact bodyPost_ret (results_row_tmp rfl _ _ (w.heap.size + 2) _ _ _ _ rfl (setRow_heap _ _ _ _ _ _ (HZ.out _ H9.out)) huh rfl (HSH.out _)) rfl ⟨setRow_below (HBW.out _ H9.out).1 (by omega) _, .inr ⟨HE.out, A, n, cc, HLE.out, own_rowed HO9.out (by have := HSZ9.out; omega) (by have := HSZ9.out; omega), rfl⟩⟩
 · have hk0 : ((k : Int) != 0) = true := by simpa using hk
   have HK := Lib.hid hk
   clear hk
   go_wp2_with (first
    | (refine wpList_store_row rfl 37 (.tmp 4) (.tmp 12) rfl (w.heap.size + 2) Hs.zero rfl rfl _ _ (HZ.out _ H1.out) HSQ.out rfl H1Q.out ?_)
    | fail)
   exact bodyPost_ret (results_row_tmp rfl _ _ (w.heap.size + 2) _ _ _ _ rfl (setRow_heap _ _ _ _ _ _ (HZ.out _ H1.out)) huh rfl HSQ.out) rfl ⟨setRow_below (HBW.out _ H1.out).1 (by omega) _, .inl ⟨HK.out, rfl⟩⟩
end Go.Proofs.YtgbilfkjfeheaaaGreat
