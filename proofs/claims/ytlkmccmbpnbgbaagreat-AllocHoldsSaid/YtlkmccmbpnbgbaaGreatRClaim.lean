/-
 CONTRACTS of the rows' order of claims, of the rows' and of the reference's Claim. (By wip/tools/gen_aref.py.)
-/
import Derived.Test.YtlkmccmbpnbgbaaGreatAFacts
import Derived.Test.YtlkmccmbpnbgbaaGreatKSum
import Derived.Test.YtlkmccmbpnbgbaaGreatQOrd
import Derived.Test.YtlkmccmbpnbgbaaGreatGRC
import Derived.Test.YtlkmccmbpnbgbaaGreatGT
import Derived.Test.YtlkmccmbpnbgbaaGreatHKept
import Derived.Deep.CutRange
import Derived.BigQuiet
namespace Go.Proofs.YtlkmccmbpnbgbaaGreat
set_option linter.unusedVariables false
open Go.RowKit
open Pl (firstG firstG_none firstG_some findG overG putG dropG It)

theorem rnum_any (a b : Int) (w : World) : Calls Tryz.prog 125 #[.int .i64 a, .int .i64 b] w fun e w' => e = .returned (.int .i64 (cmpI a b)) ∧ w' = w := by
 obtain ⟨v, hv⟩ : ∃ v, cmpI a b = v := ⟨_, rfl⟩
 have HV : Hid (v = if a < b then -1 else if b < a then 1 else 0) := Lib.hid hv.symm
 rw [hv]
 clear hv
 by_cases h1 : a < b
 · have HE : Hid (v = -1) := Lib.hid (by rw [HV.out, if_pos h1])
   go_enter Tryz.func125, Tryz.ntmps125
   go_wp2_with fail
   go_ret
   exact ⟨by rw [HE.out]; rfl, rfl⟩
 · by_cases h2 : b < a
   · have HE : Hid (v = 1) := Lib.hid (by rw [HV.out, if_neg h1, if_pos h2])
     go_enter Tryz.func125, Tryz.ntmps125
     go_wp2_with fail
     go_ret
     exact ⟨by rw [HE.out]; rfl, rfl⟩
   · have HE : Hid (v = 0) := Lib.hid (by rw [HV.out, if_neg h1, if_neg h2])
     go_enter Tryz.func125, Tryz.ntmps125
     go_wp2_with fail
     go_ret
     exact ⟨by rw [HE.out]; rfl, rfl⟩
set_option maxRecDepth 100000 in
set_option maxHeartbeats 3200000 in
theorem rordC_any (x y : List Value) (w : World) (hx : Fits kClaim x) (hy : Fits kClaim y) : Calls Tryz.prog 95 #[.agg x.toArray, .agg y.toArray] w fun e w' => e = .returned (.int .i64 (ordClaim x y)) ∧ Below w.heap.size w w' := by
 have hxr := cl_cells hx
 have hyr := cl_cells hy
 have HV0 : ordClaim x y = ordCl (clOf x) (clOf y) := rfl
 obtain ⟨p, hp⟩ : ∃ p, clOf x = p := ⟨_, rfl⟩
 obtain ⟨q, hq⟩ : ∃ q, clOf y = q := ⟨_, rfl⟩
 rw [hp] at hxr HV0
 rw [hq] at hyr HV0
 obtain ⟨v, hv⟩ : ∃ v, ordClaim x y = v := ⟨_, rfl⟩
 rw [hv] at HV0 ⊢
 subst hxr hyr
 clear hp hq hx hy hv
 obtain ⟨po, pn, pb, pi, pl, ps, pq, pt⟩ := p
 obtain ⟨qo, qn, qb, qi, ql, qs, qq, qt⟩ := q
 unfold Cl.cells
 unfold ordCl Cl.ky at HV0
 simp only [] at HV0 ⊢
 obtain ⟨v1, hv1⟩ : ∃ z, Pl.cmp po qo = z := ⟨_, rfl⟩
 obtain ⟨v2, hv2⟩ : ∃ z, cmpI pn qn = z := ⟨_, rfl⟩
 obtain ⟨v3, hv3⟩ : ∃ z, ordKy (Ky.mk pb pi pl ps) (Ky.mk qb qi ql qs) = z := ⟨_, rfl⟩
 obtain ⟨v4, hv4⟩ : ∃ z, cmpI pt qt = z := ⟨_, rfl⟩
 rw [hv1, hv2, hv3, hv4] at HV0
 have HV := Lib.hid HV0
 have V1 := Lib.hid hv1
 have V2 := Lib.hid hv2
 have V3 := Lib.hid hv3
 have V4 := Lib.hid hv4
 clear HV0 hv1 hv2 hv3 hv4
 have huK := Tryz.underlying44
 have HSK4 : Hid ((Tryz.prog.info? 44).map (·.size) = some 4) := Lib.hid (by kernel_rfl)
 obtain ⟨W0, hW0⟩ : ∃ W0, W0 = ((w.alloc (.cells #[.string po, .int .i64 pn, .string pb, .string pi, .string pl, .int .i64 ps, .int .i64 pq, .int .i64 pt] 46)).alloc (.cells #[.string qo, .int .i64 qn, .string qb, .string qi, .string ql, .int .i64 qs, .int .i64 qq, .int .i64 qt] 46)) := ⟨_, rfl⟩
 have hb0 : Below w.heap.size w W0 := by rw [hW0]; exact ((Below.refl _ _).alloc (Nat.le_refl _) _).alloc (by simp <;> omega) _
 have hs0 : W0.heap.size = w.heap.size + 2 := by rw [hW0]; simp
 have HX : Hid (∀ W, Below W0.heap.size W0 W → W.heap[w.heap.size]? = some (.cells #[.string po, .int .i64 pn, .string pb, .string pi, .string pl, .int .i64 ps, .int .i64 pq, .int .i64 pt] 46 (0, 0))) := Lib.hid (fun W hW => (hW.block _ (by omega)).trans (by
  rw [hW0]
  have hq := heap_alloc_new w (.cells #[.string po, .int .i64 pn, .string pb, .string pi, .string pl, .int .i64 ps, .int .i64 pq, .int .i64 pt] 46)
  exact (Below.heap_alloc _ _ _ (by simp <;> omega)).trans ((by simpa using hq))))
 have HY : Hid (∀ W, Below W0.heap.size W0 W → W.heap[w.heap.size + 1]? = some (.cells #[.string qo, .int .i64 qn, .string qb, .string qi, .string ql, .int .i64 qs, .int .i64 qq, .int .i64 qt] 46 (0, 0))) := Lib.hid (fun W hW => (hW.block _ (by omega)).trans (by
  rw [hW0]
  have hq := heap_alloc_new (w.alloc (.cells #[.string po, .int .i64 pn, .string pb, .string pi, .string pl, .int .i64 ps, .int .i64 pq, .int .i64 pt] 46)) (.cells #[.string qo, .int .i64 qn, .string qb, .string qi, .string ql, .int .i64 qs, .int .i64 qq, .int .i64 qt] 46)
  exact (by simpa using hq)))
 have HBW : Hid (∀ W, Below W0.heap.size W0 W → Below w.heap.size w W ∧ w.heap.size + 2 ≤ W.heap.size) := Lib.hid (fun W hW => ⟨hb0.trans (hW.mono (by omega)), by have := hW.size; omega⟩)
 have huh := Tryz.underlying37
 have HSH : Hid (∀ a : Hs, (Tryz.prog.info? 37).map (·.size) = some a.cells.size) := Lib.hid (fun a => by kernel_rfl)
 have huHX := Tryz.underlying46
 have HSHX : Hid ((Tryz.prog.info? 46).map (·.size) = some 8) := Lib.hid (by kernel_rfl)
 have HCHX : Hid (∀ W, Below W0.heap.size W0 W → W.cell? ⟨w.heap.size, 0, none⟩ = some (.string po) ∧ W.cell? ⟨w.heap.size, 1, none⟩ = some (.int .i64 pn) ∧ W.cell? ⟨w.heap.size, 2, none⟩ = some (.string pb) ∧ W.cell? ⟨w.heap.size, 3, none⟩ = some (.string pi) ∧ W.cell? ⟨w.heap.size, 4, none⟩ = some (.string pl) ∧ W.cell? ⟨w.heap.size, 5, none⟩ = some (.int .i64 ps) ∧ W.cell? ⟨w.heap.size, 6, none⟩ = some (.int .i64 pq) ∧ W.cell? ⟨w.heap.size, 7, none⟩ = some (.int .i64 pt) ∧ w.heap.size < W.heap.size) := Lib.hid (fun W hW => ⟨by rw [cell_of_block (HX.out W hW)]; rfl, by rw [cell_of_block (HX.out W hW)]; rfl, by rw [cell_of_block (HX.out W hW)]; rfl, by rw [cell_of_block (HX.out W hW)]; rfl, by rw [cell_of_block (HX.out W hW)]; rfl, by rw [cell_of_block (HX.out W hW)]; rfl, by rw [cell_of_block (HX.out W hW)]; rfl, by rw [cell_of_block (HX.out W hW)]; rfl, by have := hW.size; omega⟩)
 have huHY := Tryz.underlying46
 have HSHY : Hid ((Tryz.prog.info? 46).map (·.size) = some 8) := Lib.hid (by kernel_rfl)
 have HCHY : Hid (∀ W, Below W0.heap.size W0 W → W.cell? ⟨w.heap.size + 1, 0, none⟩ = some (.string qo) ∧ W.cell? ⟨w.heap.size + 1, 1, none⟩ = some (.int .i64 qn) ∧ W.cell? ⟨w.heap.size + 1, 2, none⟩ = some (.string qb) ∧ W.cell? ⟨w.heap.size + 1, 3, none⟩ = some (.string qi) ∧ W.cell? ⟨w.heap.size + 1, 4, none⟩ = some (.string ql) ∧ W.cell? ⟨w.heap.size + 1, 5, none⟩ = some (.int .i64 qs) ∧ W.cell? ⟨w.heap.size + 1, 6, none⟩ = some (.int .i64 qq) ∧ W.cell? ⟨w.heap.size + 1, 7, none⟩ = some (.int .i64 qt) ∧ w.heap.size + 1 < W.heap.size) := Lib.hid (fun W hW => ⟨by rw [cell_of_block (HY.out W hW)]; rfl, by rw [cell_of_block (HY.out W hW)]; rfl, by rw [cell_of_block (HY.out W hW)]; rfl, by rw [cell_of_block (HY.out W hW)]; rfl, by rw [cell_of_block (HY.out W hW)]; rfl, by rw [cell_of_block (HY.out W hW)]; rfl, by rw [cell_of_block (HY.out W hW)]; rfl, by rw [cell_of_block (HY.out W hW)]; rfl, by have := hW.size; omega⟩)
 have H0 := Lib.hid (Below.refl W0.heap.size W0)
 clear hb0 hs0 
 subst hW0
 go_enter Tryz.func95, Tryz.ntmps95
 have y0' : (((w.alloc (.cells #[.string po, .int .i64 pn, .string pb, .string pi, .string pl, .int .i64 ps, .int .i64 pq, .int .i64 pt] 46)).alloc (.cells #[.string qo, .int .i64 qn, .string qb, .string qi, .string ql, .int .i64 qs, .int .i64 qq, .int .i64 qt] 46)).alloc (.cells #[.string po] 9)).cell? ⟨w.heap.size + 1, 0, none⟩ = some (.string qo) := (HCHY.out _ (H0.out.alloc H0.out.size _)).1
 obtain ⟨x0, x1, x2, x3, x4, x5, x6, x7, xlt⟩ := HCHX.out _ H0.out
 obtain ⟨y0, y1, y2, y3, y4, y5, y6, y7, ylt⟩ := HCHY.out _ H0.out
 go_wp2_with fail
 clear x0 x1 x2 x3 x4 x5 x6 x7 xlt y0 y1 y2 y3 y4 y5 y6 y7 ylt
 obtain ⟨W1, hW1⟩ : ∃ W1, W1 = (((w.alloc (.cells #[.string po, .int .i64 pn, .string pb, .string pi, .string pl, .int .i64 ps, .int .i64 pq, .int .i64 pt] 46)).alloc (.cells #[.string qo, .int .i64 qn, .string qb, .string qi, .string ql, .int .i64 qs, .int .i64 qq, .int .i64 qt] 46)).alloc (.cells #[.string po] 9)).alloc (.cells #[.string qo] 9) := ⟨_, rfl⟩
 have H1 : Hid (Below ((w.alloc (.cells #[.string po, .int .i64 pn, .string pb, .string pi, .string pl, .int .i64 ps, .int .i64 pq, .int .i64 pt] 46)).alloc (.cells #[.string qo, .int .i64 qn, .string qb, .string qi, .string ql, .int .i64 qs, .int .i64 qq, .int .i64 qt] 46)).heap.size ((w.alloc (.cells #[.string po, .int .i64 pn, .string pb, .string pi, .string pl, .int .i64 ps, .int .i64 pq, .int .i64 pt] 46)).alloc (.cells #[.string qo, .int .i64 qn, .string qb, .string qi, .string ql, .int .i64 qs, .int .i64 qq, .int .i64 qt] 46)) W1) := Lib.hid (by rw [hW1]; exact (H0.out.alloc H0.out.size _).alloc (by simp <;> omega) _)
 have HR1 : Hid (Rd W1 W1.heap.size (some ⟨w.heap.size + 1 + 1, 0, none⟩) (sc [po])) := Lib.hid (rd_str (by
  rw [hW1]
  have := heap_alloc_new ((w.alloc (.cells #[.string po, .int .i64 pn, .string pb, .string pi, .string pl, .int .i64 ps, .int .i64 pq, .int .i64 pt] 46)).alloc (.cells #[.string qo, .int .i64 qn, .string qb, .string qi, .string ql, .int .i64 qs, .int .i64 qq, .int .i64 qt] 46)) (.cells #[.string po] 9)
  exact (Below.heap_alloc _ _ _ (by simp)).trans (by simpa using this)))
 have HR2 : Hid (Rd W1 W1.heap.size (some ⟨w.heap.size + 1 + 1 + 1, 0, none⟩) (sc [qo])) := Lib.hid (rd_str (by
  rw [hW1]
  have := heap_alloc_new (((w.alloc (.cells #[.string po, .int .i64 pn, .string pb, .string pi, .string pl, .int .i64 ps, .int .i64 pq, .int .i64 pt] 46)).alloc (.cells #[.string qo, .int .i64 qn, .string qb, .string qi, .string ql, .int .i64 qs, .int .i64 qq, .int .i64 qt] 46)).alloc (.cells #[.string po] 9)) (.cells #[.string qo] 9)
  simpa using this))
 rw [← hW1]
 clear hW1 y0'
 refine (texts_any _ _ 1 1 1 1 [po] [qo] W1 rfl rfl rfl (by omega) HR1.out HR2.out).mono ?_
 rintro e w2 ⟨rfl, hb2⟩
 rw [cmps_one, V1.out]
 have H2 := Lib.hid (H1.out.trans (hb2.mono H1.out.size))
 clear hb2
 by_cases q1 : v1 = 0
 · subst q1
   have HV1 : Hid (v = if v2 ≠ 0 then v2 else if v3 ≠ 0 then v3 else v4) := Lib.hid (by rw [HV.out]; rfl)
   obtain ⟨x0, x1, x2, x3, x4, x5, x6, x7, xlt⟩ := HCHX.out _ H2.out
   obtain ⟨y0, y1, y2, y3, y4, y5, y6, y7, ylt⟩ := HCHY.out _ H2.out
   go_wp2_with fail
   refine (rnum_any pn qn _).mono ?_
   rintro e w3 ⟨rfl, rfl⟩
   rw [V2.out]
   clear x0 x1 x2 x3 x4 x5 x6 x7 xlt y0 y1 y2 y3 y4 y5 y6 y7 ylt
   by_cases q2 : v2 = 0
   · subst q2
     have HV2 : Hid (v = if v3 ≠ 0 then v3 else v4) := Lib.hid (by rw [HV1.out]; rfl)
     have RX : Hid (w3.rangeAt w.heap.size 2 [.string pb, .string pi, .string pl, .int .i64 ps]) := Lib.hid (range_part (pre := [.string po, .int .i64 pn]) (post := [.int .i64 pq, .int .i64 pt]) (HX.out _ H2.out))
     have RY : Hid (w3.rangeAt (w.heap.size + 1) 2 [.string qb, .string qi, .string ql, .int .i64 qs]) := Lib.hid (range_part (pre := [.string qo, .int .i64 qn]) (post := [.int .i64 qq, .int .i64 qt]) (HY.out _ H2.out))
     have xlt := (HCHX.out _ H2.out).2.2.2.2.2.2.2.2
     have ylt := (HCHY.out _ H2.out).2.2.2.2.2.2.2.2
     go_wp2_with (first
      | (refine wpList_load_mid rfl 44 (.tmp 22) rfl w.heap.size 2 rfl [.string pb, .string pi, .string pl, .int .i64 ps] _ RX.out huK rfl HSK4.out ?_)
      | (refine wpList_load_mid rfl 44 (.tmp 24) rfl (w.heap.size + 1) 2 rfl [.string qb, .string qi, .string ql, .int .i64 qs] _ RY.out huK rfl HSK4.out ?_)
      | fail)
     refine (rkeys_any (Ky.mk pb pi pl ps) (Ky.mk qb qi ql qs) _).mono ?_
     rintro e w4 ⟨rfl, hb4⟩
     rw [V3.out]
     have H4 := Lib.hid (H2.out.trans (hb4.mono H2.out.size))
     clear hb4 xlt ylt
     by_cases q3 : v3 = 0
     · subst q3
       have HE : Hid (v = v4) := Lib.hid (by rw [HV2.out]; rfl)
       obtain ⟨x0, x1, x2, x3, x4, x5, x6, x7, xlt⟩ := HCHX.out _ H4.out
       obtain ⟨y0, y1, y2, y3, y4, y5, y6, y7, ylt⟩ := HCHY.out _ H4.out
       go_wp2_with fail
       refine (rnum_any pt qt _).mono ?_
       rintro e w5 ⟨rfl, rfl⟩
       rw [V4.out]
       clear x0 x1 x2 x3 x4 x5 x6 x7 xlt y0 y1 y2 y3 y4 y5 y6 y7 ylt
       go_wp2_with fail
       go_ret
       exact ⟨by rw [HE.out]; rfl, (HBW.out _ H4.out).1⟩
     · have bn : (v3 == 0) = false := by simpa using q3
       have HE : Hid (v = v3) := Lib.hid (by rw [HV2.out, if_pos q3])
       clear q3
       go_wp2_with fail
       go_ret
       exact ⟨by rw [HE.out]; rfl, (HBW.out _ H4.out).1⟩
   · have bn : (v2 == 0) = false := by simpa using q2
     have HE : Hid (v = v2) := Lib.hid (by rw [HV1.out, if_pos q2])
     clear q2
     go_wp2_with fail
     go_ret
     exact ⟨by rw [HE.out]; rfl, (HBW.out _ H2.out).1⟩
 · have bn : (v1 == 0) = false := by simpa using q1
   have HE : Hid (v = v1) := Lib.hid (by rw [HV.out, if_pos q1])
   clear q1
   go_wp2_with fail
   go_ret
   exact ⟨by rw [HE.out]; rfl, (HBW.out _ H2.out).1⟩
theorem tellsRC (w : World) : TellsO kClaim w 95 #[] ordClaim := ⟨fun args W => by kernel_rfl, fun W _ a b ha hb => rordC_any a b W ha hb⟩
set_option maxRecDepth 100000 in
set_option maxHeartbeats 3200000 in
theorem rupC (h : Hs) (L : List (List Value)) (co : ByteArray) (cn : Int) (cb ci cl : ByteArray) (cs cq ct : Int) (w : World) (hn : h.n 8 = L.length) (hn6 : h.n 8 ≤ 10000) (hL : Things kClaim L) (hr : Rd w w.heap.size (h.A 8) L.flatten) :
 Calls Tryz.prog 50 #[.agg h.cells, .agg #[.string co, .int .i64 cn, .string cb, .string ci, .string cl, .int .i64 cs, .int .i64 cq, .int .i64 ct]] w fun e w' => Below w.heap.size w w' ∧ ∃ A n c, n = (upC L (Cl.mk co cn cb ci cl cs cq ct)).length ∧ w'.ownsRow w.heap.size 46 8 (.slice A n c) n (upC L (Cl.mk co cn cb ci cl cs cq ct)).flatten ∧ e = .returned (.agg (h.set 8 A n c).cells) := by
 have HPD : Hid (∀ W, Below w.heap.size w W → Calls Tryz.prog 94 #[.slice (h.A 8) (h.n 8) (h.c 8), .agg #[.string co, .int .i64 cn, .string cb, .string ci, .string cl, .int .i64 cs, .int .i64 cq, .int .i64 ct], .func (.func 95) #[] #[]] W (NewClaim W (dropG ordClaim L (Cl.mk co cn cb ci cl cs cq ct).cells))) := Lib.hid (fun W hW => rdropClaim (h.A 8) (h.n 8) (h.c 8) 95 ordClaim (Cl.mk co cn cb ci cl cs cq ct).cells L W hn (by omega) hL (Cl.fits _) ((hr.below hW).mono hW.size) (tellsRC W))
 have HPU : Hid (∀ W, Below w.heap.size w W → Calls Tryz.prog 96 #[.slice (h.A 8) (h.n 8) (h.c 8), .agg #[.string co, .int .i64 cn, .string cb, .string ci, .string cl, .int .i64 cs, .int .i64 cq, .int .i64 ct], .func (.func 95) #[] #[]] W (NewClaim W (putG ordClaim L (Cl.mk co cn cb ci cl cs cq ct).cells))) := Lib.hid (fun W hW => rputClaim (h.A 8) (h.n 8) (h.c 8) 95 ordClaim (Cl.mk co cn cb ci cl cs cq ct).cells L W hn (by omega) hL (Cl.fits _) ((hr.below hW).mono hW.size) (tellsRC W))
 have HUP : Hid (upC L (Cl.mk co cn cb ci cl cs cq ct) = if cq = 0 then dropG ordClaim L (Cl.mk co cn cb ci cl cs cq ct).cells else putG ordClaim L (Cl.mk co cn cb ci cl cs cq ct).cells) := Lib.hid rfl
 obtain ⟨lx, hlx⟩ : ∃ l, upC L (Cl.mk co cn cb ci cl cs cq ct) = l := ⟨_, rfl⟩
 rw [hlx] at HUP ⊢
 clear hlx
 obtain ⟨m, hmm⟩ : ∃ m, h.n 8 = m := ⟨_, rfl⟩
 rw [hmm] at HPD HPU
 have HMM := Lib.hid hmm
 clear hmm
 obtain ⟨W0, hW0⟩ : ∃ W0, W0 = (((w.alloc (.cells h.cells 37)).alloc (.cells #[.string co, .int .i64 cn, .string cb, .string ci, .string cl, .int .i64 cs, .int .i64 cq, .int .i64 ct] 46)).alloc (.cells #[.slice none 0 0, .slice none 0 0, .slice none 0 0, .slice none 0 0, .slice none 0 0, .slice none 0 0, .slice none 0 0, .slice none 0 0, .slice none 0 0, .slice none 0 0, .slice none 0 0, .slice none 0 0, .slice none 0 0, .slice none 0 0, .int .i64 0] 37)) := ⟨_, rfl⟩
 have hb0 : Below w.heap.size w W0 := by rw [hW0]; exact (((Below.refl _ _).alloc (Nat.le_refl _) _).alloc (by simp <;> omega) _).alloc (by simp <;> omega) _
 have hs0 : W0.heap.size = w.heap.size + 3 := by rw [hW0]; simp
 have HH : Hid (∀ W, Below W0.heap.size W0 W → W.heap[w.heap.size]? = some (.cells h.cells 37 (0, 0))) := Lib.hid (fun W hW => (hW.block _ (by omega)).trans (by
  rw [hW0]
  have hq := heap_alloc_new w (.cells h.cells 37)
  exact (Below.heap_alloc _ _ _ (by simp <;> omega)).trans ((Below.heap_alloc _ _ _ (by simp <;> omega)).trans ((by simpa using hq)))))
 have HX : Hid (∀ W, Below W0.heap.size W0 W → W.heap[w.heap.size + 1]? = some (.cells #[.string co, .int .i64 cn, .string cb, .string ci, .string cl, .int .i64 cs, .int .i64 cq, .int .i64 ct] 46 (0, 0))) := Lib.hid (fun W hW => (hW.block _ (by omega)).trans (by
  rw [hW0]
  have hq := heap_alloc_new (w.alloc (.cells h.cells 37)) (.cells #[.string co, .int .i64 cn, .string cb, .string ci, .string cl, .int .i64 cs, .int .i64 cq, .int .i64 ct] 46)
  exact (Below.heap_alloc _ _ _ (by simp <;> omega)).trans ((by simpa using hq))))
 have HZ : Hid (∀ W, Below W0.heap.size W0 W → W.heap[w.heap.size + 2]? = some (.cells Hs.zero 37 (0, 0))) := Lib.hid (fun W hW => (hW.block _ (by omega)).trans (by
  rw [hW0]
  have hq := heap_alloc_new ((w.alloc (.cells h.cells 37)).alloc (.cells #[.string co, .int .i64 cn, .string cb, .string ci, .string cl, .int .i64 cs, .int .i64 cq, .int .i64 ct] 46)) (.cells #[.slice none 0 0, .slice none 0 0, .slice none 0 0, .slice none 0 0, .slice none 0 0, .slice none 0 0, .slice none 0 0, .slice none 0 0, .slice none 0 0, .slice none 0 0, .slice none 0 0, .slice none 0 0, .slice none 0 0, .slice none 0 0, .int .i64 0] 37)
  exact (by simpa [Hs.zero] using hq)))
 have HBW : Hid (∀ W, Below W0.heap.size W0 W → Below w.heap.size w W ∧ w.heap.size + 3 ≤ W.heap.size) := Lib.hid (fun W hW => ⟨hb0.trans (hW.mono (by omega)), by have := hW.size; omega⟩)
 have huh := Tryz.underlying37
 have HSH : Hid (∀ a : Hs, (Tryz.prog.info? 37).map (·.size) = some a.cells.size) := Lib.hid (fun a => by kernel_rfl)
 have HSQ : Hid ((Tryz.prog.info? 37).map (·.size) = some Hs.zero.size) := Lib.hid (by kernel_rfl)
 have H1C : Hid (∀ a : Hs, a.cells.all (·.oneCell') = true) := Lib.hid (fun a => by simp [Hs.cells, Value.oneCell'])
 have H1Q : Hid (Hs.zero.all (·.oneCell') = true) := Lib.hid (by simp [Hs.zero, Value.oneCell'])
 have huHX := Tryz.underlying46
 have HSHX : Hid ((Tryz.prog.info? 46).map (·.size) = some 8) := Lib.hid (by kernel_rfl)
 have HCHX : Hid (∀ W, Below W0.heap.size W0 W → W.cell? ⟨w.heap.size + 1, 0, none⟩ = some (.string co) ∧ W.cell? ⟨w.heap.size + 1, 1, none⟩ = some (.int .i64 cn) ∧ W.cell? ⟨w.heap.size + 1, 2, none⟩ = some (.string cb) ∧ W.cell? ⟨w.heap.size + 1, 3, none⟩ = some (.string ci) ∧ W.cell? ⟨w.heap.size + 1, 4, none⟩ = some (.string cl) ∧ W.cell? ⟨w.heap.size + 1, 5, none⟩ = some (.int .i64 cs) ∧ W.cell? ⟨w.heap.size + 1, 6, none⟩ = some (.int .i64 cq) ∧ W.cell? ⟨w.heap.size + 1, 7, none⟩ = some (.int .i64 ct) ∧ w.heap.size + 1 < W.heap.size) := Lib.hid (fun W hW => ⟨by rw [cell_of_block (HX.out W hW)]; rfl, by rw [cell_of_block (HX.out W hW)]; rfl, by rw [cell_of_block (HX.out W hW)]; rfl, by rw [cell_of_block (HX.out W hW)]; rfl, by rw [cell_of_block (HX.out W hW)]; rfl, by rw [cell_of_block (HX.out W hW)]; rfl, by rw [cell_of_block (HX.out W hW)]; rfl, by rw [cell_of_block (HX.out W hW)]; rfl, by have := hW.size; omega⟩)
 have HL8 : Hid (∀ W, Below W0.heap.size W0 W → W.cell? ⟨w.heap.size, 8, none⟩ = some (.slice (h.A 8) m (h.c 8)) ∧ w.heap.size < W.heap.size) := Lib.hid (fun W hW => ⟨by rw [cell_of_block (HH.out W hW), ← HMM.out]; rfl, by have := hW.size; omega⟩)
 have hc0 := HCHX.out _ (Below.refl _ _)
 obtain ⟨hx0, hx1, hx2, hx3, hx4, hx5, hx6, hx7, hlthx⟩ := hc0
 obtain ⟨d4, dlt⟩ := HL8.out _ (Below.refl _ _)
 have H0 := Lib.hid (Below.refl W0.heap.size W0)
 clear hb0 hs0 hn hn6 hL hr
 subst hW0
 go_enter Tryz.func50, Tryz.ntmps50
 by_cases h0 : cq = 0
 · subst h0
   have HE : Hid (lx = dropG ordClaim L (Cl.mk co cn cb ci cl cs 0 ct).cells) := Lib.hid (by rw [HUP.out, if_pos rfl])
   go_wp2_with (first
    | (refine wpList_load_row rfl 46 (.tmp 3) rfl (w.heap.size + 1) rfl _ _ _ _ (HX.out _ H0.out) huHX rfl HSHX.out ?_)
    | fail)
   refine (HPD.out _ (HBW.out _ H0.out).1).mono ?_
   rintro e w5 ⟨A5, n5, p5, hl5, rfl, hown5, hb5⟩
   rw [← HE.out] at hl5 hown5
   have H5 := Lib.hid (H0.out.trans (hb5.mono H0.out.size))
   have HO5 := Lib.hid hown5
   have HLE := Lib.hid hl5
   have HS0 := Lib.hid (HBW.out _ H0.out).2
   clear hb5 hown5 hl5 hx0 hx1 hx2 hx3 hx4 hx5 hx6 hx7 hlthx d4 dlt
   obtain ⟨c5, _⟩ := HL8.out _ H5.out
   have f5 : w5.frozen? ⟨w.heap.size, 8, none⟩ = false := frozen_of_block (HH.out _ H5.out)
   have HZ5 := Lib.hid (HZ.out _ H5.out)
   have HH5 := Lib.hid (HH.out _ H5.out)
   have HB5 := Lib.hid (HBW.out _ H5.out)
   have H6 : Hid ((w5.setCell ⟨w.heap.size, 8, none⟩ (.slice A5 n5 p5)).heap[w.heap.size]? = some (.cells (h.set 8 A5 n5 p5).cells 37 (0, 0))) := Lib.hid (by rw [block_setCell HH5.out, h.set_cells _ _ _ 8 (by decide)])
   have HZ6 : Hid ((w5.setCell ⟨w.heap.size, 8, none⟩ (.slice A5 n5 p5)).heap[w.heap.size + 2]? = some (.cells Hs.zero 37 (0, 0))) := Lib.hid ((block_setCell_other (by omega) _).trans HZ5.out)
   have HB6 : Hid (Below w.heap.size w (w5.setCell ⟨w.heap.size, 8, none⟩ (.slice A5 n5 p5))) := Lib.hid (HB5.out.1.setCell (Nat.le_refl _) _)
   have HO6 : Hid ((w5.setCell ⟨w.heap.size, 8, none⟩ (.slice A5 n5 p5)).ownsRow (w.heap.size + 3) 46 8 (.slice A5 n5 p5) n5 lx.flatten) := Lib.hid (own_far HO5.out (show w.heap.size < _ by have := HS0.out; omega) HS0.out)
   go_wp2_with (first
    | (refine wpList_load_row rfl 37 (.tmp 2) rfl w.heap.size rfl _ _ _ _ H6.out huh rfl (HSH.out _) ?_)
    | (refine wpList_store_row rfl 37 (.tmp 4) (.tmp 13) rfl (w.heap.size + 2) (h.set 8 A5 n5 p5).cells rfl rfl _ _ HZ6.out (HSH.out _) rfl (H1C.out _) ?_)
    | fail)
   exact bodyPost_ret (results_cell_row rfl _ _ (w.heap.size + 2) _ _ _ _ rfl (setRow_heap _ _ _ _ _ _ HZ6.out) huh rfl (HSH.out _)) rfl ⟨setRow_below HB6.out (by omega) _, A5, n5, p5, HLE.out, own_rowed HO6.out (by omega) (by omega), rfl⟩
 · have HE : Hid (lx = putG ordClaim L (Cl.mk co cn cb ci cl cs cq ct).cells) := Lib.hid (by rw [HUP.out, if_neg h0])
   have hz0 : (cq == 0) = false := by simpa using h0
   clear h0
   go_wp2_with (first
    | (refine wpList_load_row rfl 46 (.tmp 3) rfl (w.heap.size + 1) rfl _ _ _ _ (HX.out _ H0.out) huHX rfl HSHX.out ?_)
    | fail)
   refine (HPU.out _ (HBW.out _ H0.out).1).mono ?_
   rintro e w5 ⟨A5, n5, p5, hl5, rfl, hown5, hb5⟩
   rw [← HE.out] at hl5 hown5
   have H5 := Lib.hid (H0.out.trans (hb5.mono H0.out.size))
   have HO5 := Lib.hid hown5
   have HLE := Lib.hid hl5
   have HS0 := Lib.hid (HBW.out _ H0.out).2
   clear hb5 hown5 hl5 hx0 hx1 hx2 hx3 hx4 hx5 hx6 hx7 hlthx d4 dlt
   obtain ⟨c5, _⟩ := HL8.out _ H5.out
   have f5 : w5.frozen? ⟨w.heap.size, 8, none⟩ = false := frozen_of_block (HH.out _ H5.out)
   have HZ5 := Lib.hid (HZ.out _ H5.out)
   have HH5 := Lib.hid (HH.out _ H5.out)
   have HB5 := Lib.hid (HBW.out _ H5.out)
   have H6 : Hid ((w5.setCell ⟨w.heap.size, 8, none⟩ (.slice A5 n5 p5)).heap[w.heap.size]? = some (.cells (h.set 8 A5 n5 p5).cells 37 (0, 0))) := Lib.hid (by rw [block_setCell HH5.out, h.set_cells _ _ _ 8 (by decide)])
   have HZ6 : Hid ((w5.setCell ⟨w.heap.size, 8, none⟩ (.slice A5 n5 p5)).heap[w.heap.size + 2]? = some (.cells Hs.zero 37 (0, 0))) := Lib.hid ((block_setCell_other (by omega) _).trans HZ5.out)
   have HB6 : Hid (Below w.heap.size w (w5.setCell ⟨w.heap.size, 8, none⟩ (.slice A5 n5 p5))) := Lib.hid (HB5.out.1.setCell (Nat.le_refl _) _)
   have HO6 : Hid ((w5.setCell ⟨w.heap.size, 8, none⟩ (.slice A5 n5 p5)).ownsRow (w.heap.size + 3) 46 8 (.slice A5 n5 p5) n5 lx.flatten) := Lib.hid (own_far HO5.out (show w.heap.size < _ by have := HS0.out; omega) HS0.out)
   go_wp2_with (first
    | (refine wpList_load_row rfl 37 (.tmp 2) rfl w.heap.size rfl _ _ _ _ H6.out huh rfl (HSH.out _) ?_)
    | (refine wpList_store_row rfl 37 (.tmp 4) (.tmp 19) rfl (w.heap.size + 2) (h.set 8 A5 n5 p5).cells rfl rfl _ _ HZ6.out (HSH.out _) rfl (H1C.out _) ?_)
    | fail)
   exact bodyPost_ret (results_cell_row rfl _ _ (w.heap.size + 2) _ _ _ _ rfl (setRow_heap _ _ _ _ _ _ HZ6.out) huh rfl (HSH.out _)) rfl ⟨setRow_below HB6.out (by omega) _, A5, n5, p5, HLE.out, own_rowed HO6.out (by omega) (by omega), rfl⟩

set_option maxRecDepth 100000 in
set_option maxHeartbeats 3200000 in
theorem rclaim (h : Hs) (L : HL) (co : ByteArray) (cn : Int) (cb ci cl : ByteArray) (cs cq ct : Int) (w : World) (hh : HT h L w) (hn4 : h.n 8 ≤ 9000) :
 Calls Tryz.prog 14 #[.agg h.cells, .agg #[.string co, .int .i64 cn, .string cb, .string ci, .string cl, .int .i64 cs, .int .i64 cq, .int .i64 ct]] w (HouseP (claimE (L 8) (Cl.mk co cn cb ci cl cs cq ct)) (setE 0 L 8 (claimL (L 8) (Cl.mk co cn cb ci cl cs cq ct))) h L w) := by
 have HHT := Lib.hid hh
 obtain ⟨m, hmm⟩ : ∃ m, h.n 8 = m := ⟨_, rfl⟩
 have hn := (hh 8 (by decide)).1
 rw [hmm] at hn
 have HNM := Lib.hid hn
 have HMM := Lib.hid hmm
 have HUP : Hid (∀ (x : Cl) W, Below w.heap.size w W → Calls Tryz.prog 50 #[.agg h.cells, .agg #[.string x.ord, .int .i64 x.line, .string x.bin, .string x.item, .string x.lot, .int .i64 x.st, .int .i64 x.qty, .int .i64 x.task]] W fun e w' => Below W.heap.size W w' ∧ ∃ A n c, n = (upC (L 8) x).length ∧ w'.ownsRow W.heap.size 46 8 (.slice A n c) n (upC (L 8) x).flatten ∧ e = .returned (.agg (h.set 8 A n c).cells)) := Lib.hid (fun x W hW => rupC h (L 8) _ _ _ _ _ _ _ _ W (hh 8 (by decide)).1 (by omega) (hh 8 (by decide)).2.2.1 ((hh.below hW) 8 (by decide)).2.2.2)
 obtain ⟨er, her⟩ : ∃ e, claimE (L 8) (Cl.mk co cn cb ci cl cs cq ct) = e := ⟨_, rfl⟩
 obtain ⟨lx, hlx⟩ : ∃ l, claimL (L 8) (Cl.mk co cn cb ci cl cs cq ct) = l := ⟨_, rfl⟩
 have HNO : Hid (atC (L 8) (Cl.mk co cn cb ci cl cs cq ct) = none → er = (if cq ≠ 0 ∧ 128 ≤ m then 14 else 0) ∧ lx = upC (L 8) (Cl.mk co cn cb ci cl cs cq ct)) := Lib.hid (fun h1 => by rw [← her, ← hlx]; unfold claimE claimL claimC; rw [h1, ← hn]; exact ⟨rfl, rfl⟩)
 have HYES : Hid (∀ i, atC (L 8) (Cl.mk co cn cb ci cl cs cq ct) = some i → er = 0 ∧ lx = upC (L 8) { (Cl.mk co cn cb ci cl cs cq ct) with qty := wrap64 (cq + (clOf ((L 8).getD i zeroClaim)).qty) }) := Lib.hid (fun i h1 => by rw [← her, ← hlx]; unfold claimE claimL claimC gotC; rw [h1]; exact ⟨rfl, rfl⟩)
 have HLX : Hid (er = 0 → Things (kOf 8) lx ∧ lx.length ≤ 1000000) := Lib.hid (fun h0 => ⟨by rw [← hlx]; exact claimL_things (hh 8 (by decide)).2.2.1 _, by rw [← hlx]; have := claimL_len (her.trans h0); omega⟩)
 have HOH : Hid (∀ g, w.heap.size ≤ g → Off g h L) := Lib.hid (fun g hg => hh.offge hg)
 have HAT : Hid (atC (L 8) (Cl.mk co cn cb ci cl cs cq ct) = firstG (isCl (Cl.mk co cn cb ci cl cs cq ct)) (L 8)) := Lib.hid rfl
 rw [her, hlx]
 have hn9 : m ≤ 9000 := by rw [← hmm]; exact hn4
 clear her hlx hmm hn hn4
 have huC := Tryz.underlying46
 have HSC8 : Hid ((Tryz.prog.info? 46).map (·.size) = some 8) := Lib.hid (by kernel_rfl)
 have huK := Tryz.underlying44
 have HSK4 : Hid ((Tryz.prog.info? 44).map (·.size) = some 4) := Lib.hid (by kernel_rfl)
 obtain ⟨W0, hW0⟩ : ∃ W0, W0 = (((w.alloc (.cells h.cells 37)).alloc (.cells #[.string co, .int .i64 cn, .string cb, .string ci, .string cl, .int .i64 cs, .int .i64 cq, .int .i64 ct] 46)).alloc (.cells #[.slice none 0 0, .slice none 0 0, .slice none 0 0, .slice none 0 0, .slice none 0 0, .slice none 0 0, .slice none 0 0, .slice none 0 0, .slice none 0 0, .slice none 0 0, .slice none 0 0, .slice none 0 0, .slice none 0 0, .slice none 0 0, .int .i64 0] 37)) := ⟨_, rfl⟩
 have hb0 : Below w.heap.size w W0 := by rw [hW0]; exact (((Below.refl _ _).alloc (Nat.le_refl _) _).alloc (by simp <;> omega) _).alloc (by simp <;> omega) _
 have hs0 : W0.heap.size = w.heap.size + 3 := by rw [hW0]; simp
 have HH : Hid (∀ W, Below W0.heap.size W0 W → W.heap[w.heap.size]? = some (.cells h.cells 37 (0, 0))) := Lib.hid (fun W hW => (hW.block _ (by omega)).trans (by
  rw [hW0]
  have hq := heap_alloc_new w (.cells h.cells 37)
  exact (Below.heap_alloc _ _ _ (by simp <;> omega)).trans ((Below.heap_alloc _ _ _ (by simp <;> omega)).trans ((by simpa using hq)))))
 have HX : Hid (∀ W, Below W0.heap.size W0 W → W.heap[w.heap.size + 1]? = some (.cells #[.string co, .int .i64 cn, .string cb, .string ci, .string cl, .int .i64 cs, .int .i64 cq, .int .i64 ct] 46 (0, 0))) := Lib.hid (fun W hW => (hW.block _ (by omega)).trans (by
  rw [hW0]
  have hq := heap_alloc_new (w.alloc (.cells h.cells 37)) (.cells #[.string co, .int .i64 cn, .string cb, .string ci, .string cl, .int .i64 cs, .int .i64 cq, .int .i64 ct] 46)
  exact (Below.heap_alloc _ _ _ (by simp <;> omega)).trans ((by simpa using hq))))
 have HZ : Hid (∀ W, Below W0.heap.size W0 W → W.heap[w.heap.size + 2]? = some (.cells Hs.zero 37 (0, 0))) := Lib.hid (fun W hW => (hW.block _ (by omega)).trans (by
  rw [hW0]
  have hq := heap_alloc_new ((w.alloc (.cells h.cells 37)).alloc (.cells #[.string co, .int .i64 cn, .string cb, .string ci, .string cl, .int .i64 cs, .int .i64 cq, .int .i64 ct] 46)) (.cells #[.slice none 0 0, .slice none 0 0, .slice none 0 0, .slice none 0 0, .slice none 0 0, .slice none 0 0, .slice none 0 0, .slice none 0 0, .slice none 0 0, .slice none 0 0, .slice none 0 0, .slice none 0 0, .slice none 0 0, .slice none 0 0, .int .i64 0] 37)
  exact (by simpa [Hs.zero] using hq)))
 have HBW : Hid (∀ W, Below W0.heap.size W0 W → Below w.heap.size w W ∧ w.heap.size + 3 ≤ W.heap.size) := Lib.hid (fun W hW => ⟨hb0.trans (hW.mono (by omega)), by have := hW.size; omega⟩)
 have huh := Tryz.underlying37
 have HSH : Hid (∀ a : Hs, (Tryz.prog.info? 37).map (·.size) = some a.cells.size) := Lib.hid (fun a => by kernel_rfl)
 have HSQ : Hid ((Tryz.prog.info? 37).map (·.size) = some Hs.zero.size) := Lib.hid (by kernel_rfl)
 have H1C : Hid (∀ a : Hs, a.cells.all (·.oneCell') = true) := Lib.hid (fun a => by simp [Hs.cells, Value.oneCell'])
 have H1Q : Hid (Hs.zero.all (·.oneCell') = true) := Lib.hid (by simp [Hs.zero, Value.oneCell'])
 have huHX := Tryz.underlying46
 have HSHX : Hid ((Tryz.prog.info? 46).map (·.size) = some 8) := Lib.hid (by kernel_rfl)
 have HCHX : Hid (∀ W, Below W0.heap.size W0 W → W.cell? ⟨w.heap.size + 1, 0, none⟩ = some (.string co) ∧ W.cell? ⟨w.heap.size + 1, 1, none⟩ = some (.int .i64 cn) ∧ W.cell? ⟨w.heap.size + 1, 2, none⟩ = some (.string cb) ∧ W.cell? ⟨w.heap.size + 1, 3, none⟩ = some (.string ci) ∧ W.cell? ⟨w.heap.size + 1, 4, none⟩ = some (.string cl) ∧ W.cell? ⟨w.heap.size + 1, 5, none⟩ = some (.int .i64 cs) ∧ W.cell? ⟨w.heap.size + 1, 6, none⟩ = some (.int .i64 cq) ∧ W.cell? ⟨w.heap.size + 1, 7, none⟩ = some (.int .i64 ct) ∧ w.heap.size + 1 < W.heap.size) := Lib.hid (fun W hW => ⟨by rw [cell_of_block (HX.out W hW)]; rfl, by rw [cell_of_block (HX.out W hW)]; rfl, by rw [cell_of_block (HX.out W hW)]; rfl, by rw [cell_of_block (HX.out W hW)]; rfl, by rw [cell_of_block (HX.out W hW)]; rfl, by rw [cell_of_block (HX.out W hW)]; rfl, by rw [cell_of_block (HX.out W hW)]; rfl, by rw [cell_of_block (HX.out W hW)]; rfl, by have := hW.size; omega⟩)
 have HL8 : Hid (∀ W, Below W0.heap.size W0 W → W.cell? ⟨w.heap.size, 8, none⟩ = some (.slice (h.A 8) m (h.c 8)) ∧ w.heap.size < W.heap.size) := Lib.hid (fun W hW => ⟨by rw [cell_of_block (HH.out W hW), ← HMM.out]; rfl, by have := hW.size; omega⟩)
 have H0 := Lib.hid (Below.refl W0.heap.size W0)
 clear hb0 hs0 hh
 subst hW0
 go_enter Tryz.func14, Tryz.ntmps14
 go_wp2_with fail
 go_loopw [6] (fun i wr => ∃ k : Nat, k ≤ m ∧ i = .int .i64 (k : Int) ∧ Hid (∀ j (hj : j < (L 8).length), j < k → isCl (Cl.mk co cn cb ci cl cs cq ct) (L 8)[j] = false) ∧ Hid (Below (((w.alloc (.cells h.cells 37)).alloc (.cells #[.string co, .int .i64 cn, .string cb, .string ci, .string cl, .int .i64 cs, .int .i64 cq, .int .i64 ct] 46)).alloc (.cells #[.slice none 0 0, .slice none 0 0, .slice none 0 0, .slice none 0 0, .slice none 0 0, .slice none 0 0, .slice none 0 0, .slice none 0 0, .slice none 0 0, .slice none 0 0, .slice none 0 0, .slice none 0 0, .slice none 0 0, .slice none 0 0, .int .i64 0] 37)).heap.size (((w.alloc (.cells h.cells 37)).alloc (.cells #[.string co, .int .i64 cn, .string cb, .string ci, .string cl, .int .i64 cs, .int .i64 cq, .int .i64 ct] 46)).alloc (.cells #[.slice none 0 0, .slice none 0 0, .slice none 0 0, .slice none 0 0, .slice none 0 0, .slice none 0 0, .slice none 0 0, .slice none 0 0, .slice none 0 0, .slice none 0 0, .slice none 0 0, .slice none 0 0, .slice none 0 0, .slice none 0 0, .int .i64 0] 37)) wr)) (fun i _ => m - (intOf i).toNat)
 case atStart => exact ⟨0, by omega, rfl, Lib.hid (fun j hj h => by omega), H0⟩
 case round =>
  obtain ⟨k, hk, rfl, hno, hw⟩ := hrel
  obtain ⟨d8, dlt⟩ := HL8.out _ hw.out
  by_cases hlt : k < m
  · have hkl : k < (L 8).length := by rw [← HNM.out]; exact hlt
    have HTR : HT h L wr := HHT.out.below (HBW.out _ hw.out).1
    obtain ⟨b, off, hA, hb, r1⟩ := claim_at HTR hkl
    obtain ⟨e8, he8⟩ : ∃ e, (L 8)[k] = e := ⟨_, rfl⟩
    rw [he8] at r1
    obtain ⟨q, hq⟩ : ∃ q, clOf e8 = q := ⟨_, rfl⟩
    rw [hq] at r1
    obtain ⟨yo, yn, yb, yi, yl, ys, yq, yt⟩ := q
    unfold Cl.cells at r1
    simp only [] at r1
    have HCY := Lib.hid hq
    have HIS : Hid (isCl (Cl.mk co cn cb ci cl cs cq ct) e8 = (Pl.eqv yo co && (decide (yn = cn) && ((Pl.eqv yb cb && (Pl.eqv yi ci && (Pl.eqv yl cl && decide (ys = cs)))) && decide (yt = ct))))) := Lib.hid (by unfold isCl; rw [hq])
    have HNX : Hid (isCl (Cl.mk co cn cb ci cl cs cq ct) e8 = false → ∀ j (hj : j < (L 8).length), j < k + 1 → isCl (Cl.mk co cn cb ci cl cs cq ct) (L 8)[j] = false) := Lib.hid (fun h0 j hj hjk => by
     by_cases e : j = k
     · subst e; rw [he8]; exact h0
     · exact hno.out j hj (by omega))
    have HYS : Hid (isCl (Cl.mk co cn cb ci cl cs cq ct) e8 = true → er = 0 ∧ lx = upC (L 8) { (Cl.mk co cn cb ci cl cs cq ct) with qty := wrap64 (cq + yq) }) := Lib.hid (fun h0 => by
     have h1 : atC (L 8) (Cl.mk co cn cb ci cl cs cq ct) = some k := by rw [HAT.out]; exact Pl.firstG_some hkl (fun j hj hjk => hno.out j hj hjk) (by rw [he8]; exact h0)
     have h2 := HYES.out k h1
     rw [List.getD_eq_getElem?_getD, List.getElem?_eq_getElem hkl] at h2
     simp only [Option.getD_some] at h2
     rw [he8, hq] at h2
     exact h2)
    have HRE : Hid (wr.rangeAt b (off + k * 8) [.string yo, .int .i64 yn, .string yb, .string yi, .string yl, .int .i64 ys, .int .i64 yq, .int .i64 yt]) := Lib.hid r1
    have h1 : (0 : Int) ≤ (k : Int) := by omega
    have h2 : (k : Int) < (m : Int) := by omega
    rw [hA] at d8
    clear r1 hq hkl HTR hA he8
    obtain ⟨w1, hw1⟩ : ∃ W, W = wr.alloc (.cells #[.string yo, .int .i64 yn, .string yb, .string yi, .string yl, .int .i64 ys, .int .i64 yq, .int .i64 yt] 46) := ⟨_, rfl⟩
    have H1 : Hid (Below (((w.alloc (.cells h.cells 37)).alloc (.cells #[.string co, .int .i64 cn, .string cb, .string ci, .string cl, .int .i64 cs, .int .i64 cq, .int .i64 ct] 46)).alloc (.cells #[.slice none 0 0, .slice none 0 0, .slice none 0 0, .slice none 0 0, .slice none 0 0, .slice none 0 0, .slice none 0 0, .slice none 0 0, .slice none 0 0, .slice none 0 0, .slice none 0 0, .slice none 0 0, .slice none 0 0, .slice none 0 0, .int .i64 0] 37)).heap.size (((w.alloc (.cells h.cells 37)).alloc (.cells #[.string co, .int .i64 cn, .string cb, .string ci, .string cl, .int .i64 cs, .int .i64 cq, .int .i64 ct] 46)).alloc (.cells #[.slice none 0 0, .slice none 0 0, .slice none 0 0, .slice none 0 0, .slice none 0 0, .slice none 0 0, .slice none 0 0, .slice none 0 0, .slice none 0 0, .slice none 0 0, .slice none 0 0, .slice none 0 0, .slice none 0 0, .slice none 0 0, .int .i64 0] 37)) w1) := Lib.hid (by rw [hw1]; exact hw.out.alloc hw.out.size _)
    have HD1 : Hid (w1.heap[wr.heap.size]? = some (.cells #[.string yo, .int .i64 yn, .string yb, .string yi, .string yl, .int .i64 ys, .int .i64 yq, .int .i64 yt] 46 (0, 0))) := Lib.hid (by rw [hw1]; exact heap_alloc_new _ _)
    have HWR : Hid (w.heap.size + 3 ≤ wr.heap.size) := Lib.hid (HBW.out _ hw.out).2
    have HW1 := Lib.hid hw1
    clear hw1
    go_upto_region 5 with (first
     | (refine wpList_load_mid rfl 46 (.tmp 18) rfl b (off + k * 8) rfl [.string yo, .int .i64 yn, .string yb, .string yi, .string yl, .int .i64 ys, .int .i64 yq, .int .i64 yt] _ HRE.out huC rfl HSC8.out ?_)
     | fail)
    rw [← HW1.out]
    clear d8 dlt hb
    obtain ⟨x0, x1, x2, x3, x4, x5, x6, x7, xlt⟩ := HCHX.out _ H1.out
    have y0 : w1.cell? ⟨wr.heap.size, 0, none⟩ = some (.string yo) := by rw [cell_of_block HD1.out]; rfl
    have y1 : w1.cell? ⟨wr.heap.size, 1, none⟩ = some (.int .i64 yn) := by rw [cell_of_block HD1.out]; rfl
    have y2 : w1.cell? ⟨wr.heap.size, 2, none⟩ = some (.string yb) := by rw [cell_of_block HD1.out]; rfl
    have y3 : w1.cell? ⟨wr.heap.size, 3, none⟩ = some (.string yi) := by rw [cell_of_block HD1.out]; rfl
    have y4 : w1.cell? ⟨wr.heap.size, 4, none⟩ = some (.string yl) := by rw [cell_of_block HD1.out]; rfl
    have y5 : w1.cell? ⟨wr.heap.size, 5, none⟩ = some (.int .i64 ys) := by rw [cell_of_block HD1.out]; rfl
    have y6 : w1.cell? ⟨wr.heap.size, 6, none⟩ = some (.int .i64 yq) := by rw [cell_of_block HD1.out]; rfl
    have y7 : w1.cell? ⟨wr.heap.size, 7, none⟩ = some (.int .i64 yt) := by rw [cell_of_block HD1.out]; rfl
    have ylt := lt_of_block HD1.out
    have RX : Hid (w1.rangeAt (w.heap.size + 1) 2 [.string cb, .string ci, .string cl, .int .i64 cs]) := Lib.hid (range_part (pre := [.string co, .int .i64 cn]) (post := [.int .i64 cq, .int .i64 ct]) (HX.out _ H1.out))
    have RY : Hid (w1.rangeAt wr.heap.size 2 [.string yb, .string yi, .string yl, .int .i64 ys]) := Lib.hid (range_part (pre := [.string yo, .int .i64 yn]) (post := [.int .i64 yq, .int .i64 yt]) HD1.out)
    cases e1 : Pl.eqv yo co with
    | false =>
     have f1 : (yo.toList == co.toList) = false := e1
     have E1 := Lib.hid e1
     clear e1
     have HV : Hid (isCl (Cl.mk co cn cb ci cl cs cq ct) e8 = false) := Lib.hid (by rw [HIS.out, E1.out]; simp)
     go_wp2_with (first
      | (refine BigFrame.wpList_want (by kernel_rfl) (fun K hK => Go.wp_load_mid 44 (.tmp 33) rfl wr.heap.size 2 rfl [.string yb, .string yi, .string yl, .int .i64 ys] _ RY.out huK rfl HSK4.out (hK _ _ ?_)); clear hK K)
      | (refine BigFrame.wpList_want (by kernel_rfl) (fun K hK => Go.wp_load_mid 44 (.tmp 35) rfl (w.heap.size + 1) 2 rfl [.string cb, .string ci, .string cl, .int .i64 cs] _ RX.out huK rfl HSK4.out (hK _ _ ?_)); clear hK K)
      | fail)
     go_roundw
     case rel => exact ⟨k + 1, by omega, by go_num, Lib.hid (HNX.out HV.out), H1⟩
     case measure => simp [intOf]; omega
    | true =>
     have f1 : (yo.toList == co.toList) = true := e1
     have E1 := Lib.hid e1
     clear e1
     by_cases e2 : yn = cn
     · have f2 : (yn == cn) = true := by simpa using e2
       have E2 : Hid (decide (yn = cn) = true) := Lib.hid (by simpa using e2)
       clear e2
       obtain ⟨kb, hkb⟩ : ∃ z, (Pl.eqv yb cb && (Pl.eqv yi ci && (Pl.eqv yl cl && decide (ys = cs)))) = z := ⟨_, rfl⟩
       have heq : ∀ W, (binOp .eql 44 (.agg #[.string yb, .string yi, .string yl, .int .i64 ys]) (.agg #[.string cb, .string ci, .string cl, .int .i64 cs])).run Tryz.prog W = .ok (.bool kb) W := fun W => by
        obtain ⟨z, e1, e2⟩ := eql_struct (P := Tryz.prog) eqKey (by decide) (Ky.mk yb yi yl ys).cells (Ky.mk cb ci cl cs).cells W (Ky.fits _) (Ky.fits _)
        have hz : z = kb := by
         rw [← hkb]
         refine Bool.eq_iff_iff.2 (Iff.trans ⟨fun h => Ky.cells_inj (e2.1 h), fun h => e2.2 (by rw [h])⟩ ?_)
         simp only [Bool.and_eq_true, Pl.eqv_iff, decide_eq_true_iff, Ky.mk.injEq]
        rw [hz] at e1
        exact e1
       have E3 := Lib.hid hkb
       clear hkb
       cases kb with
       | false =>
        have HV : Hid (isCl (Cl.mk co cn cb ci cl cs cq ct) e8 = false) := Lib.hid (by rw [HIS.out, E1.out, E2.out, E3.out]; simp)
        go_wp2_with (first
         | (refine BigFrame.wpList_want (by kernel_rfl) (fun K hK => Go.wp_load_mid 44 (.tmp 33) rfl wr.heap.size 2 rfl [.string yb, .string yi, .string yl, .int .i64 ys] _ RY.out huK rfl HSK4.out (hK _ _ ?_)); clear hK K)
         | (refine BigFrame.wpList_want (by kernel_rfl) (fun K hK => Go.wp_load_mid 44 (.tmp 35) rfl (w.heap.size + 1) 2 rfl [.string cb, .string ci, .string cl, .int .i64 cs] _ RX.out huK rfl HSK4.out (hK _ _ ?_)); clear hK K)
         | fail)
        go_roundw
        case rel => exact ⟨k + 1, by omega, by go_num, Lib.hid (HNX.out HV.out), H1⟩
        case measure => simp [intOf]; omega
       | true =>
        by_cases e4 : yt = ct
        · have f4 : (yt == ct) = true := by simpa using e4
          have E4 : Hid (decide (yt = ct) = true) := Lib.hid (by simpa using e4)
          clear e4
          have HV : Hid (isCl (Cl.mk co cn cb ci cl cs cq ct) e8 = true) := Lib.hid (by rw [HIS.out, E1.out, E2.out, E3.out, E4.out]; rfl)
          have HYE := Lib.hid (HYS.out HV.out)
          obtain ⟨w2, hw2⟩ : ∃ W, W = w1.setCell ⟨wr.heap.size, 6, none⟩ (.int .i64 (wrap64 (yq + cq))) := ⟨_, rfl⟩
          have yfz : w1.frozen? ⟨wr.heap.size, 6, none⟩ = false := frozen_of_block HD1.out
          have HD2 : Hid (w2.heap[wr.heap.size]? = some (.cells #[.string yo, .int .i64 yn, .string yb, .string yi, .string yl, .int .i64 ys, .int .i64 (wrap64 (yq + cq)), .int .i64 yt] 46 (0, 0))) := Lib.hid (by rw [hw2, block_setCell HD1.out]; rfl)
          have H2 : Hid (Below (((w.alloc (.cells h.cells 37)).alloc (.cells #[.string co, .int .i64 cn, .string cb, .string ci, .string cl, .int .i64 cs, .int .i64 cq, .int .i64 ct] 46)).alloc (.cells #[.slice none 0 0, .slice none 0 0, .slice none 0 0, .slice none 0 0, .slice none 0 0, .slice none 0 0, .slice none 0 0, .slice none 0 0, .slice none 0 0, .slice none 0 0, .slice none 0 0, .slice none 0 0, .slice none 0 0, .slice none 0 0, .int .i64 0] 37)).heap.size (((w.alloc (.cells h.cells 37)).alloc (.cells #[.string co, .int .i64 cn, .string cb, .string ci, .string cl, .int .i64 cs, .int .i64 cq, .int .i64 ct] 46)).alloc (.cells #[.slice none 0 0, .slice none 0 0, .slice none 0 0, .slice none 0 0, .slice none 0 0, .slice none 0 0, .slice none 0 0, .slice none 0 0, .slice none 0 0, .slice none 0 0, .slice none 0 0, .slice none 0 0, .slice none 0 0, .slice none 0 0, .int .i64 0] 37)) w2) := Lib.hid (by rw [hw2]; exact H1.out.setCell (by have := HWR.out; simpa using this) _)
          have HW2 := Lib.hid hw2
          clear hw2
          go_upto_region 7 with (first
           | (refine BigFrame.wpList_want (by kernel_rfl) (fun K hK => Go.wp_load_mid 44 (.tmp 33) rfl wr.heap.size 2 rfl [.string yb, .string yi, .string yl, .int .i64 ys] _ RY.out huK rfl HSK4.out (hK _ _ ?_)); clear hK K)
           | (refine BigFrame.wpList_want (by kernel_rfl) (fun K hK => Go.wp_load_mid 44 (.tmp 35) rfl (w.heap.size + 1) 2 rfl [.string cb, .string ci, .string cl, .int .i64 cs] _ RX.out huK rfl HSK4.out (hK _ _ ?_)); clear hK K)
           | fail)
          rw [← HW2.out]
          clear yfz
          clear x0 x1 x2 x3 x4 x5 x6 x7 xlt y0 y1 y2 y3 y4 y5 y6 y7 ylt
          go_wp2_with (first
           | (refine wpList_load_row rfl 37 (.tmp 2) rfl w.heap.size rfl _ _ _ _ (HH.out _ H2.out) huh rfl (HSH.out _) ?_)
           | (refine wpList_load_row rfl 46 (.tmp 7) rfl wr.heap.size rfl _ _ _ _ HD2.out huC rfl HSC8.out ?_)
           | fail)
          have HPU := HUP.out ⟨yo, yn, yb, yi, yl, ys, wrap64 (yq + cq), yt⟩ w2 (HBW.out _ H2.out).1
          have hy2 : upC (L 8) ⟨yo, yn, yb, yi, yl, ys, wrap64 (yq + cq), yt⟩ = lx := by
           rw [HYE.out.2]
           have hs : (clOf e8).same (Cl.mk co cn cb ci cl cs cq ct) := isCl_iff.1 HV.out
           rw [HCY.out] at hs
           obtain ⟨s1, s2, s3, s4⟩ := hs
           unfold Cl.ky at s3
           simp only [Ky.mk.injEq] at s1 s2 s3 s4
           obtain ⟨s5, s6, s7, s8⟩ := s3
           rw [s1, s2, s4, s5, s6, s7, s8, Int.add_comm]
          rw [hy2] at HPU
          have HE : Hid (er = 0) := Lib.hid HYE.out.1
          refine (HPU).mono ?_
          rintro e w5 ⟨hb9, A, n, cc, hl, hown, rfl⟩
          have HZ9 := Lib.hid ((hb9.block _ (lt_of_block (HZ.out _ H2.out))).trans (HZ.out _ H2.out))
          have HB9 := Lib.hid ((HBW.out _ H2.out).1.trans (hb9.mono (HBW.out _ H2.out).1.size))
          have HLX0 := Lib.hid (HLX.out HE.out)
          have HK9 : Hid (PutK 46 8 8 0 lx h (h.set 8 A n cc) w2.heap.size w5) := Lib.hid (.inr ⟨rfl, A, n, cc, hl, hown, rfl⟩)
          have hz9 : (h.set 8 A n cc).z = h.z := rfl
          obtain ⟨g, hg⟩ : ∃ g, h.set 8 A n cc = g := ⟨_, rfl⟩
          rw [hg] at HK9 hz9 ⊢
          have HZG := Lib.hid hz9
          have HSW : Hid (w.heap.size + 3 ≤ w2.heap.size) := Lib.hid (HBW.out _ H2.out).2
          clear hb9 hl hown hg hz9
          go_wp2_with (first
           | (refine wpList_store_row rfl 37 (.tmp 4) (.tmp 54) rfl (w.heap.size + 2) g.cells rfl rfl _ _ HZ9.out (HSH.out _) rfl (H1C.out _) ?_)
           | fail)
          exact bodyPost_ret (results_row_tmp rfl _ _ (w.heap.size + 2) _ _ _ _ rfl (setRow_heap _ _ _ _ _ _ HZ9.out) huh rfl (HSH.out _)) rfl (by
           rw [HE.out]
           have hof : ∀ o, Off o h L → o < w.heap.size + 3 → Off o g (setE 0 L 8 lx) := fun o h1 h2 => HK9.out.off (Nat.lt_of_lt_of_le h2 HSW.out) h1
           refine ⟨setRow_below HB9.out (show w.heap.size ≤ w.heap.size + 2 by omega) _, g, rfl, ?_, HZG.out, fun hc => HK9.out.caps hc, fun o h1 h2 => ?_⟩
           · rw [setX_ok rfl]; exact (HK9.out.htl (by decide) HLX0.out.1 HLX0.out.2 (HHT.out.below HB9.out)).setRowOff (hof _ (HOH.out _ (by omega)) (by omega)) _
           · rw [setX_ok rfl]; exact hof o h1 (by omega))
        · have f4 : (yt == ct) = false := by simpa using e4
          have E4 : Hid (decide (yt = ct) = false) := Lib.hid (by simpa using e4)
          clear e4
          have HV : Hid (isCl (Cl.mk co cn cb ci cl cs cq ct) e8 = false) := Lib.hid (by rw [HIS.out, E1.out, E2.out, E3.out, E4.out]; simp)
          go_wp2_with (first
           | (refine BigFrame.wpList_want (by kernel_rfl) (fun K hK => Go.wp_load_mid 44 (.tmp 33) rfl wr.heap.size 2 rfl [.string yb, .string yi, .string yl, .int .i64 ys] _ RY.out huK rfl HSK4.out (hK _ _ ?_)); clear hK K)
           | (refine BigFrame.wpList_want (by kernel_rfl) (fun K hK => Go.wp_load_mid 44 (.tmp 35) rfl (w.heap.size + 1) 2 rfl [.string cb, .string ci, .string cl, .int .i64 cs] _ RX.out huK rfl HSK4.out (hK _ _ ?_)); clear hK K)
           | fail)
          go_roundw
          case rel => exact ⟨k + 1, by omega, by go_num, Lib.hid (HNX.out HV.out), H1⟩
          case measure => simp [intOf]; omega
     · have f2 : (yn == cn) = false := by simpa using e2
       have E2 : Hid (decide (yn = cn) = false) := Lib.hid (by simpa using e2)
       clear e2
       have HV : Hid (isCl (Cl.mk co cn cb ci cl cs cq ct) e8 = false) := Lib.hid (by rw [HIS.out, E1.out, E2.out]; simp)
       go_wp2_with (first
        | (refine BigFrame.wpList_want (by kernel_rfl) (fun K hK => Go.wp_load_mid 44 (.tmp 33) rfl wr.heap.size 2 rfl [.string yb, .string yi, .string yl, .int .i64 ys] _ RY.out huK rfl HSK4.out (hK _ _ ?_)); clear hK K)
        | (refine BigFrame.wpList_want (by kernel_rfl) (fun K hK => Go.wp_load_mid 44 (.tmp 35) rfl (w.heap.size + 1) 2 rfl [.string cb, .string ci, .string cl, .int .i64 cs] _ RX.out huK rfl HSK4.out (hK _ _ ?_)); clear hK K)
        | fail)
       go_roundw
       case rel => exact ⟨k + 1, by omega, by go_num, Lib.hid (HNX.out HV.out), H1⟩
       case measure => simp [intOf]; omega
  · have hkm : k = m := by omega
    have hnone : atC (L 8) (Cl.mk co cn cb ci cl cs cq ct) = none := by rw [HAT.out]; exact Pl.firstG_none (fun j hj => hno.out j hj (by rw [← HNM.out] at hj; omega))
    have HNN := Lib.hid (HNO.out hnone)
    clear hnone
    have hkm2 : ¬ k < m := hlt
    obtain ⟨x0, x1, x2, x3, x4, x5, x6, x7, xlt⟩ := HCHX.out _ hw.out
    by_cases q1 : cq = 0
    · have b1 : (cq == 0) = true := by simpa using q1
      have HE : Hid (er = 0) := Lib.hid (by rw [HNN.out.1, if_neg (by simp [q1])])
      have HLL : Hid (lx = L 8) := Lib.hid (by
       rw [HNN.out.2]
       unfold upC
       rw [if_pos q1]
       unfold dropG
       rw [findG_atC, clOf_cells, show atC (L 8) (Cl.mk co cn cb ci cl cs cq ct) = none from by rw [HAT.out]; exact Pl.firstG_none (fun j hj => hno.out j hj (by rw [← HNM.out] at hj; omega))])
      clear q1
      go_wp2_with (first
       | (refine wpList_load_row rfl 37 (.tmp 2) rfl w.heap.size rfl _ _ _ _ (HH.out _ hw.out) huh rfl (HSH.out _) ?_)
       | (refine wpList_store_row rfl 37 (.tmp 4) (.tmp 58) rfl (w.heap.size + 2) h.cells rfl rfl _ _ (HZ.out _ hw.out) (HSH.out _) rfl (H1C.out _) ?_)
       | fail)
      exact bodyPost_ret (results_row_tmp rfl _ _ (w.heap.size + 2) _ _ _ _ rfl (setRow_heap _ _ _ _ _ _ (HZ.out _ hw.out)) huh rfl (HSH.out _)) rfl (by
       rw [HE.out]
       have hs : setE 0 L 8 lx = L := by
        funext j
        by_cases e : j = 8
        · subst e; rw [setE_at rfl, HLL.out]
        · rw [setE_off rfl _ e]
       refine ⟨setRow_below (HBW.out _ hw.out).1 (show w.heap.size ≤ w.heap.size + 2 by omega) _, h, rfl, ?_, rfl, fun hc => hc, fun o h1 h2 => ?_⟩
       · rw [setX_ok rfl, hs]; exact (HHT.out.below (HBW.out _ hw.out).1).setRowOff (HOH.out _ (by omega)) _
       · rw [setX_ok rfl, hs]; exact h1)
    · have b1 : (cq == 0) = false := by simpa using q1
      by_cases q2 : 128 ≤ m
      · have HE : Hid (er = 14) := Lib.hid (by rw [HNN.out.1, if_pos ⟨q1, q2⟩])
        clear q1
        go_wp2_with (first
         | (refine wpList_store_row rfl 37 (.tmp 4) (.tmp 63) rfl (w.heap.size + 2) Hs.zero rfl rfl _ _ (HZ.out _ hw.out) HSQ.out rfl H1Q.out ?_)
         | fail)
        exact bodyPost_ret (results_row_tmp rfl _ _ (w.heap.size + 2) _ _ _ _ rfl (setRow_heap _ _ _ _ _ _ (HZ.out _ hw.out)) huh rfl HSQ.out) rfl (by
         have hne : er ≠ 0 := by rw [HE.out]; decide
         rw [HE.out] at hne ⊢
         exact HouseP.bad hne (setRow_below (HBW.out _ hw.out).1 (show w.heap.size ≤ w.heap.size + 2 by omega) Hs.zero))
      · have HE : Hid (er = 0) := Lib.hid (by rw [HNN.out.1, if_neg (fun h => q2 h.2)])
        clear q1
        go_wp2_with (first
         | (refine wpList_load_row rfl 37 (.tmp 2) rfl w.heap.size rfl _ _ _ _ (HH.out _ hw.out) huh rfl (HSH.out _) ?_)
         | (refine wpList_load_row rfl 46 (.tmp 3) rfl (w.heap.size + 1) rfl _ _ _ _ (HX.out _ hw.out) huHX rfl HSHX.out ?_)
         | fail)
        have HPU := HUP.out (Cl.mk co cn cb ci cl cs cq ct) wr (HBW.out _ hw.out).1
        rw [← HNN.out.2] at HPU
        clear x0 x1 x2 x3 x4 x5 x6 x7 xlt
        refine (HPU).mono ?_
        rintro e w5 ⟨hb9, A, n, cc, hl, hown, rfl⟩
        have HZ9 := Lib.hid ((hb9.block _ (lt_of_block (HZ.out _ hw.out))).trans (HZ.out _ hw.out))
        have HB9 := Lib.hid ((HBW.out _ hw.out).1.trans (hb9.mono (HBW.out _ hw.out).1.size))
        have HLX0 := Lib.hid (HLX.out HE.out)
        have HK9 : Hid (PutK 46 8 8 0 lx h (h.set 8 A n cc) wr.heap.size w5) := Lib.hid (.inr ⟨rfl, A, n, cc, hl, hown, rfl⟩)
        have hz9 : (h.set 8 A n cc).z = h.z := rfl
        obtain ⟨g, hg⟩ : ∃ g, h.set 8 A n cc = g := ⟨_, rfl⟩
        rw [hg] at HK9 hz9 ⊢
        have HZG := Lib.hid hz9
        have HSW : Hid (w.heap.size + 3 ≤ wr.heap.size) := Lib.hid (HBW.out _ hw.out).2
        clear hb9 hl hown hg hz9
        go_wp2_with (first
         | (refine wpList_store_row rfl 37 (.tmp 4) (.tmp 66) rfl (w.heap.size + 2) g.cells rfl rfl _ _ HZ9.out (HSH.out _) rfl (H1C.out _) ?_)
         | fail)
        exact bodyPost_ret (results_row_tmp rfl _ _ (w.heap.size + 2) _ _ _ _ rfl (setRow_heap _ _ _ _ _ _ HZ9.out) huh rfl (HSH.out _)) rfl (by
         rw [HE.out]
         have hof : ∀ o, Off o h L → o < w.heap.size + 3 → Off o g (setE 0 L 8 lx) := fun o h1 h2 => HK9.out.off (Nat.lt_of_lt_of_le h2 HSW.out) h1
         refine ⟨setRow_below HB9.out (show w.heap.size ≤ w.heap.size + 2 by omega) _, g, rfl, ?_, HZG.out, fun hc => HK9.out.caps hc, fun o h1 h2 => ?_⟩
         · rw [setX_ok rfl]; exact (HK9.out.htl (by decide) HLX0.out.1 HLX0.out.2 (HHT.out.below HB9.out)).setRowOff (hof _ (HOH.out _ (by omega)) (by omega)) _
         · rw [setX_ok rfl]; exact hof o h1 (by omega))
end Go.Proofs.YtlkmccmbpnbgbaaGreat
