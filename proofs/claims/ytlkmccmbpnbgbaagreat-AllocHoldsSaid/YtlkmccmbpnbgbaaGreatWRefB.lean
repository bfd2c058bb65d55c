/-
  CONTRACT of the rows' FindLot. CONTRACTS of the rows' FindLot and of the references' Day. (By wip/tools/port15.py.) (By wip/tools/merge.py.)
  CONTRACT of the reference's Naive. (By wip/tools/gen_wref.py.)
  (By wip/tools/merge.py.)
-/
import Derived.Test.YtlkmccmbpnbgbaaGreatHHouse
import Derived.Test.YtlkmccmbpnbgbaaGreatOPl
import Derived.Test.YtlkmccmbpnbgbaaGreatRSite
import Derived.Deep.CutRange
import Derived.Test.YtlkmccmbpnbgbaaGreatWRefA
import Derived.BigQuiet
import Derived.Test.YtlkmccmbpnbgbaaGreatHAppK
import Derived.Lib.MinMax
import Derived.Laws.MakeOwn
import Derived.Laws.Rows
namespace Go.Proofs.YtlkmccmbpnbgbaaGreat
set_option linter.unusedVariables false
open Go.RowKit
open Pl (firstG findG)

set_option maxRecDepth 100000 in
set_option maxHeartbeats 1600000 in
theorem rfindl_any (h : Hs) (L : List (List Value)) (s t : ByteArray) (w : World) (hn : h.n 1 = L.length) (hn6 : h.n 1 ≤ 1000000) (hL : Things kLot L) (hr : Rd w w.heap.size (h.A 1) L.flatten) :
 Calls Tryz.prog 157 #[.agg h.cells, .string s, .string t] w fun e w' => e = .returned (.tuple #[.agg (gotL L s t).toArray, .bool (atL L s t).isSome]) ∧ Below w.heap.size w w' := by
 obtain ⟨W0, hW0⟩ : ∃ W0, W0 = (w.alloc (.cells h.cells 37)).alloc (.cells zeroL.toArray 73) := ⟨_, rfl⟩
 have HB0 : Hid (Below w.heap.size w W0) := Lib.hid (by rw [hW0]; exact ((Below.refl _ _).alloc (Nat.le_refl _) _).alloc (by simp) _)
 have HS0 : Hid (W0.heap.size = w.heap.size + 2) := Lib.hid (by rw [hW0]; simp)
 have HHX : Hid (∀ W, Below W0.heap.size W0 W → W.heap[w.heap.size]? = some (.cells h.cells 37 (0, 0))) := Lib.hid (fun W hW => (hW.block _ (by rw [HS0.out]; omega)).trans (by rw [hW0]; exact (Below.heap_alloc _ _ _ (by simp)).trans (heap_alloc_new _ _)))
 have HRX : Hid (∀ W, Below W0.heap.size W0 W → W.heap[w.heap.size + 1]? = some (.cells zeroL.toArray 73 (0, 0))) := Lib.hid (fun W hW => (hW.block _ (by rw [HS0.out]; omega)).trans (by
  rw [hW0]
  have := heap_alloc_new (w.alloc (.cells h.cells 37)) (.cells zeroL.toArray 73)
  simpa using this))
 have HN := Lib.hid hn
 have HL := Lib.hid hL
 have HR := Lib.hid hr
 have hu := Tryz.underlying73
 have HSZ : Hid (∀ y, Fits kLot y → (Tryz.prog.info? 73).map (·.size) = some y.toArray.size) := Lib.hid (fun y hy => by rw [show (Tryz.prog.info? 73).map (·.size) = some 3 from by kernel_rfl, List.size_toArray, hy.length]; rfl)
 have HAT := Lib.hid (atL_first L s t)
 clear hn hL hr
 go_enter Tryz.func157, Tryz.ntmps157
 go_wp2_with fail
 unfold Hs.cells at hW0
 unfold zeroL at hW0
 have HE : Hid (∀ (i : Nat) (W : World), Below W0.heap.size W0 W → W.cell? ⟨w.heap.size, 1, none⟩ = some (.slice (h.A 1) (h.n 1) (h.c 1))) := Lib.hid (fun i W hW => (cell_of_block (HHX.out W hW)).trans rfl)
 obtain ⟨n, hnn⟩ : ∃ n, h.n 1 = n := ⟨_, rfl⟩
 rw [hnn] at HN HE hn6
 have HNN := Lib.hid hnn
 go_loopw [8] (fun i wr => ∃ k : Nat, k ≤ n ∧ i = .int .i64 (k : Int) ∧ Hid (∀ j (hj : j < L.length), j < k → (Pl.eqv (itemL L[j]) s && Pl.eqv (codeL L[j]) t) = false) ∧ Hid (Below W0.heap.size W0 wr)) (fun i _ => n - (intOf i).toNat)
 case atStart => exact ⟨0, by omega, rfl, Lib.hid (fun j hj h => by omega), Lib.hid (by rw [hW0]; exact Below.refl _ _)⟩
 case round =>
  obtain ⟨k, hkn, rfl, hno, hbel⟩ := hrel
  have c0 := HE.out 0 wr hbel.out
  have HBR : Hid (Below w.heap.size w wr) := Lib.hid (HB0.out.trans (hbel.out.mono HB0.out.size))
  have HX1 := Lib.hid (HRX.out wr hbel.out)
  by_cases hlt : k < n
  · have hl : k < L.length := by rw [← HN.out]; exact hlt
    obtain ⟨b, off, hA, hb, hc⟩ := HR.out.thing HL.out (by decide) hl
    rw [hA] at c0 HE
    have fx := HL.out _ (List.getElem_mem hl)
    have r1 := rangeAt_below (hc k hl) hb HBR.out
    rw [show kLot.length = 3 from rfl] at r1
    obtain ⟨x, hx⟩ : ∃ x, L[k] = x := ⟨_, rfl⟩
    rw [hx] at fx r1
    have HXK := Lib.hid hx
    have HF := Lib.hid fx
    have HR1 := Lib.hid r1
    have hxr := lot_cells fx
    obtain ⟨q, hq⟩ : ∃ q, itemL x = q := ⟨_, rfl⟩
    obtain ⟨q2, hq2⟩ : ∃ q, codeL x = q := ⟨_, rfl⟩
    rw [hq, hq2] at hxr
    have d0 : wr.cell? ⟨b, off + k * 3, none⟩ = some (.string q) := by
     have := r1 0 (.string q) (by rw [hxr]; rfl)
     simpa using this
    have d1 : wr.cell? ⟨b, off + k * 3 + 1, none⟩ = some (.string q2) := r1 1 (.string q2) (by rw [hxr]; rfl)
    have HQ := Lib.hid hq
    have HQ2 := Lib.hid hq2
    have h1 : (0 : Int) ≤ (k : Int) := by omega
    have h2 : (k : Int) < (n : Int) := by omega
    have HIX : Hid ((Tryz.prog.info? 73).map (·.size) = some x.length) := Lib.hid (by have := HSZ.out x fx; rwa [List.size_toArray] at this)
    have HOZ : Hid (zeroL.toArray.size = x.toArray.size) := Lib.hid (by rw [List.size_toArray, List.size_toArray, fx.length]; rfl)
    have HOC : Hid (x.toArray.all (·.oneCell') = true) := Lib.hid (all_oneCell_toArray (fits_one fx))
    have HBE : Hid (Below w.heap.size w (wr.setRow (w.heap.size + 1) x.toArray)) := Lib.hid (by
     have hb := HBR.out
     exact ⟨hb.os, hb.tape, hb.output, by simpa using hb.size, fun k hk => (setRow_other _ _ k _ (by omega)).trans (hb.block k hk)⟩)
    clear hc r1 hx fx hb hA hq hxr hq2
    cases he : (Pl.eqv q s && Pl.eqv q2 t) with
    | true =>
     have HG : Hid (atL L s t = some k) := Lib.hid (by
      rw [HAT.out]
      exact Pl.firstG_some hl (fun j hj hjk => hno.out j hj hjk) (by rw [HXK.out, HQ.out, HQ2.out]; exact he))
     have HG2 : Hid (gotL L s t = x) := Lib.hid (by
      unfold gotL; rw [HG.out]; simp only []; rw [List.getD_eq_getElem?_getD, List.getElem?_eq_getElem hl]; exact HXK.out)
     rw [Bool.and_eq_true] at he
     have he1 : (q.toList == s.toList) = true := he.1
     have he2 : (q2.toList == t.toList) = true := he.2
     clear he
     go_wp2_with (first
      | (refine wpList_load_mid rfl 73 (.tmp 37) rfl b (off + k * 3) rfl x _ HR1.out hu rfl HIX.out ?_)
      | (refine wpList_store_row rfl 73 (.tmp 6) (.tmp 38) rfl (w.heap.size + 1) x.toArray rfl rfl _ _ HX1.out (HSZ.out _ HF.out) HOZ.out HOC.out ?_)
      | fail)
     exact bodyPost_ret (results_row_tmp rfl _ _ (w.heap.size + 1) _ _ _ _ rfl (setRow_heap _ _ _ _ _ _ HX1.out) hu rfl (HSZ.out _ HF.out)) rfl ⟨by rw [HG2.out, HG.out]; rfl, HBE.out⟩
    | false =>
     have HNO : Hid (∀ j (hj : j < L.length), j < k + 1 → (Pl.eqv (itemL L[j]) s && Pl.eqv (codeL L[j]) t) = false) := Lib.hid (fun j hj hjk => by
      by_cases e : j = k
      · subst e; rw [HXK.out, HQ.out, HQ2.out]; exact he
      · exact hno.out j hj (by omega))
     have hcase : (q.toList == s.toList) = false ∨ ((q.toList == s.toList) = true ∧ (q2.toList == t.toList) = false) := by
      have e1 : Pl.eqv q s = (q.toList == s.toList) := rfl
      have e2 : Pl.eqv q2 t = (q2.toList == t.toList) := rfl
      rw [e1, e2] at he
      cases h : (q.toList == s.toList) with
      | false => exact .inl rfl
      | true => rw [h, Bool.true_and] at he; exact .inr ⟨rfl, he⟩
     clear he
     rcases hcase with he1 | ⟨he1, he2⟩
     · go_wp2_with fail
       go_roundw
       case rel => exact ⟨k + 1, by omega, by go_num, HNO, hbel⟩
       case measure => simp [intOf]; omega
     · go_wp2_with fail
       go_roundw
       case rel => exact ⟨k + 1, by omega, by go_num, HNO, hbel⟩
       case measure => simp [intOf]; omega
  · have HG : Hid (atL L s t = none) := Lib.hid (by
     rw [HAT.out]
     exact Pl.firstG_none (fun j hj => hno.out j hj (by have := HN.out; omega)))
    have HG2 : Hid (gotL L s t = zeroL) := Lib.hid (by unfold gotL; rw [HG.out])
    have HZO : Hid (zeroL.toArray.all (·.oneCell') = true) := Lib.hid (by simp [zeroL, Value.oneCell'])
    have HBE : Hid (Below w.heap.size w (wr.setRow (w.heap.size + 1) zeroL.toArray)) := Lib.hid (by
     have hb := HBR.out
     exact ⟨hb.os, hb.tape, hb.output, by simpa using hb.size, fun k hk => (setRow_other _ _ k _ (by omega)).trans (hb.block k hk)⟩)
    go_wp2_with (first
     | (refine wpList_store_row rfl 73 (.tmp 6) (.tmp 39) rfl (w.heap.size + 1) zeroL.toArray rfl rfl _ _ HX1.out (HSZ.out _ zeroL_fits) rfl HZO.out ?_)
     | fail)
    exact bodyPost_ret (results_row_tmp rfl _ _ (w.heap.size + 1) _ _ _ _ rfl (setRow_heap _ _ _ _ _ _ HX1.out) hu rfl (HSZ.out _ zeroL_fits)) rfl ⟨by rw [HG2.out, HG.out]; rfl, HBE.out⟩
end Go.Proofs.YtlkmccmbpnbgbaaGreat

namespace Go.Proofs.YtlkmccmbpnbgbaaGreat
set_option linter.unusedVariables false
open Go.RowKit
open Pl (firstG findG putG It)

theorem rfindL {h : Hs} {L : Nat → List (List Value)} {w : World} (hh : HT h L w) (s t : ByteArray) : Calls Tryz.prog 157 #[.agg h.cells, .string s, .string t] w fun e w' => e = .returned (.tuple #[.agg (gotL (L 1) s t).toArray, .bool (atL (L 1) s t).isSome]) ∧ Below w.heap.size w w' :=
 rfindl_any h (L 1) s t w (hh 1 (by decide)).1 (hh 1 (by decide)).2.1 (hh 1 (by decide)).2.2.1 (hh 1 (by decide)).2.2.2
/-- A lot's three cells, an item's fourteen. -/
theorem lot_three {h : Hs} {L : Nat → List (List Value)} {w : World} (hh : HT h L w) (s t : ByteArray) : ∃ a c z, gotL (L 1) s t = [.string a, .string c, .int .i64 z] ∧ expL (gotL (L 1) s t) = z :=
 ⟨_, _, _, lot_cells (gotL_fits (hh 1 (by decide)).2.2.1 s t), rfl⟩

set_option maxRecDepth 100000 in
theorem rday_any (h : Hs) (L : Nat → List (List Value)) (s t : ByteArray) (w : World) (hh : HT h L w) : Calls Tryz.prog 136 #[.agg h.cells, .string s, .string t] w fun e w' => e = .returned (.int .i64 (dayZ (L 1) s t)) ∧ Below w.heap.size w w' := by
 obtain ⟨a, c, z, hg, hz⟩ := lot_three hh s t
 have HFL := Lib.hid (fun W (hW : Below w.heap.size w W) => rfindL (hh.below hW) s t)
 have HDZ : Hid (dayZ (L 1) s t = if z = 0 then 100001 else z) := Lib.hid (by unfold dayZ; rw [hz])
 rw [hg] at HFL
 obtain ⟨b, hb⟩ : ∃ b, (atL (L 1) s t).isSome = b := ⟨_, rfl⟩
 rw [hb] at HFL
 obtain ⟨d, hd⟩ : ∃ d, dayZ (L 1) s t = d := ⟨_, rfl⟩
 rw [hd] at HDZ ⊢
 clear hb hd hg hz hh
 have huh := Tryz.underlying37
 have HSH : Hid (∀ a : Hs, (Tryz.prog.info? 37).map (·.size) = some a.cells.size) := Lib.hid (fun a => by kernel_rfl)
 have HB0 : Hid (Below w.heap.size w (w.alloc (.cells h.cells 37))) := Lib.hid ((Below.refl _ _).alloc (Nat.le_refl _) _)
 have HH0 : Hid ((w.alloc (.cells h.cells 37)).heap[w.heap.size]? = some (.cells h.cells 37 (0, 0))) := Lib.hid (heap_alloc_new _ _)
 go_enter Tryz.func136, Tryz.ntmps136
 go_wp2_with (first
  | (refine wpList_load_row rfl 37 (.tmp 3) rfl w.heap.size rfl _ _ _ _ HH0.out huh rfl (HSH.out _) ?_)
  | fail)
 refine (HFL.out _ HB0.out).mono ?_
 rintro e w1 ⟨rfl, hb1⟩
 have B1 : Hid (Below w.heap.size w (w1.alloc (.cells #[.string a, .string c, .int .i64 z] 73))) := Lib.hid ((HB0.out.trans (hb1.mono HB0.out.size)).alloc (HB0.out.trans (hb1.mono HB0.out.size)).size _)
 clear hb1
 by_cases hz : z = 0
 · have HE : Hid (d = 100001) := Lib.hid (by rw [HDZ.out, if_pos hz])
   subst hz
   go_wp2_with fail
   go_ret
   exact ⟨by rw [HE.out]; rfl, B1.out⟩
 · have HE : Hid (d = z) := Lib.hid (by rw [HDZ.out, if_neg hz])
   go_wp2_with fail
   go_ret
   exact ⟨by rw [HE.out]; rfl, B1.out⟩

end Go.Proofs.YtlkmccmbpnbgbaaGreat

namespace Go.Proofs.YtlkmccmbpnbgbaaGreat
set_option linter.unusedVariables false
open Go.RowKit
open Pl (firstG findG putG It)

set_option maxRecDepth 100000 in
set_option maxHeartbeats 3200000 in
theorem rahead15 (h : Hs) (L : Nat → List (List Value)) (ub ui ul : ByteArray) (us uq uh : Int) (vb vi vl : ByteArray) (vs vq vh : Int) (w : World) (hh : HT h L w) :
 Calls Tryz.prog 104 #[.agg h.cells, .agg #[.string ub, .string ui, .string ul, .int .i64 us, .int .i64 uq, .int .i64 uh], .agg #[.string vb, .string vi, .string vl, .int .i64 vs, .int .i64 vq, .int .i64 vh]] w fun e w' => e = .returned (.bool (aheadQ (L 1) [.string ub, .string ui, .string ul, .int .i64 us, .int .i64 uq, .int .i64 uh] [.string vb, .string vi, .string vl, .int .i64 vs, .int .i64 vq, .int .i64 vh])) ∧ Below w.heap.size w w' := by
 obtain ⟨dx, hdx⟩ : ∃ z, dayZ (L 1) ui ul = z := ⟨_, rfl⟩
 obtain ⟨dy, hdy⟩ : ∃ z, dayZ (L 1) vi vl = z := ⟨_, rfl⟩
 obtain ⟨r, hr⟩ : ∃ r, aheadQ (L 1) [.string ub, .string ui, .string ul, .int .i64 us, .int .i64 uq, .int .i64 uh] [.string vb, .string vi, .string vl, .int .i64 vs, .int .i64 vq, .int .i64 vh] = r := ⟨_, rfl⟩
 have HR : Hid (r = (decide (dx < dy) || (!decide (dy < dx) && (Pl.lt ul vl || (!Pl.lt vl ul && Pl.lt ub vb))))) := Lib.hid (by
  have h1 : aheadQ (L 1) [.string ub, .string ui, .string ul, .int .i64 us, .int .i64 uq, .int .i64 uh] [.string vb, .string vi, .string vl, .int .i64 vs, .int .i64 vq, .int .i64 vh] = (decide (dayZ (L 1) ui ul < dayZ (L 1) vi vl) || (!decide (dayZ (L 1) vi vl < dayZ (L 1) ui ul) && (Pl.lt ul vl || (!Pl.lt vl ul && Pl.lt ub vb)))) := rfl
  rw [← hr, h1, hdx, hdy])
 have Ca : Hid (∀ W, Below w.heap.size w W → Calls Tryz.prog 136 #[.agg h.cells, .string ui, .string ul] W fun e w' => e = .returned (.int .i64 dx) ∧ Below W.heap.size W w') := Lib.hid (fun W hW => by have := rday_any h L ui ul W (hh.below hW); rwa [hdx] at this)
 have Cb : Hid (∀ W, Below w.heap.size w W → Calls Tryz.prog 136 #[.agg h.cells, .string vi, .string vl] W fun e w' => e = .returned (.int .i64 dy) ∧ Below W.heap.size W w') := Lib.hid (fun W hW => by have := rday_any h L vi vl W (hh.below hW); rwa [hdy] at this)
 rw [hr]
 clear hr hdx hdy
 obtain ⟨W0, hW0⟩ : ∃ W0, W0 = (((w.alloc (.cells h.cells 37)).alloc (.cells #[.string ub, .string ui, .string ul, .int .i64 us, .int .i64 uq, .int .i64 uh] 62)).alloc (.cells #[.string vb, .string vi, .string vl, .int .i64 vs, .int .i64 vq, .int .i64 vh] 62)) := ⟨_, rfl⟩
 have hb0 : Below w.heap.size w W0 := by rw [hW0]; exact (((Below.refl _ _).alloc (Nat.le_refl _) _).alloc (by simp <;> omega) _).alloc (by simp <;> omega) _
 have hs0 : W0.heap.size = w.heap.size + 3 := by rw [hW0]; simp
 have HH : Hid (∀ W, Below W0.heap.size W0 W → W.heap[w.heap.size]? = some (.cells h.cells 37 (0, 0))) := Lib.hid (fun W hW => (hW.block _ (by omega)).trans (by
  rw [hW0]
  have hq := heap_alloc_new w (.cells h.cells 37)
  exact (Below.heap_alloc _ _ _ (by simp <;> omega)).trans ((Below.heap_alloc _ _ _ (by simp <;> omega)).trans ((by simpa using hq)))))
 have HA : Hid (∀ W, Below W0.heap.size W0 W → W.heap[w.heap.size + 1]? = some (.cells #[.string ub, .string ui, .string ul, .int .i64 us, .int .i64 uq, .int .i64 uh] 62 (0, 0))) := Lib.hid (fun W hW => (hW.block _ (by omega)).trans (by
  rw [hW0]
  have hq := heap_alloc_new (w.alloc (.cells h.cells 37)) (.cells #[.string ub, .string ui, .string ul, .int .i64 us, .int .i64 uq, .int .i64 uh] 62)
  exact (Below.heap_alloc _ _ _ (by simp <;> omega)).trans ((by simpa using hq))))
 have HB : Hid (∀ W, Below W0.heap.size W0 W → W.heap[w.heap.size + 2]? = some (.cells #[.string vb, .string vi, .string vl, .int .i64 vs, .int .i64 vq, .int .i64 vh] 62 (0, 0))) := Lib.hid (fun W hW => (hW.block _ (by omega)).trans (by
  rw [hW0]
  have hq := heap_alloc_new ((w.alloc (.cells h.cells 37)).alloc (.cells #[.string ub, .string ui, .string ul, .int .i64 us, .int .i64 uq, .int .i64 uh] 62)) (.cells #[.string vb, .string vi, .string vl, .int .i64 vs, .int .i64 vq, .int .i64 vh] 62)
  exact (by simpa using hq)))
 have HBW : Hid (∀ W, Below W0.heap.size W0 W → Below w.heap.size w W ∧ w.heap.size + 3 ≤ W.heap.size) := Lib.hid (fun W hW => ⟨hb0.trans (hW.mono (by omega)), by have := hW.size; omega⟩)
 have huh := Tryz.underlying37
 have HSH : Hid (∀ a : Hs, (Tryz.prog.info? 37).map (·.size) = some a.cells.size) := Lib.hid (fun a => by kernel_rfl)
 have huHA := Tryz.underlying62
 have HSHA : Hid ((Tryz.prog.info? 62).map (·.size) = some 6) := Lib.hid (by kernel_rfl)
 have HCHA : Hid (∀ W, Below W0.heap.size W0 W → W.cell? ⟨w.heap.size + 1, 0, none⟩ = some (.string ub) ∧ W.cell? ⟨w.heap.size + 1, 1, none⟩ = some (.string ui) ∧ W.cell? ⟨w.heap.size + 1, 2, none⟩ = some (.string ul) ∧ W.cell? ⟨w.heap.size + 1, 3, none⟩ = some (.int .i64 us) ∧ W.cell? ⟨w.heap.size + 1, 4, none⟩ = some (.int .i64 uq) ∧ W.cell? ⟨w.heap.size + 1, 5, none⟩ = some (.int .i64 uh) ∧ w.heap.size + 1 < W.heap.size) := Lib.hid (fun W hW => ⟨by rw [cell_of_block (HA.out W hW)]; rfl, by rw [cell_of_block (HA.out W hW)]; rfl, by rw [cell_of_block (HA.out W hW)]; rfl, by rw [cell_of_block (HA.out W hW)]; rfl, by rw [cell_of_block (HA.out W hW)]; rfl, by rw [cell_of_block (HA.out W hW)]; rfl, by have := hW.size; omega⟩)
 have huHB := Tryz.underlying62
 have HSHB : Hid ((Tryz.prog.info? 62).map (·.size) = some 6) := Lib.hid (by kernel_rfl)
 have HCHB : Hid (∀ W, Below W0.heap.size W0 W → W.cell? ⟨w.heap.size + 2, 0, none⟩ = some (.string vb) ∧ W.cell? ⟨w.heap.size + 2, 1, none⟩ = some (.string vi) ∧ W.cell? ⟨w.heap.size + 2, 2, none⟩ = some (.string vl) ∧ W.cell? ⟨w.heap.size + 2, 3, none⟩ = some (.int .i64 vs) ∧ W.cell? ⟨w.heap.size + 2, 4, none⟩ = some (.int .i64 vq) ∧ W.cell? ⟨w.heap.size + 2, 5, none⟩ = some (.int .i64 vh) ∧ w.heap.size + 2 < W.heap.size) := Lib.hid (fun W hW => ⟨by rw [cell_of_block (HB.out W hW)]; rfl, by rw [cell_of_block (HB.out W hW)]; rfl, by rw [cell_of_block (HB.out W hW)]; rfl, by rw [cell_of_block (HB.out W hW)]; rfl, by rw [cell_of_block (HB.out W hW)]; rfl, by rw [cell_of_block (HB.out W hW)]; rfl, by have := hW.size; omega⟩)
 have H0 := Lib.hid (Below.refl W0.heap.size W0)
 clear hb0 hs0 hh
 subst hW0
 go_enter Tryz.func104, Tryz.ntmps104
 obtain ⟨ha0, ha1, ha2, ha3, ha4, ha5, hltha⟩ := HCHA.out _ H0.out
 go_wp2_with (first
  | (refine wpList_load_row rfl 37 (.tmp 3) rfl w.heap.size rfl _ _ _ _ (HH.out _ H0.out) huh rfl (HSH.out _) ?_)
  | fail)
 refine (Ca.out _ (HBW.out _ H0.out).1).mono ?_
 rintro e w1 ⟨rfl, hb1⟩
 have H1 := Lib.hid (H0.out.trans (hb1.mono H0.out.size))
 clear hb1
 clear ha0 ha1 ha2 ha3 ha4 ha5 hltha
 obtain ⟨hb0, hb1, hb2, hb3, hb4, hb5, hlthb⟩ := HCHB.out _ H1.out
 go_wp2_with (first
  | (refine wpList_load_row rfl 37 (.tmp 3) rfl w.heap.size rfl _ _ _ _ (HH.out _ H1.out) huh rfl (HSH.out _) ?_)
  | fail)
 refine (Cb.out _ (HBW.out _ H1.out).1).mono ?_
 rintro e w2 ⟨rfl, hb2⟩
 have H2 := Lib.hid (H1.out.trans (hb2.mono H1.out.size))
 clear hb2
 clear hb0 hb1 hb2 hb3 hb4 hb5 hlthb
 obtain ⟨ha0, ha1, ha2, ha3, ha4, ha5, hltha⟩ := HCHA.out _ H2.out
 obtain ⟨hb0, hb1, hb2, hb3, hb4, hb5, hlthb⟩ := HCHB.out _ H2.out
 by_cases q1 : dx = dy
 ·
  subst q1
  have HR2 : Hid (r = (Pl.lt ul vl || (!Pl.lt vl ul && Pl.lt ub vb))) := Lib.hid (by rw [HR.out]; simp)
  cases he : Pl.eqv ul vl with
  | false =>
   have he2 : (ul.toList != vl.toList) = true := by
    have : (ul.toList == vl.toList) = false := he
    rw [bne, this]; rfl
   have he3 : (ul.toList == vl.toList) = false := he
   have HE : Hid (r = Pl.lt ul vl) := Lib.hid (by
    rw [HR2.out]
    rcases Pl.lt_tri ul vl with h1 | h1 | h1
    · rw [h1]; rfl
    · rw [h1] at he; exact absurd (Pl.eqv_iff vl vl |>.2 rfl) (by rw [he]; simp)
    · rw [h1, Pl.lt_asymm h1]; rfl)
   clear he
   go_wp2_with fail
   go_ret
   exact ⟨by rw [HE.out]; rfl, (HBW.out _ H2.out).1⟩
  | true =>
   have he2 : (ul.toList != vl.toList) = false := by
    have : (ul.toList == vl.toList) = true := he
    rw [bne, this]; rfl
   have he3 : (ul.toList == vl.toList) = true := he
   have HE : Hid (r = Pl.lt ub vb) := Lib.hid (by
    rw [HR2.out, (Pl.eqv_iff ul vl).1 he, Pl.lt_irrefl]; rfl)
   clear he
   go_wp2_with fail
   go_ret
   exact ⟨by rw [HE.out]; rfl, (HBW.out _ H2.out).1⟩
 ·
  have b1 : (dx != dy) = true := by simpa using q1
  have HE : Hid (r = decide (dx < dy)) := Lib.hid (by
   rw [HR.out]
   by_cases h3 : dx < dy
   · simp [h3]
   · have h4 : dy < dx := by omega
     simp [h3, h4])
  clear q1
  go_wp2_with fail
  go_ret
  exact ⟨by rw [HE.out]; rfl, (HBW.out _ H2.out).1⟩
/-- A quant at its place. -/
theorem infoBo : (Tryz.prog.info? 4).map (fun i => (i.zero, i.size, i.bytes)) = some (some (.bool false), 1, 1) := by kernel_rfl
def bo (l : List Bool) : List Value := l.map Value.bool
theorem bo_at (l : List Bool) (j : Nat) (h : j < l.length) : (bo l)[j]? = some (.bool l[j]) := by unfold bo; rw [List.getElem?_map, List.getElem?_eq_getElem h]; rfl
theorem bo_set (l : List Bool) (j : Nat) (b : Bool) : (bo l).toArray.setIfInBounds j (.bool b) = (bo (l.set j b)).toArray := by
 unfold bo; rw [List.setIfInBounds_toArray, List.map_set]
theorem madeBo (w : World) (m : Nat) (hm : m ≤ 1000) : ∃ w1, (Instr.makeSlice 162 (.int .i64 (m : Int)) (.int .i64 (m : Int))).run Tryz.prog w = .ok (.slice (some ⟨w.heap.size, 0, none⟩) m m) w1 ∧
 w1.heap[w.heap.size]? = some (.cells (bo (List.replicate m false)).toArray 4 (0, 0)) ∧ Below w.heap.size w w1 := by
 obtain ⟨i0, hi, hz, hs, hb⟩ := info_parts infoBo
 have hr := run_make (P := Tryz.prog) w 162 4 i0 _ Tryz.underlying162 hi hz .i64 .i64 (m : Int) (m : Int) (by omega) (by omega) (by rw [hb]; omega) (by omega)
 simp only [Int.toNat_natCast] at hr
 refine ⟨_, hr, ?_, (Below.refl _ _).alloc (Nat.le_refl _) _⟩
 rw [hs]
 show (w.heap.push _)[w.heap.size]? = _
 rw [Array.getElem?_push_size]
 have e : madeCells (Value.bool false).cells (m * 1) = (bo (List.replicate m false)).toArray := by
  apply Array.ext'
  rw [show (Value.bool false).cells = #[Value.bool false] from by simp [Value.cells], toList_madeCells_one]
  simp [bo]
 rw [e]
theorem freeB_set {A : List Bool} {j i : Nat} (hj : j < A.length) (hi : i < A.length) : freeB (A.set j true) i = (freeB A i && decide (i ≠ j)) := by
 rw [freeB_at (by rw [List.length_set]; exact hi), freeB_at hi]
 by_cases e : i = j
 · subst e; simp
 · rw [List.getElem_set_ne (fun h => e h.symm)]; simp [e]
set_option maxRecDepth 100000 in
set_option maxHeartbeats 12800000 in
theorem rnaive_any (h : Hs) (L : Nat → List (List Value)) (si it : ByteArray) (n : Int) (w : World) (hh : HT h L w) (hn4 : h.n 4 ≤ 1000) (hwn : Wf n) :
 Calls Tryz.prog 69 #[.agg h.cells, .string si, .string it, .int .i64 n] w fun e w' => Below w.heap.size w w' ∧ ∃ A c, e = .returned (.slice A (pickL L si it n).length c) ∧ Rd w' w'.heap.size A (pickL L si it n).flatten := by
 have HHT := Lib.hid hh
 obtain ⟨m, hmm⟩ : ∃ m, h.n 4 = m := ⟨_, rfl⟩
 have HNM : Hid (m = (L 4).length) := Lib.hid (by rw [← hmm]; exact (hh 4 (by decide)).1)
 rw [hmm] at hn4
 have HMM := Lib.hid hmm
 obtain ⟨ah, hah⟩ : ∃ ah : Nat → Nat → Bool, ah = fun i j => aheadQ (L 1) (qA (L 4) i) (qA (L 4) j) := ⟨_, rfl⟩
 obtain ⟨my, hmy⟩ : ∃ my : Nat → Bool, my = fun i => mayB (L 2) (L 3) si it (qA (L 4) i) := ⟨_, rfl⟩
 obtain ⟨fr, hfr⟩ : ∃ fr : Nat → Int, fr = fun i => frQ (qA (L 4) i) := ⟨_, rfl⟩
 obtain ⟨tk, htk⟩ : ∃ tk : Nat × Int → List Value, tk = takeQ (L 4) := ⟨_, rfl⟩
 obtain ⟨full, hfull⟩ : ∃ l, pickL L si it n = l := ⟨_, rfl⟩
 have HFU : Hid (full = (Pl.cutN fr (Pl.ordN ah m m my) n).map tk) := Lib.hid (by rw [← hfull, hah, hmy, hfr, htk, HNM.out]; rfl)
 have HAH : Hid (∀ i j, ah i j = aheadQ (L 1) (qA (L 4) i) (qA (L 4) j)) := Lib.hid (fun i j => by rw [hah])
 have HMY : Hid (∀ i, my i = mayB (L 2) (L 3) si it (qA (L 4) i)) := Lib.hid (fun i => by rw [hmy])
 have HFRE : Hid (∀ i, fr i = frQ (qA (L 4) i)) := Lib.hid (fun i => by rw [hfr])
 have HFP : Hid (∀ i, my i = true → 0 < fr i) := Lib.hid (fun i hi => by rw [hmy] at hi; rw [hfr]; simp only [mayB, Bool.and_eq_true, decide_eq_true_eq] at hi; exact hi.2.2.2.2.2.2)
 have HTK : Hid (∀ i z, tk (i, z) = takeQ (L 4) (i, z)) := Lib.hid (fun i z => by rw [htk])
 have HTF : Hid (∀ q, Fits kTake (tk q)) := Lib.hid (fun q => by rw [htk]; exact takeQ_fits _ q)
 rw [hfull]
 have HWN := Lib.hid hwn
 clear hfull hah hmy hfr htk hmm hwn
 have HSHL : Hid (∀ a : Hs, (Tryz.prog.info? 37).map (·.size) = some a.cells.toList.length) := Lib.hid (fun a => by kernel_rfl)
 have HSQ6 : Hid ((Tryz.prog.info? 62).map (·.size) = some 6) := Lib.hid (by kernel_rfl)
 have huq := Tryz.underlying62
 have HSK4 : Hid ((Tryz.prog.info? 44).map (·.size) = some 4) := Lib.hid (by kernel_rfl)
 have huk := Tryz.underlying44
 obtain ⟨i0, z0, hi0, hz0, hz1, hz2, hz3⟩ := info_thing (P := Tryz.prog) (T := 135) (sz := 5) (by kernel_rfl)
 have hby : ∀ x, x ≤ 1000000 → x * i0.bytes ≤ 140737488355328 := fun x hx => Nat.le_trans (Nat.mul_le_mul hx hz3) (by decide)
 have HBY := Lib.hid hby
 clear hby
 obtain ⟨W0, hW0⟩ : ∃ W0, W0 = (w.alloc (.cells h.cells 37)) := ⟨_, rfl⟩
 have hb0 : Below w.heap.size w W0 := by rw [hW0]; exact (Below.refl _ _).alloc (Nat.le_refl _) _
 have hs0 : W0.heap.size = w.heap.size + 1 := by rw [hW0]; simp
 have HH : Hid (∀ W, Below W0.heap.size W0 W → W.heap[w.heap.size]? = some (.cells h.cells 37 (0, 0))) := Lib.hid (fun W hW => (hW.block _ (by omega)).trans (by
  rw [hW0]
  have hq := heap_alloc_new w (.cells h.cells 37)
  exact (by simpa using hq)))
 have HBW : Hid (∀ W, Below W0.heap.size W0 W → Below w.heap.size w W ∧ w.heap.size + 1 ≤ W.heap.size) := Lib.hid (fun W hW => ⟨hb0.trans (hW.mono (by omega)), by have := hW.size; omega⟩)
 have huh := Tryz.underlying37
 have HSH : Hid (∀ a : Hs, (Tryz.prog.info? 37).map (·.size) = some a.cells.size) := Lib.hid (fun a => by kernel_rfl)
 have HL4 : Hid (∀ W, Below W0.heap.size W0 W → W.cell? ⟨w.heap.size, 4, none⟩ = some (.slice (h.A 4) m (h.c 4)) ∧ w.heap.size < W.heap.size) := Lib.hid (fun W hW => ⟨by rw [cell_of_block (HH.out W hW), ← HMM.out]; rfl, by have := hW.size; omega⟩)
 have H0 := Lib.hid (Below.refl W0.heap.size W0)
 clear hb0 hs0 hh
 subst hW0
 go_enter Tryz.func69, Tryz.ntmps69
 obtain ⟨d4, dlt⟩ := HL4.out _ H0.out
 obtain ⟨w3, hmk, hg3, hb3⟩ := madeBo (w.alloc (.cells h.cells 37)) m hn4
 have H3 := Lib.hid (H0.out.trans (hb3.mono H0.out.size))
 obtain ⟨g, hg⟩ : ∃ g, g = (w.alloc (.cells h.cells 37)).heap.size := ⟨_, rfl⟩
 have HGW : Hid ((w.alloc (.cells h.cells 37)).heap.size ≤ g) := Lib.hid (by rw [hg]; exact H0.out.size)
 rw [← hg] at hg3 hmk
 have HG3 := Lib.hid hg3
 obtain ⟨B0, hB0⟩ : ∃ b, b = w3.heap.size := ⟨_, rfl⟩
 have HGB : Hid (g < B0) := Lib.hid (by rw [hB0]; exact lt_of_block hg3)
 have HB0 := Lib.hid hB0
 clear hb3 hg3 hg hB0
 go_wp2_with fail
 clear d4 dlt hmk
 go_loopw [3, 10] (fun q v wr => ∃ (A : List Bool) (D : List (List Value)) (qz : Int) (mo c' : Nat) (A' : Option Addr), q = .int .i64 qz ∧ v = .slice A' mo c' ∧ Hid (A.length = m) ∧ Hid (full = D ++ (Pl.cutN fr (Pl.ordN ah m m (fun i => freeB A i && my i)) qz).map tk) ∧ Hid (Things kTake D) ∧ Hid (mo = D.length) ∧ Hid (D.length + Pl.cntN m (fun i => freeB A i && my i) ≤ m) ∧ Hid (qz ≤ 9223372036854775807) ∧ Hid (wr.heap[g]? = some (.cells (bo A).toArray 4 (0, 0))) ∧ Hid (wr.ownsRow B0 135 5 (.slice A' mo c') mo D.flatten) ∧ Hid (Below (w.alloc (.cells h.cells 37)).heap.size (w.alloc (.cells h.cells 37)) wr) ∧ Hid (B0 ≤ wr.heap.size)) (fun q _ _ => (intOf q).toNat)
 case atStart =>
  have hcg : ∀ i, i < m → (freeB (List.replicate m false) i && my i) = my i := fun i hi => by rw [freeB_at (by simpa using hi)]; simp
  refine ⟨List.replicate m false, [], n, 0, 0, none, rfl, rfl, Lib.hid (by simp), Lib.hid ?_, Lib.hid (fun e he => by simp at he), Lib.hid rfl, Lib.hid ?_, Lib.hid HWN.out.2, HG3, Lib.hid (World.ownsRow_nil _ _ _ _), H3, Lib.hid (by rw [HB0.out]; exact Nat.le_refl _)⟩
  · rw [Pl.ordN_congr m hcg, HFU.out]; rfl
  · have := Pl.cntN_le m (fun i => freeB (List.replicate m false) i && my i)
    simpa using this
 case round =>
  obtain ⟨A, D, qz, mo, c', A', rfl, rfl, hAl, hFD, hTD, hmo, hcn, hqz, hAg, hown, hw, hBw⟩ := hrel
  by_cases hq0 : 0 < qz
  case neg =>
   have hfin : full = D := by rw [hFD.out, Pl.cutN_done _ _ (by omega)]; simp
   have HFIN := Lib.hid hfin
   clear hfin
   have hq1 : decide (0 < qz) = false := decide_eq_false hq0
   have hq2 : qz ≤ 0 := by omega
   clear hq0
   go_wp2_with fail
   go_ret
   refine ⟨(HBW.out _ hw.out).1, A', c', ?_, ?_⟩
   · rw [HFIN.out, ← hmo.out]; rfl
   · rw [HFIN.out]; exact Rd.of_own hown.out
  have hq1 : decide (0 < qz) = true := decide_eq_true hq0
  have HQ0 := Lib.hid hq0
  go_wp2_with fail
  clear hq1
  obtain ⟨wv, hwv⟩ : ∃ wv, wv = wr := ⟨_, rfl⟩
  have HWV := Lib.hid hwv
  clear hwv
  go_loopw [11, 12] (fun v i wx => ∃ q : Nat, q ≤ m ∧ v = .int .i64 (Pl.atI (Pl.best ah (fun i => freeB A i && my i) q)) ∧ i = .int .i64 (q : Int) ∧ Hid (Below wv.heap.size wv wx)) (fun _ i _ => m - (intOf i).toNat)
  case atStart => exact ⟨0, by omega, rfl, rfl, Lib.hid (by rw [HWV.out]; exact Below.refl _ _)⟩
  case round =>
   obtain ⟨q, hq, rfl, rfl, hx⟩ := hrel
   have hwq := hw.out
   rw [← HWV.out] at hwq
   have hgq := hAg.out
   rw [← HWV.out] at hgq
   have HWX : Hid (Below (w.alloc (.cells h.cells 37)).heap.size (w.alloc (.cells h.cells 37)) wr) := Lib.hid (hwq.trans (hx.out.mono hwq.size))
   have HGX : Hid (wr.heap[g]? = some (.cells (bo A).toArray 4 (0, 0))) := Lib.hid ((hx.out.block _ (lt_of_block hgq)).trans hgq)
   have howq := hown.out
   rw [← HWV.out] at howq
   have HOX := Lib.hid (own_below howq hx.out)
   have hbq := hBw.out
   rw [← HWV.out] at hbq
   have HBX : Hid (B0 ≤ wr.heap.size) := Lib.hid (Nat.le_trans hbq hx.out.size)
   clear hwq hgq howq hbq
   obtain ⟨d4, dlt⟩ := HL4.out _ HWX.out
   obtain ⟨a, ha⟩ : ∃ a, Pl.best ah (fun i => freeB A i && my i) q = a := ⟨_, rfl⟩
   rw [ha]
   have HQ := Lib.hid ha
   obtain ⟨za, hza⟩ : ∃ z, Pl.atI a = z := ⟨_, rfl⟩
   rw [hza]
   have HZA := Lib.hid hza
   clear ha hza
   by_cases hqt : q < m
   ·
    have hql : q < A.length := by rw [hAl.out]; exact hqt
    have HTR : Hid (HT h L wr) := Lib.hid (HHT.out.below (HBW.out _ HWX.out).1)
    have hkl : q < (L 4).length := by rw [← HNM.out]; exact hqt
    obtain ⟨b, off, hA, hb, r1⟩ := quant_atW HTR.out hkl
    have hqc := qA_cells HTR.out hkl
    obtain ⟨x, hx1⟩ : ∃ x, qnOf (qA (L 4) q) = x := ⟨_, rfl⟩
    rw [hx1] at r1 hqc
    obtain ⟨qb, qi, ql, qs, qq, qh⟩ := x
    unfold Qn.cells at r1 hqc
    have HXE := Lib.hid hqc
    obtain ⟨fq, hfq⟩ : ∃ z, A[q] = z := ⟨_, rfl⟩
    have HFQ : Hid (freeB A q = !fq) := Lib.hid (by rw [freeB_at hql, hfq])
    obtain ⟨v, hv⟩ : ∃ v, my q = v := ⟨_, rfl⟩
    have HV := Lib.hid hv
    have CM : Hid (∀ W, HT h L W → Calls Tryz.prog 103 #[.agg h.cells, .agg #[.string qb, .string qi, .string ql, .int .i64 qs, .int .i64 qq, .int .i64 qh], .string si, .string it] W fun e w' => e = .returned (.bool v) ∧ Below W.heap.size W w') := Lib.hid (by
     have e9 : mayB (L 2) (L 3) si it [.string qb, .string qi, .string ql, .int .i64 qs, .int .i64 qq, .int .i64 qh] = v := by rw [← HXE.out, ← HMY.out]; exact HV.out
     exact fun W hW => by have h9 := rmay_any h L qb qi ql qs qq qh si it W hW; rw [e9] at h9; exact h9)
    have GQ : Hid (∀ X : BW wr, X.W.cell? ⟨g, q, none⟩ = some (.bool fq) ∧ g < X.W.heap.size) := Lib.hid (fun X => by
     have h3 := (X.h.block _ (lt_of_block HGX.out)).trans HGX.out
     exact ⟨by rw [cell_of_block h3, List.getElem?_toArray, bo_at A q hql, hfq], lt_of_block h3⟩)
    have i1 : (0 : Int) ≤ (q : Int) := by omega
    have i2 : (q : Int) < (m : Int) := by omega
    rw [hA] at d4
    have HAB := Lib.hid hA
    have HBL := Lib.hid hb
    have HR1 := Lib.hid r1
    clear hA hb r1 hx1 hfq hql hqc hv hkl
    cases fq with
    | true =>
     have gq : wr.cell? ⟨g, q, none⟩ = some (.bool true) := (GQ.out ⟨wr, Below.refl _ _⟩).1
     have gl : g < wr.heap.size := (GQ.out ⟨wr, Below.refl _ _⟩).2
     have HVN : Hid (Pl.best ah (fun i => freeB A i && my i) (q + 1) = a) := Lib.hid ((Pl.best_no (by rw [HFQ.out]; rfl)).trans HQ.out)
     go_wp2_with fail
     go_quiet (fail)
     go_wp2_with fail
     go_roundw
     case rel => exact ⟨q + 1, by omega, by rw [HVN.out, HZA.out], by go_num, Lib.hid (below_drewN hx.out _)⟩
     case measure => simp [intOf]; omega
    | false =>
     have x4 : ∀ X : BW wr, X.W.cell? ⟨w.heap.size, 4, none⟩ = some (.slice (some ⟨b, off, none⟩) m (h.c 4)) := fun X => by have := (HL4.out _ (HWX.out.trans (X.h.mono HWX.out.size))).1; rwa [HAB.out] at this
     have xg : ∀ X : BW wr, X.W.cell? ⟨g, q, none⟩ = some (.bool false) := fun X => (GQ.out X).1
     have RH : Hid (∀ X : BW wr, X.W.heap[w.heap.size]? = some (.cells h.cells 37 (0, 0))) := Lib.hid (fun X => HH.out _ (HWX.out.trans (X.h.mono HWX.out.size)))
     have RX : Hid (∀ X : BW wr, X.W.rangeAt b (off + q * 6) [.string qb, .string qi, .string ql, .int .i64 qs, .int .i64 qq, .int .i64 qh]) := Lib.hid (fun X => rangeAt_below HR1.out HBL.out X.h)
     have CX : Hid (∀ X : BW wr, Calls Tryz.prog 103 #[.agg h.cells, .agg #[.string qb, .string qi, .string ql, .int .i64 qs, .int .i64 qq, .int .i64 qh], .string si, .string it] X.W fun e w' => e = .returned (.bool v) ∧ Below X.W.heap.size X.W w') := Lib.hid (fun X => CM.out _ (HTR.out.below X.h))
     clear CM
     cases v with
     | false =>
      have HVN : Hid (Pl.best ah (fun i => freeB A i && my i) (q + 1) = a) := Lib.hid ((Pl.best_no (by rw [HV.out]; simp)).trans HQ.out)
      go_wp2_with fail
      clear d4 dlt
      refine wp_grow wr (by kernel_rfl) (by kernel_rfl) (Below.refl _ _) ?_
      simp only []
      iterate 6 go_big_quiet_step (fail)
      refine BigFrame.wpQuiet_want (by kernel_rfl) (fun K hK => quiet_load_mid 37 (.tmp 4) rfl w.heap.size 0 rfl h.cells.toList _ (fun W ⟨X, hX⟩ => by rw [hX]; exact range_row0 (RH.out X)) huh rfl (HSHL.out _) (hK _ ?_))
      simp only [ax]
      iterate 4 go_big_quiet_step (fail)
      refine BigFrame.wpQuiet_want (by kernel_rfl) (fun K hK => quiet_load_mid 62 (.tmp 38) rfl b (off + q * 6) rfl [.string qb, .string qi, .string ql, .int .i64 qs, .int .i64 qq, .int .i64 qh] _ (fun W ⟨X, hX⟩ => by rw [hX]; exact RX.out X) huq rfl HSQ6.out (hK _ ?_))
      simp only [ax]
      iterate 2 go_big_quiet_step (fail)
      go_big_quiet_step (exact grow_call _ (CX.out _))
      iterate 19 go_big_quiet_step (fail)
      refine wpQuiet_nil ?_
      intro X
      clear x4 xg
      obtain ⟨w6, hb6⟩ := X
      simp only []
      have H6 := Lib.hid (hx.out.trans (hb6.mono hx.out.size))
      clear hb6 CX RX GQ RH
      go_wp2_with fail
      go_roundw
      case rel => exact ⟨q + 1, by omega, by rw [HVN.out, HZA.out], by go_num, H6⟩
      case measure => simp [intOf]; omega
     | true =>
      have HPT : Hid ((freeB A q && my q) = true) := Lib.hid (by rw [HFQ.out, HV.out]; rfl)
      cases a with
      | none =>
       obtain rfl : za = -1 := by rw [← HZA.out]; rfl
       have HVN : Hid (Pl.best ah (fun i => freeB A i && my i) (q + 1) = some q) := Lib.hid (Pl.best_first HPT.out HQ.out)
       go_wp2_with fail
       clear d4 dlt
       refine wp_grow wr (by kernel_rfl) (by kernel_rfl) (Below.refl _ _) ?_
       simp only []
       iterate 6 go_big_quiet_step (fail)
       refine BigFrame.wpQuiet_want (by kernel_rfl) (fun K hK => quiet_load_mid 37 (.tmp 4) rfl w.heap.size 0 rfl h.cells.toList _ (fun W ⟨X, hX⟩ => by rw [hX]; exact range_row0 (RH.out X)) huh rfl (HSHL.out _) (hK _ ?_))
       simp only [ax]
       iterate 4 go_big_quiet_step (fail)
       refine BigFrame.wpQuiet_want (by kernel_rfl) (fun K hK => quiet_load_mid 62 (.tmp 38) rfl b (off + q * 6) rfl [.string qb, .string qi, .string ql, .int .i64 qs, .int .i64 qq, .int .i64 qh] _ (fun W ⟨X, hX⟩ => by rw [hX]; exact RX.out X) huq rfl HSQ6.out (hK _ ?_))
       simp only [ax]
       iterate 2 go_big_quiet_step (fail)
       go_big_quiet_step (exact grow_call _ (CX.out _))
       iterate 19 go_big_quiet_step (fail)
       refine wpQuiet_nil ?_
       intro X
       clear x4 xg
       obtain ⟨w6, hb6⟩ := X
       simp only []
       have H6 := Lib.hid (hx.out.trans (hb6.mono hx.out.size))
       clear hb6 CX RX GQ RH
       go_wp2_with fail
       go_roundw
       case rel => exact ⟨q + 1, by omega, by rw [HVN.out]; rfl, by go_num, H6⟩
       case measure => simp [intOf]; omega
      | some j =>
       obtain rfl : za = (j : Int) := by rw [← HZA.out]; rfl
       have hjk := (Pl.best_lt HQ.out).1
       have hj1 : (0 : Int) ≤ (j : Int) := by omega
       have hj2 : (j : Int) < (m : Int) := by omega
       have hj3 : decide ((j : Int) < 0) = false := by simp
       have hjl : j < (L 4).length := by rw [← HNM.out]; omega
       obtain ⟨b2, off2, hA2, hb2, r2⟩ := quant_atW HTR.out hjl
       have hqj := qA_cells HTR.out hjl
       rw [HAB.out] at hA2
       have hA3 : b = b2 ∧ off = off2 := by injection hA2 with h3; injection h3 with h4 h5 _; exact ⟨h4, h5⟩
       obtain ⟨rfl, rfl⟩ := hA3
       clear hA2 hb2
       obtain ⟨y, hy⟩ : ∃ y, qnOf (qA (L 4) j) = y := ⟨_, rfl⟩
       rw [hy] at r2 hqj
       obtain ⟨pb, pi, pl, ps, pq, ph⟩ := y
       unfold Qn.cells at r2 hqj
       obtain ⟨nb, hnb⟩ : ∃ z, ah q j = z := ⟨_, rfl⟩
       have HAN := Lib.hid hnb
       have HYE := Lib.hid hqj
       have CY : Hid (∀ X : BW wr, Calls Tryz.prog 104 #[.agg h.cells, .agg #[.string qb, .string qi, .string ql, .int .i64 qs, .int .i64 qq, .int .i64 qh], .agg #[.string pb, .string pi, .string pl, .int .i64 ps, .int .i64 pq, .int .i64 ph]] X.W fun e w' => e = .returned (.bool nb) ∧ Below X.W.heap.size X.W w') := Lib.hid (by
        have e9 : aheadQ (L 1) [.string qb, .string qi, .string ql, .int .i64 qs, .int .i64 qq, .int .i64 qh] [.string pb, .string pi, .string pl, .int .i64 ps, .int .i64 pq, .int .i64 ph] = nb := by rw [← HXE.out, ← HYE.out, ← HAH.out]; exact HAN.out
        exact fun X => by have h9 := rahead15 h L qb qi ql qs qq qh pb pi pl ps pq ph X.W (HTR.out.below X.h); rw [e9] at h9; exact h9)
       have RY : Hid (∀ X : BW wr, X.W.rangeAt b (off + j * 6) [.string pb, .string pi, .string pl, .int .i64 ps, .int .i64 pq, .int .i64 ph]) := Lib.hid (fun X => rangeAt_below r2 HBL.out X.h)
       clear r2 hnb hy hqj hjl
       go_wp2_with fail
       clear d4 dlt
       refine wp_grow wr (by kernel_rfl) (by kernel_rfl) (Below.refl _ _) ?_
       simp only []
       iterate 6 go_big_quiet_step (fail)
       refine BigFrame.wpQuiet_want (by kernel_rfl) (fun K hK => quiet_load_mid 37 (.tmp 4) rfl w.heap.size 0 rfl h.cells.toList _ (fun W ⟨X, hX⟩ => by rw [hX]; exact range_row0 (RH.out X)) huh rfl (HSHL.out _) (hK _ ?_))
       simp only [ax]
       iterate 4 go_big_quiet_step (fail)
       refine BigFrame.wpQuiet_want (by kernel_rfl) (fun K hK => quiet_load_mid 62 (.tmp 38) rfl b (off + q * 6) rfl [.string qb, .string qi, .string ql, .int .i64 qs, .int .i64 qq, .int .i64 qh] _ (fun W ⟨X, hX⟩ => by rw [hX]; exact RX.out X) huq rfl HSQ6.out (hK _ ?_))
       simp only [ax]
       iterate 2 go_big_quiet_step (fail)
       go_big_quiet_step (exact grow_call _ (CX.out _))
       iterate 5 go_big_quiet_step (fail)
       refine BigFrame.wpQuiet_want (by kernel_rfl) (fun K hK => quiet_load_mid 37 (.tmp 4) rfl w.heap.size 0 rfl h.cells.toList _ (fun W ⟨X, hX⟩ => by rw [hX]; exact range_row0 (RH.out X)) huh rfl (HSHL.out _) (hK _ ?_))
       simp only [ax]
       iterate 4 go_big_quiet_step (fail)
       refine BigFrame.wpQuiet_want (by kernel_rfl) (fun K hK => quiet_load_mid 62 (.tmp 52) rfl b (off + q * 6) rfl [.string qb, .string qi, .string ql, .int .i64 qs, .int .i64 qq, .int .i64 qh] _ (fun W ⟨X, hX⟩ => by rw [hX]; exact RX.out X) huq rfl HSQ6.out (hK _ ?_))
       simp only [ax]
       iterate 4 go_big_quiet_step (fail)
       refine BigFrame.wpQuiet_want (by kernel_rfl) (fun K hK => quiet_load_mid 62 (.tmp 57) rfl b (off + j * 6) rfl [.string pb, .string pi, .string pl, .int .i64 ps, .int .i64 pq, .int .i64 ph] _ (fun W ⟨X, hX⟩ => by rw [hX]; exact RY.out X) huq rfl HSQ6.out (hK _ ?_))
       simp only [ax]
       go_big_quiet_step (exact grow_call _ (CY.out _))
       clear RY CY
       iterate 2 go_big_quiet_step (fail)
       refine wpQuiet_nil ?_
       intro X
       clear x4 xg
       obtain ⟨w6, hb6⟩ := X
       simp only []
       have H6 := Lib.hid (hx.out.trans (hb6.mono hx.out.size))
       clear hb6 CX RX GQ RH
       cases nb with
       | true =>
        have HVN : Hid (Pl.best ah (fun i => freeB A i && my i) (q + 1) = some q) := Lib.hid (Pl.best_less HPT.out HQ.out HAN.out)
        go_wp2_with fail
        go_roundw
        case rel => exact ⟨q + 1, by omega, by rw [HVN.out]; rfl, by go_num, H6⟩
        case measure => simp [intOf]; omega
       | false =>
        have HVN : Hid (Pl.best ah (fun i => freeB A i && my i) (q + 1) = some j) := Lib.hid (Pl.best_keep HPT.out HQ.out HAN.out)
        go_wp2_with fail
        go_roundw
        case rel => exact ⟨q + 1, by omega, by rw [HVN.out]; rfl, by go_num, H6⟩
        case measure => simp [intOf]; omega
   · obtain rfl : q = m := by omega
     cases a with
     | none =>
      obtain rfl : za = -1 := by rw [← HZA.out]; rfl
      have HFIN : Hid (full = D) := Lib.hid (by rw [hFD.out, Pl.ordN_none HQ.out]; simp [Pl.cutN])
      go_wp2_with fail
      go_ret
      refine ⟨(HBW.out _ HWX.out).1, A', c', ?_, ?_⟩
      · rw [HFIN.out, ← hmo.out]; rfl
      · rw [HFIN.out]; exact Rd.of_own HOX.out
     | some j =>
      obtain rfl : za = (j : Int) := by rw [← HZA.out]; rfl
      have hjk := Pl.best_lt HQ.out
      have hjl : j < A.length := by rw [hAl.out]; exact hjk.1
      simp only [Bool.and_eq_true] at hjk
      have hjf : A[j] = false := by have := hjk.2.1; rw [freeB_at hjl] at this; simpa using this
      have hfp := HFP.out j hjk.2.2
      have gj : wr.cell? ⟨g, j, none⟩ = some (.bool false) := by rw [cell_of_block HGX.out, List.getElem?_toArray, bo_at A j hjl, hjf]
      have gf : wr.frozen? ⟨g, j, none⟩ = false := frozen_of_block HGX.out
      have gl : g < wr.heap.size := lt_of_block HGX.out
      obtain ⟨w4, hw4⟩ : ∃ w4, w4 = wr.setCell ⟨g, j, none⟩ (.bool true) := ⟨_, rfl⟩
      have H4 : Hid (Below (w.alloc (.cells h.cells 37)).heap.size (w.alloc (.cells h.cells 37)) w4) := Lib.hid (by rw [hw4]; exact HWX.out.setCell HGW.out _)
      have HG4 : Hid (w4.heap[g]? = some (.cells (bo (A.set j true)).toArray 4 (0, 0))) := Lib.hid (by rw [hw4, block_setCell HGX.out, bo_set])
      have HO4 : Hid (w4.ownsRow B0 135 5 (.slice A' mo c') mo D.flatten) := Lib.hid (by rw [hw4]; exact own_far HOX.out HGB.out (Nat.le_refl _))
      have HBX4 : Hid (B0 ≤ w4.heap.size) := Lib.hid (by rw [hw4]; simpa [World.setCell] using HBX.out)
      have HW4 := Lib.hid hw4
      have HST : Hid (Pl.ordN ah q q (fun i => freeB A i && my i) = j :: Pl.ordN ah q q (fun i => freeB (A.set j true) i && my i)) := Lib.hid (by
       rw [Pl.ordN_step HQ.out]
       congr 1
       refine Pl.ordN_congr _ (fun i hi => ?_)
       rw [freeB_set hjl (by rw [hAl.out]; exact hi)]
       rw [Bool.and_right_comm])
      have HCN : Hid (D.length + 1 + Pl.cntN q (fun i => freeB (A.set j true) i && my i) ≤ q) := Lib.hid (by
       have h1 := Pl.cntN_drop (m := q) (P := (fun i => freeB A i && my i)) hjk.1 (by simp [hjk.2])
       have h2 : Pl.cntN q (fun i => freeB (A.set j true) i && my i) = Pl.cntN q (fun i => (freeB A i && my i) && decide (i ≠ j)) := by
        unfold Pl.cntN
        rw [List.filter_congr (fun i hi => ?_)]
        rw [freeB_set hjl (by rw [hAl.out]; exact List.mem_range.1 hi), Bool.and_right_comm]
       have h3 := hcn.out
       rw [h2]
       have h4 : Pl.cntN q (fun i => (freeB A i && my i) && decide (i ≠ j)) + 1 = Pl.cntN q (fun i => freeB A i && my i) := h1
       omega)
      have hj1 : (0 : Int) ≤ (j : Int) := by omega
      have hj2 : (j : Int) < (q : Int) := by omega
      have hj3 : ¬ (j : Int) < 0 := by omega
      have HT4 : Hid (HT h L w4) := Lib.hid (HHT.out.below (HBW.out _ H4.out).1)
      have hkl : j < (L 4).length := by rw [← HNM.out]; omega
      obtain ⟨b, off, hA, hb, r1⟩ := quant_atW HT4.out hkl
      have hqc := qA_cells HT4.out hkl
      obtain ⟨x, hx1⟩ : ∃ x, qnOf (qA (L 4) j) = x := ⟨_, rfl⟩
      rw [hx1] at r1 hqc
      obtain ⟨qb, qi, ql, qs, qq, qh⟩ := x
      unfold Qn.cells at r1 hqc
      obtain ⟨f, hf⟩ : ∃ f, wrap64 (qq - qh) = f := ⟨_, rfl⟩
      have HFF : Hid (fr j = f) := Lib.hid (by rw [HFRE.out, hqc]; exact hf)
      have HTJ : Hid (∀ z, tk (j, z) = [.string qb, .string qi, .string ql, .int .i64 qs, .int .i64 z]) := Lib.hid (fun z => by rw [HTK.out]; unfold takeQ; simp only []; rw [hx1])
      rw [HFF.out] at hfp
      have HFPO := Lib.hid hfp
      have HR1 : Hid (w4.rangeAt b (off + j * 6) [.string qb, .string qi, .string ql, .int .i64 qs, .int .i64 qq, .int .i64 qh]) := Lib.hid r1
      have HAB := Lib.hid hA
      clear hx1 r1 hb hA hqc hkl hjk hjl hjf hw4 hfp
      go_upto_region 12 with fail
      rw [← HW4.out]
      clear gj gf gl d4 dlt
      obtain ⟨d4, dlt⟩ := HL4.out _ H4.out
      rw [HAB.out] at d4
      obtain ⟨w5, hw5⟩ : ∃ w5, w5 = w4.alloc (.cells #[.string qb, .string qi, .string ql, .int .i64 qs, .int .i64 qq, .int .i64 qh] 62) := ⟨_, rfl⟩
      have hb5 : Below w4.heap.size w4 w5 := by rw [hw5]; exact (Below.refl _ _).alloc (Nat.le_refl _) _
      have HX5 : Hid (w5.heap[w4.heap.size]? = some (.cells #[.string qb, .string qi, .string ql, .int .i64 qs, .int .i64 qq, .int .i64 qh] 62 (0, 0))) := Lib.hid (by rw [hw5]; exact heap_alloc_new _ _)
      have HG5 := Lib.hid ((hb5.block _ (lt_of_block HG4.out)).trans HG4.out)
      have H5 := Lib.hid (H4.out.trans (hb5.mono H4.out.size))
      have HO5 := Lib.hid (own_below HO4.out hb5)
      have HBX5 := Lib.hid (Nat.le_trans HBX4.out hb5.size)
      have HW5 := Lib.hid hw5
      clear hw5 hb5
      go_upto_region 13 with (first
       | (refine wpList_load_mid rfl 62 (.tmp 71) rfl b (off + j * 6) rfl [.string qb, .string qi, .string ql, .int .i64 qs, .int .i64 qq, .int .i64 qh] _ HR1.out huq rfl HSQ6.out ?_)
       | fail)
      rw [← HW5.out]
      clear d4 dlt
      have y4 : w5.cell? ⟨w4.heap.size, 4, none⟩ = some (.int .i64 qq) := by rw [cell_of_block HX5.out]; rfl
      have y5 : w5.cell? ⟨w4.heap.size, 5, none⟩ = some (.int .i64 qh) := by rw [cell_of_block HX5.out]; rfl
      have ylt : w4.heap.size < w5.heap.size := lt_of_block HX5.out
      obtain ⟨z, hz⟩ : ∃ z, min f qz = z := ⟨_, rfl⟩
      have HZ1 : Hid (1 ≤ z ∧ z ≤ qz ∧ z = min f qz) := Lib.hid (by have h1 := HFPO.out; have h2 := HQ0.out; omega)
      go_upto_region 14 with fail
      clear y4 y5 ylt
      have HFD2 : Hid (full = (D ++ [[.string qb, .string qi, .string ql, .int .i64 qs, .int .i64 z]]) ++ (Pl.cutN fr (Pl.ordN ah q q (fun i => freeB (A.set j true) i && my i)) (qz - z)).map tk) := Lib.hid (by
       rw [hFD.out, HST.out, Pl.cutN_cons _ _ _ HQ0.out, HFF.out, hz, List.map_cons, HTJ.out, List.append_assoc]; rfl)
      have HWQ : wrap64 (qz - z) = qz - z := w64 (by have := HZ1.out; have := hqz.out; omega) (by have := HZ1.out; have := hqz.out; omega)
      have HRK : Hid (w5.rangeAt w4.heap.size 0 [.string qb, .string qi, .string ql, .int .i64 qs]) := Lib.hid (range_part HX5.out (cs := [.string qb, .string qi, .string ql, .int .i64 qs, .int .i64 qq, .int .i64 qh]) (pre := []) (post := [.int .i64 qq, .int .i64 qh]))
      have HXL : Hid (([.string qb, .string qi, .string ql, .int .i64 qs, .int .i64 z] : List Value).length = 5) := Lib.hid rfl
      have HE1 : Hid (∀ u ∈ ([.string qb, .string qi, .string ql, .int .i64 qs, .int .i64 z] : List Value), u.oneCell' = true) := Lib.hid (fits_one (ks := kTake) ⟨⟨_, rfl⟩, ⟨_, rfl⟩, ⟨_, rfl⟩, ⟨_, rfl⟩, ⟨_, rfl⟩, trivial⟩)
      have HG1 : Hid (B0 ≤ (w5.alloc (.cells ([.string qb, .string qi, .string ql, .int .i64 qs, .int .i64 z] : List Value).toArray 135)).heap.size) := Lib.hid (by have := HBX5.out; simp; omega)
      have hm1 : mo + 1 ≤ 1000 := by have h1 := HCN.out; have h2 := hmo.out; omega
      have HWB : Hid ((w.alloc (.cells h.cells 37)).heap.size ≤ B0) := Lib.hid (by have := HGW.out; have := HGB.out; omega)
      clear hz
      go_wp2_with (first
       | (refine wpList_load_mid rfl 44 (.tmp 81) rfl w4.heap.size 0 rfl [.string qb, .string qi, .string ql, .int .i64 qs] _ HRK.out huk rfl HSK4.out ?_)
       | (refine wpList_buildOne rfl _ 135 _ rfl w5.heap.size rfl _ rfl i0 z0 5 Tryz.underlying132 hi0 hz0 hz1 (by decide) (by decide) [.string qb, .string qi, .string ql, .int .i64 qs, .int .i64 z] (by rfl) HXL.out ?_)
       | (at_builtin; refine wpList_app rfl (.tmp 80) (.tmp 85) _ rfl B0 135 i0 z0 5 i0.bytes Tryz.underlying132 hi0 hz0 hz1 rfl hz2 (by decide) A' mo c' _ rfl (HO5.out.alloc _) (w5.heap.size + 1) (some ⟨w5.heap.size, 0, none⟩) 1 1 [.string qb, .string qi, .string ql, .int .i64 qs, .int .i64 z] rfl (by rfl) (rd_one w5 [.string qb, .string qi, .string ql, .int .i64 qs, .int .i64 z] _) HE1.out (by simp only [maxLen]; omega) (HBY.out _ (by omega)) HG1.out ?_; intro A5 c5 w6 hown6 hb6; have HO6 := Lib.hid hown6; have HB6 := Lib.hid hb6; clear hown6 hb6)
       | fail)
      have H6 : Hid (Below (w.alloc (.cells h.cells 37)).heap.size (w.alloc (.cells h.cells 37)) w6) := Lib.hid ((H5.out.alloc H5.out.size _).trans (HB6.out.mono HWB.out))
      have HG6 : Hid (w6.heap[g]? = some (.cells (bo (A.set j true)).toArray 4 (0, 0))) := Lib.hid ((HB6.out.block _ HGB.out).trans ((Below.heap_alloc _ _ _ (lt_of_block HG5.out)).trans HG5.out))
      have HBX6 : Hid (B0 ≤ w6.heap.size) := Lib.hid (Nat.le_trans HG1.out HB6.out.size)
      have HTD2 : Hid (Things kTake (D ++ [[.string qb, .string qi, .string ql, .int .i64 qs, .int .i64 z]])) := Lib.hid (fun e he => by
       rcases List.mem_append.1 he with h1 | h1
       · exact hTD.out e h1
       · simp only [List.mem_singleton] at h1; subst h1; exact ⟨⟨_, rfl⟩, ⟨_, rfl⟩, ⟨_, rfl⟩, ⟨_, rfl⟩, ⟨_, rfl⟩, trivial⟩)
      go_roundw
      case rel => exact ⟨A.set j true, D ++ [[.string qb, .string qi, .string ql, .int .i64 qs, .int .i64 z]], qz - z, mo + 1, c5, A5, by rw [HWQ], rfl, Lib.hid (by rw [List.length_set]; exact hAl.out), HFD2, HTD2, Lib.hid (by rw [List.length_append, ← hmo.out]; rfl), Lib.hid (by rw [List.length_append]; exact HCN.out), Lib.hid (by have := hqz.out; have := HZ1.out; omega), HG6, Lib.hid (by rw [List.flatten_append]; simpa using HO6.out), H6, HBX6⟩
      case measure => have h1 := HZ1.out; simp [intOf]; omega
end Go.Proofs.YtlkmccmbpnbgbaaGreat
