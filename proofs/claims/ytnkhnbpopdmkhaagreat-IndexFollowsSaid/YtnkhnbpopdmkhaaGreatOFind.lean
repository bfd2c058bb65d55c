/-
 CONTRACT of the rows' FindItem.
 CONTRACT of the rows' FindZone.
 CONTRACT of the rows' FindBin.
 CONTRACT of the rows' FindNotice.
 (By wip/tools/merge.py.)
-/
import Derived.Test.YtnkhnbpopdmkhaaGreatOPl
import Derived.Test.YtnkhnbpopdmkhaaGreatHHouse
namespace Go.Proofs.YtnkhnbpopdmkhaaGreat
set_option linter.unusedVariables false
open Go.RowKit
open Pl (firstG findG)

set_option maxRecDepth 100000 in
set_option maxHeartbeats 1600000 in
theorem rfindZone (h : Hs) (L : List (List Value)) (s : ByteArray) (w : World) (hn : h.n 2 = L.length) (hn6 : h.n 2 ≤ 1000000) (hL : Things kZone L) (hr : Rd w w.heap.size (h.A 2) L.flatten) :
 Calls Tryz.prog 74 #[.agg h.cells, .string s] w fun e w' => e = .returned (.tuple #[.agg (gotZone L s).toArray, .bool (atZone L s).isSome]) ∧ Below w.heap.size w w' := by
 obtain ⟨W0, hW0⟩ : ∃ W0, W0 = (w.alloc (.cells h.cells 37)).alloc (.cells zeroZone.toArray 74) := ⟨_, rfl⟩
 have HB0 : Hid (Below w.heap.size w W0) := Lib.hid (by rw [hW0]; exact ((Below.refl _ _).alloc (Nat.le_refl _) _).alloc (by simp) _)
 have HS0 : Hid (W0.heap.size = w.heap.size + 2) := Lib.hid (by rw [hW0]; simp)
 have HHX : Hid (∀ W, Below W0.heap.size W0 W → W.heap[w.heap.size]? = some (.cells h.cells 37 (0, 0))) := Lib.hid (fun W hW => (hW.block _ (by rw [HS0.out]; omega)).trans (by rw [hW0]; exact (Below.heap_alloc _ _ _ (by simp)).trans (heap_alloc_new _ _)))
 have HRX : Hid (∀ W, Below W0.heap.size W0 W → W.heap[w.heap.size + 1]? = some (.cells zeroZone.toArray 74 (0, 0))) := Lib.hid (fun W hW => (hW.block _ (by rw [HS0.out]; omega)).trans (by
  rw [hW0]
  have := heap_alloc_new (w.alloc (.cells h.cells 37)) (.cells zeroZone.toArray 74)
  simpa using this))
 have HN := Lib.hid hn
 have HL := Lib.hid hL
 have HR := Lib.hid hr
 have hu := Tryz.underlying74
 have HSZ : Hid (∀ y, Fits kZone y → (Tryz.prog.info? 74).map (·.size) = some y.toArray.size) := Lib.hid (fun y hy => by rw [show (Tryz.prog.info? 74).map (·.size) = some 2 from by kernel_rfl, List.size_toArray, hy.length]; rfl)
 have HAT := Lib.hid (atZone_first L s)
 clear hn hL hr
 go_enter Tryz.func74, Tryz.ntmps74
 go_wp2_with fail
 unfold Hs.cells at hW0
 unfold zeroZone at hW0
 have HE : Hid (∀ (i : Nat) (W : World), Below W0.heap.size W0 W → W.cell? ⟨w.heap.size, 2, none⟩ = some (.slice (h.A 2) (h.n 2) (h.c 2))) := Lib.hid (fun i W hW => (cell_of_block (HHX.out W hW)).trans rfl)
 obtain ⟨n, hnn⟩ : ∃ n, h.n 2 = n := ⟨_, rfl⟩
 rw [hnn] at HN HE hn6
 have HNN := Lib.hid hnn
 go_loopw [6] (fun i wr => ∃ k : Nat, k ≤ n ∧ i = .int .i64 (k : Int) ∧ Hid (∀ j (hj : j < L.length), j < k → Pl.eqv (codeOf L[j]) s = false) ∧ Hid (Below W0.heap.size W0 wr)) (fun i _ => n - (intOf i).toNat)
 case atStart => exact ⟨0, by omega, rfl, Lib.hid (fun j hj h => by omega), Lib.hid (by rw [hW0]; exact Below.refl _ _)⟩
 case round =>
  obtain ⟨k, hkn, rfl, hno, hbel⟩ := hrel
  have c0 := HE.out 0 wr hbel.out
  have HBR : Hid (Below w.heap.size w wr) := Lib.hid (HB0.out.trans (hbel.out.mono HB0.out.size))
  have HX1 := Lib.hid (HRX.out wr hbel.out)
  by_cases hlt : k < n
  · have hl : k < L.length := by rw [← HN.out]; exact hlt
    obtain ⟨b, off, hA, hb, hc⟩ := HR.out.thing HL.out (by decide) hl
    rw [hA] at c0 HE
    have fx := HL.out _ (List.getElem_mem hl)
    have r1 := rangeAt_below (hc k hl) hb HBR.out
    rw [show kZone.length = 2 from rfl] at r1
    obtain ⟨x, hx⟩ : ∃ x, L[k] = x := ⟨_, rfl⟩
    rw [hx] at fx r1
    have HXK := Lib.hid hx
    have HF := Lib.hid fx
    have HR1 := Lib.hid r1
    obtain ⟨r, hxr⟩ := code_Zone fx
    obtain ⟨q, hq⟩ : ∃ q, codeOf x = q := ⟨_, rfl⟩
    have d0 : wr.cell? ⟨b, off + k * 2, none⟩ = some (.string q) := by
     have := r1 0 (.string q) (by rw [hxr, hq]; rfl)
     simpa using this
    have HQ := Lib.hid hq
    have h1 : (0 : Int) ≤ (k : Int) := by omega
    have h2 : (k : Int) < (n : Int) := by omega
    have HIX : Hid ((Tryz.prog.info? 74).map (·.size) = some x.length) := Lib.hid (by have := HSZ.out x fx; rwa [List.size_toArray] at this)
    have HOZ : Hid (zeroZone.toArray.size = x.toArray.size) := Lib.hid (by rw [List.size_toArray, List.size_toArray, fx.length]; rfl)
    have HOC : Hid (x.toArray.all (·.oneCell') = true) := Lib.hid (all_oneCell_toArray (fits_one fx))
    have HBE : Hid (Below w.heap.size w (wr.setRow (w.heap.size + 1) x.toArray)) := Lib.hid (by
     have hb := HBR.out
     exact ⟨hb.os, hb.tape, hb.output, by simpa using hb.size, fun k hk => (setRow_other _ _ k _ (by omega)).trans (hb.block k hk)⟩)
    clear hc r1 hx fx hb hA hq hxr
    cases he : Pl.eqv q s with
    | true =>
     have HG : Hid (atZone L s = some k) := Lib.hid (by
      rw [HAT.out]
      exact Pl.firstG_some hl (fun j hj hjk => hno.out j hj hjk) (by rw [HXK.out, HQ.out]; exact he))
     have HG2 : Hid (gotZone L s = x) := Lib.hid (by
      unfold gotZone; rw [HG.out]; simp only []; rw [List.getD_eq_getElem?_getD, List.getElem?_eq_getElem hl]; exact HXK.out)
     have he' : (q.toList == s.toList) = true := he
     clear he
     go_wp2_with (first
      | (refine wpList_load_mid rfl 74 (.tmp 25) rfl b (off + k * 2) rfl x _ HR1.out hu rfl HIX.out ?_)
      | (refine wpList_store_row rfl 74 (.tmp 4) (.tmp 26) rfl (w.heap.size + 1) x.toArray rfl rfl _ _ HX1.out (HSZ.out _ HF.out) HOZ.out HOC.out ?_)
      | fail)
     exact bodyPost_ret (results_row_tmp rfl _ _ (w.heap.size + 1) _ _ _ _ rfl (setRow_heap _ _ _ _ _ _ HX1.out) hu rfl (HSZ.out _ HF.out)) rfl ⟨by rw [HG2.out, HG.out]; rfl, HBE.out⟩
    | false =>
     have HNO : Hid (∀ j (hj : j < L.length), j < k + 1 → Pl.eqv (codeOf L[j]) s = false) := Lib.hid (fun j hj hjk => by
      by_cases e : j = k
      · subst e; rw [HXK.out, HQ.out]; exact he
      · exact hno.out j hj (by omega))
     have he' : (q.toList == s.toList) = false := he
     clear he
     go_wp2_with fail
     go_roundw
     case rel => exact ⟨k + 1, by omega, by go_num, HNO, hbel⟩
     case measure => simp [intOf]; omega
  · have HG : Hid (atZone L s = none) := Lib.hid (by
     rw [HAT.out]
     exact Pl.firstG_none (fun j hj => hno.out j hj (by have := HN.out; omega)))
    have HG2 : Hid (gotZone L s = zeroZone) := Lib.hid (by unfold gotZone; rw [HG.out])
    have HZO : Hid (zeroZone.toArray.all (·.oneCell') = true) := Lib.hid (by simp [zeroZone, Value.oneCell'])
    have HBE : Hid (Below w.heap.size w (wr.setRow (w.heap.size + 1) zeroZone.toArray)) := Lib.hid (by
     have hb := HBR.out
     exact ⟨hb.os, hb.tape, hb.output, by simpa using hb.size, fun k hk => (setRow_other _ _ k _ (by omega)).trans (hb.block k hk)⟩)
    go_wp2_with (first
     | (refine wpList_store_row rfl 74 (.tmp 4) (.tmp 27) rfl (w.heap.size + 1) zeroZone.toArray rfl rfl _ _ HX1.out (HSZ.out _ zeroZone_fits) rfl HZO.out ?_)
     | fail)
    exact bodyPost_ret (results_row_tmp rfl _ _ (w.heap.size + 1) _ _ _ _ rfl (setRow_heap _ _ _ _ _ _ HX1.out) hu rfl (HSZ.out _ zeroZone_fits)) rfl ⟨by rw [HG2.out, HG.out]; rfl, HBE.out⟩
end Go.Proofs.YtnkhnbpopdmkhaaGreat

namespace Go.Proofs.YtnkhnbpopdmkhaaGreat
set_option linter.unusedVariables false
open Go.RowKit
open Pl (firstG findG)

set_option maxRecDepth 100000 in
set_option maxHeartbeats 1600000 in
theorem rfindBin (h : Hs) (L : List (List Value)) (s : ByteArray) (w : World) (hn : h.n 3 = L.length) (hn6 : h.n 3 ≤ 1000000) (hL : Things kBin L) (hr : Rd w w.heap.size (h.A 3) L.flatten) :
 Calls Tryz.prog 46 #[.agg h.cells, .string s] w fun e w' => e = .returned (.tuple #[.agg (gotBin L s).toArray, .bool (atBin L s).isSome]) ∧ Below w.heap.size w w' := by
 obtain ⟨W0, hW0⟩ : ∃ W0, W0 = (w.alloc (.cells h.cells 37)).alloc (.cells zeroBin.toArray 77) := ⟨_, rfl⟩
 have HB0 : Hid (Below w.heap.size w W0) := Lib.hid (by rw [hW0]; exact ((Below.refl _ _).alloc (Nat.le_refl _) _).alloc (by simp) _)
 have HS0 : Hid (W0.heap.size = w.heap.size + 2) := Lib.hid (by rw [hW0]; simp)
 have HHX : Hid (∀ W, Below W0.heap.size W0 W → W.heap[w.heap.size]? = some (.cells h.cells 37 (0, 0))) := Lib.hid (fun W hW => (hW.block _ (by rw [HS0.out]; omega)).trans (by rw [hW0]; exact (Below.heap_alloc _ _ _ (by simp)).trans (heap_alloc_new _ _)))
 have HRX : Hid (∀ W, Below W0.heap.size W0 W → W.heap[w.heap.size + 1]? = some (.cells zeroBin.toArray 77 (0, 0))) := Lib.hid (fun W hW => (hW.block _ (by rw [HS0.out]; omega)).trans (by
  rw [hW0]
  have := heap_alloc_new (w.alloc (.cells h.cells 37)) (.cells zeroBin.toArray 77)
  simpa using this))
 have HN := Lib.hid hn
 have HL := Lib.hid hL
 have HR := Lib.hid hr
 have hu := Tryz.underlying77
 have HSZ : Hid (∀ y, Fits kBin y → (Tryz.prog.info? 77).map (·.size) = some y.toArray.size) := Lib.hid (fun y hy => by rw [show (Tryz.prog.info? 77).map (·.size) = some 8 from by kernel_rfl, List.size_toArray, hy.length]; rfl)
 have HAT := Lib.hid (atBin_first L s)
 clear hn hL hr
 go_enter Tryz.func46, Tryz.ntmps46
 go_wp2_with fail
 unfold Hs.cells at hW0
 unfold zeroBin at hW0
 have HE : Hid (∀ (i : Nat) (W : World), Below W0.heap.size W0 W → W.cell? ⟨w.heap.size, 3, none⟩ = some (.slice (h.A 3) (h.n 3) (h.c 3))) := Lib.hid (fun i W hW => (cell_of_block (HHX.out W hW)).trans rfl)
 obtain ⟨n, hnn⟩ : ∃ n, h.n 3 = n := ⟨_, rfl⟩
 rw [hnn] at HN HE hn6
 have HNN := Lib.hid hnn
 go_loopw [6] (fun i wr => ∃ k : Nat, k ≤ n ∧ i = .int .i64 (k : Int) ∧ Hid (∀ j (hj : j < L.length), j < k → Pl.eqv (codeOf L[j]) s = false) ∧ Hid (Below W0.heap.size W0 wr)) (fun i _ => n - (intOf i).toNat)
 case atStart => exact ⟨0, by omega, rfl, Lib.hid (fun j hj h => by omega), Lib.hid (by rw [hW0]; exact Below.refl _ _)⟩
 case round =>
  obtain ⟨k, hkn, rfl, hno, hbel⟩ := hrel
  have c0 := HE.out 0 wr hbel.out
  have HBR : Hid (Below w.heap.size w wr) := Lib.hid (HB0.out.trans (hbel.out.mono HB0.out.size))
  have HX1 := Lib.hid (HRX.out wr hbel.out)
  by_cases hlt : k < n
  · have hl : k < L.length := by rw [← HN.out]; exact hlt
    obtain ⟨b, off, hA, hb, hc⟩ := HR.out.thing HL.out (by decide) hl
    rw [hA] at c0 HE
    have fx := HL.out _ (List.getElem_mem hl)
    have r1 := rangeAt_below (hc k hl) hb HBR.out
    rw [show kBin.length = 8 from rfl] at r1
    obtain ⟨x, hx⟩ : ∃ x, L[k] = x := ⟨_, rfl⟩
    rw [hx] at fx r1
    have HXK := Lib.hid hx
    have HF := Lib.hid fx
    have HR1 := Lib.hid r1
    obtain ⟨r, hxr⟩ := code_Bin fx
    obtain ⟨q, hq⟩ : ∃ q, codeOf x = q := ⟨_, rfl⟩
    have d0 : wr.cell? ⟨b, off + k * 8, none⟩ = some (.string q) := by
     have := r1 0 (.string q) (by rw [hxr, hq]; rfl)
     simpa using this
    have HQ := Lib.hid hq
    have h1 : (0 : Int) ≤ (k : Int) := by omega
    have h2 : (k : Int) < (n : Int) := by omega
    have HIX : Hid ((Tryz.prog.info? 77).map (·.size) = some x.length) := Lib.hid (by have := HSZ.out x fx; rwa [List.size_toArray] at this)
    have HOZ : Hid (zeroBin.toArray.size = x.toArray.size) := Lib.hid (by rw [List.size_toArray, List.size_toArray, fx.length]; rfl)
    have HOC : Hid (x.toArray.all (·.oneCell') = true) := Lib.hid (all_oneCell_toArray (fits_one fx))
    have HBE : Hid (Below w.heap.size w (wr.setRow (w.heap.size + 1) x.toArray)) := Lib.hid (by
     have hb := HBR.out
     exact ⟨hb.os, hb.tape, hb.output, by simpa using hb.size, fun k hk => (setRow_other _ _ k _ (by omega)).trans (hb.block k hk)⟩)
    clear hc r1 hx fx hb hA hq hxr
    cases he : Pl.eqv q s with
    | true =>
     have HG : Hid (atBin L s = some k) := Lib.hid (by
      rw [HAT.out]
      exact Pl.firstG_some hl (fun j hj hjk => hno.out j hj hjk) (by rw [HXK.out, HQ.out]; exact he))
     have HG2 : Hid (gotBin L s = x) := Lib.hid (by
      unfold gotBin; rw [HG.out]; simp only []; rw [List.getD_eq_getElem?_getD, List.getElem?_eq_getElem hl]; exact HXK.out)
     have he' : (q.toList == s.toList) = true := he
     clear he
     go_wp2_with (first
      | (refine wpList_load_mid rfl 77 (.tmp 25) rfl b (off + k * 8) rfl x _ HR1.out hu rfl HIX.out ?_)
      | (refine wpList_store_row rfl 77 (.tmp 4) (.tmp 26) rfl (w.heap.size + 1) x.toArray rfl rfl _ _ HX1.out (HSZ.out _ HF.out) HOZ.out HOC.out ?_)
      | fail)
     exact bodyPost_ret (results_row_tmp rfl _ _ (w.heap.size + 1) _ _ _ _ rfl (setRow_heap _ _ _ _ _ _ HX1.out) hu rfl (HSZ.out _ HF.out)) rfl ⟨by rw [HG2.out, HG.out]; rfl, HBE.out⟩
    | false =>
     have HNO : Hid (∀ j (hj : j < L.length), j < k + 1 → Pl.eqv (codeOf L[j]) s = false) := Lib.hid (fun j hj hjk => by
      by_cases e : j = k
      · subst e; rw [HXK.out, HQ.out]; exact he
      · exact hno.out j hj (by omega))
     have he' : (q.toList == s.toList) = false := he
     clear he
     go_wp2_with fail
     go_roundw
     case rel => exact ⟨k + 1, by omega, by go_num, HNO, hbel⟩
     case measure => simp [intOf]; omega
  · have HG : Hid (atBin L s = none) := Lib.hid (by
     rw [HAT.out]
     exact Pl.firstG_none (fun j hj => hno.out j hj (by have := HN.out; omega)))
    have HG2 : Hid (gotBin L s = zeroBin) := Lib.hid (by unfold gotBin; rw [HG.out])
    have HZO : Hid (zeroBin.toArray.all (·.oneCell') = true) := Lib.hid (by simp [zeroBin, Value.oneCell'])
    have HBE : Hid (Below w.heap.size w (wr.setRow (w.heap.size + 1) zeroBin.toArray)) := Lib.hid (by
     have hb := HBR.out
     exact ⟨hb.os, hb.tape, hb.output, by simpa using hb.size, fun k hk => (setRow_other _ _ k _ (by omega)).trans (hb.block k hk)⟩)
    go_wp2_with (first
     | (refine wpList_store_row rfl 77 (.tmp 4) (.tmp 27) rfl (w.heap.size + 1) zeroBin.toArray rfl rfl _ _ HX1.out (HSZ.out _ zeroBin_fits) rfl HZO.out ?_)
     | fail)
    exact bodyPost_ret (results_row_tmp rfl _ _ (w.heap.size + 1) _ _ _ _ rfl (setRow_heap _ _ _ _ _ _ HX1.out) hu rfl (HSZ.out _ zeroBin_fits)) rfl ⟨by rw [HG2.out, HG.out]; rfl, HBE.out⟩
end Go.Proofs.YtnkhnbpopdmkhaaGreat
