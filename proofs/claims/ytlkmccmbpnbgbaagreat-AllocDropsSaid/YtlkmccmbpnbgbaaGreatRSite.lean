/-
 CONTRACT of the rows' FindItem. CONTRACT of the rows' FindZone. CONTRACT of the rows' FindBin. CONTRACT of the rows' FindNotice. (By wip/tools/merge.py.)
 CONTRACTS of the rows' FindZone, FindBin, FindLot, of the references' Site and Day. (By wip/tools/port15.py.)
 (By wip/tools/merge.py.)
-/
import Derived.Test.YtlkmccmbpnbgbaaGreatOPl
import Derived.Test.YtlkmccmbpnbgbaaGreatHHouse
import Derived.Deep.CutRange
namespace Go.Proofs.YtlkmccmbpnbgbaaGreat
set_option linter.unusedVariables false
open Go.RowKit
open Pl (firstG findG)

set_option maxRecDepth 100000 in
set_option maxHeartbeats 1600000 in
theorem rfindItem (h : Hs) (L : List (List Value)) (s : ByteArray) (w : World) (hn : h.n 0 = L.length) (hn6 : h.n 0 ≤ 1000000) (hL : Things kItem L) (hr : Rd w w.heap.size (h.A 0) L.flatten) :
 Calls Tryz.prog 83 #[.agg h.cells, .string s] w fun e w' => e = .returned (.tuple #[.agg (gotItem L s).toArray, .bool (atItem L s).isSome]) ∧ Below w.heap.size w w' := by
 obtain ⟨W0, hW0⟩ : ∃ W0, W0 = (w.alloc (.cells h.cells 37)).alloc (.cells zeroItem.toArray 70) := ⟨_, rfl⟩
 have HB0 : Hid (Below w.heap.size w W0) := Lib.hid (by rw [hW0]; exact ((Below.refl _ _).alloc (Nat.le_refl _) _).alloc (by simp) _)
 have HS0 : Hid (W0.heap.size = w.heap.size + 2) := Lib.hid (by rw [hW0]; simp)
 have HHX : Hid (∀ W, Below W0.heap.size W0 W → W.heap[w.heap.size]? = some (.cells h.cells 37 (0, 0))) := Lib.hid (fun W hW => (hW.block _ (by rw [HS0.out]; omega)).trans (by rw [hW0]; exact (Below.heap_alloc _ _ _ (by simp)).trans (heap_alloc_new _ _)))
 have HRX : Hid (∀ W, Below W0.heap.size W0 W → W.heap[w.heap.size + 1]? = some (.cells zeroItem.toArray 70 (0, 0))) := Lib.hid (fun W hW => (hW.block _ (by rw [HS0.out]; omega)).trans (by
  rw [hW0]
  have := heap_alloc_new (w.alloc (.cells h.cells 37)) (.cells zeroItem.toArray 70)
  simpa using this))
 have HN := Lib.hid hn
 have HL := Lib.hid hL
 have HR := Lib.hid hr
 have hu := Tryz.underlying70
 have HSZ : Hid (∀ y, Fits kItem y → (Tryz.prog.info? 70).map (·.size) = some y.toArray.size) := Lib.hid (fun y hy => by rw [show (Tryz.prog.info? 70).map (·.size) = some 14 from by kernel_rfl, List.size_toArray, hy.length]; rfl)
 have HAT := Lib.hid (atItem_first L s)
 clear hn hL hr
 go_enter Tryz.func83, Tryz.ntmps83
 go_wp2_with fail
 unfold Hs.cells at hW0
 unfold zeroItem at hW0
 have HE : Hid (∀ (i : Nat) (W : World), Below W0.heap.size W0 W → W.cell? ⟨w.heap.size, 0, none⟩ = some (.slice (h.A 0) (h.n 0) (h.c 0))) := Lib.hid (fun i W hW => (cell_of_block (HHX.out W hW)).trans rfl)
 obtain ⟨n, hnn⟩ : ∃ n, h.n 0 = n := ⟨_, rfl⟩
 rw [hnn] at HN HE hn6
 have HNN := Lib.hid hnn
 go_loopw [6] (fun i wr => ∃ k : Nat, k ≤ n ∧ i = .int .i64 (k : Int) ∧ Hid (∀ j (hj : j < L.length), j < k → Pl.eqv (codeOf L[j]) s = false) ∧ Hid (Below W0.heap.size W0 wr)) (fun i _ => n - (intOf i).toNat)
 case atStart => exact ⟨0, by omega, rfl, Lib.hid (fun j hj h => by omega), Lib.hid (by rw [hW0]; exact Below.refl _ _)⟩
 case round =>
  obtain ⟨k, hkn, rfl, hno, hbel⟩ := hrel
  have c0 := HE.out 0 wr hbel.out
  have HBR : Hid (Below w.heap.size w wr) := Lib.hid (HB0.out.trans (hbel.out.mono HB0.out.size))
  have HX1 := Lib.hid (HRX.out wr hbel.out)
  by_cases hlt : k < n
  · have hl : k < L.length := by rw [← HN.out]; exact hlt
    obtain ⟨b, off, hA, hb, hc⟩ := HR.out.thing HL.out (by decide) hl
    rw [hA] at c0 HE
    have fx := HL.out _ (List.getElem_mem hl)
    have r1 := rangeAt_below (hc k hl) hb HBR.out
    rw [show kItem.length = 14 from rfl] at r1
    obtain ⟨x, hx⟩ : ∃ x, L[k] = x := ⟨_, rfl⟩
    rw [hx] at fx r1
    have HXK := Lib.hid hx
    have HF := Lib.hid fx
    have HR1 := Lib.hid r1
    obtain ⟨r, hxr⟩ := code_Item fx
    obtain ⟨q, hq⟩ : ∃ q, codeOf x = q := ⟨_, rfl⟩
    have d0 : wr.cell? ⟨b, off + k * 14, none⟩ = some (.string q) := by
     have := r1 0 (.string q) (by rw [hxr, hq]; rfl)
     simpa using this
    have HQ := Lib.hid hq
    have h1 : (0 : Int) ≤ (k : Int) := by omega
    have h2 : (k : Int) < (n : Int) := by omega
    have HIX : Hid ((Tryz.prog.info? 70).map (·.size) = some x.length) := Lib.hid (by have := HSZ.out x fx; rwa [List.size_toArray] at this)
    have HOZ : Hid (zeroItem.toArray.size = x.toArray.size) := Lib.hid (by rw [List.size_toArray, List.size_toArray, fx.length]; rfl)
    have HOC : Hid (x.toArray.all (·.oneCell') = true) := Lib.hid (all_oneCell_toArray (fits_one fx))
    have HBE : Hid (Below w.heap.size w (wr.setRow (w.heap.size + 1) x.toArray)) := Lib.hid (by
     have hb := HBR.out
     exact ⟨hb.os, hb.tape, hb.output, by simpa using hb.size, fun k hk => (setRow_other _ _ k _ (by omega)).trans (hb.block k hk)⟩)
    clear hc r1 hx fx hb hA hq hxr
    cases he : Pl.eqv q s with
    | true =>
     have HG : Hid (atItem L s = some k) := Lib.hid (by
      rw [HAT.out]
      exact Pl.firstG_some hl (fun j hj hjk => hno.out j hj hjk) (by rw [HXK.out, HQ.out]; exact he))
     have HG2 : Hid (gotItem L s = x) := Lib.hid (by
      unfold gotItem; rw [HG.out]; simp only []; rw [List.getD_eq_getElem?_getD, List.getElem?_eq_getElem hl]; exact HXK.out)
     have he' : (q.toList == s.toList) = true := he
     clear he
     go_wp2_with (first
      | (refine wpList_load_mid rfl 70 (.tmp 25) rfl b (off + k * 14) rfl x _ HR1.out hu rfl HIX.out ?_)
      | (refine wpList_store_row rfl 70 (.tmp 4) (.tmp 26) rfl (w.heap.size + 1) x.toArray rfl rfl _ _ HX1.out (HSZ.out _ HF.out) HOZ.out HOC.out ?_)
      | fail)
     exact bodyPost_ret (results_row_tmp rfl _ _ (w.heap.size + 1) _ _ _ _ rfl (setRow_heap _ _ _ _ _ _ HX1.out) hu rfl (HSZ.out _ HF.out)) rfl ⟨by rw [HG2.out, HG.out]; rfl, HBE.out⟩
    | false =>
     have HNO : Hid (∀ j (hj : j < L.length), j < k + 1 → Pl.eqv (codeOf L[j]) s = false) := Lib.hid (fun j hj hjk => by
      by_cases e : j = k
      · subst e; rw [HXK.out, HQ.out]; exact he
      · exact hno.out j hj (by omega))
     have he' : (q.toList == s.toList) = false := he
     clear he
     go_wp2_with fail
     go_roundw
     case rel => exact ⟨k + 1, by omega, by go_num, HNO, hbel⟩
     case measure => simp [intOf]; omega
  · have HG : Hid (atItem L s = none) := Lib.hid (by
     rw [HAT.out]
     exact Pl.firstG_none (fun j hj => hno.out j hj (by have := HN.out; omega)))
    have HG2 : Hid (gotItem L s = zeroItem) := Lib.hid (by unfold gotItem; rw [HG.out])
    have HZO : Hid (zeroItem.toArray.all (·.oneCell') = true) := Lib.hid (by simp [zeroItem, Value.oneCell'])
    have HBE : Hid (Below w.heap.size w (wr.setRow (w.heap.size + 1) zeroItem.toArray)) := Lib.hid (by
     have hb := HBR.out
     exact ⟨hb.os, hb.tape, hb.output, by simpa using hb.size, fun k hk => (setRow_other _ _ k _ (by omega)).trans (hb.block k hk)⟩)
    go_wp2_with (first
     | (refine wpList_store_row rfl 70 (.tmp 4) (.tmp 27) rfl (w.heap.size + 1) zeroItem.toArray rfl rfl _ _ HX1.out (HSZ.out _ zeroItem_fits) rfl HZO.out ?_)
     | fail)
    exact bodyPost_ret (results_row_tmp rfl _ _ (w.heap.size + 1) _ _ _ _ rfl (setRow_heap _ _ _ _ _ _ HX1.out) hu rfl (HSZ.out _ zeroItem_fits)) rfl ⟨by rw [HG2.out, HG.out]; rfl, HBE.out⟩
end Go.Proofs.YtlkmccmbpnbgbaaGreat

namespace Go.Proofs.YtlkmccmbpnbgbaaGreat
set_option linter.unusedVariables false
open Go.RowKit
open Pl (firstG findG)

set_option maxRecDepth 100000 in
set_option maxHeartbeats 1600000 in
theorem rfindZone (h : Hs) (L : List (List Value)) (s : ByteArray) (w : World) (hn : h.n 2 = L.length) (hn6 : h.n 2 ≤ 1000000) (hL : Things kZone L) (hr : Rd w w.heap.size (h.A 2) L.flatten) :
 Calls Tryz.prog 156 #[.agg h.cells, .string s] w fun e w' => e = .returned (.tuple #[.agg (gotZone L s).toArray, .bool (atZone L s).isSome]) ∧ Below w.heap.size w w' := by
 obtain ⟨W0, hW0⟩ : ∃ W0, W0 = (w.alloc (.cells h.cells 37)).alloc (.cells zeroZone.toArray 76) := ⟨_, rfl⟩
 have HB0 : Hid (Below w.heap.size w W0) := Lib.hid (by rw [hW0]; exact ((Below.refl _ _).alloc (Nat.le_refl _) _).alloc (by simp) _)
 have HS0 : Hid (W0.heap.size = w.heap.size + 2) := Lib.hid (by rw [hW0]; simp)
 have HHX : Hid (∀ W, Below W0.heap.size W0 W → W.heap[w.heap.size]? = some (.cells h.cells 37 (0, 0))) := Lib.hid (fun W hW => (hW.block _ (by rw [HS0.out]; omega)).trans (by rw [hW0]; exact (Below.heap_alloc _ _ _ (by simp)).trans (heap_alloc_new _ _)))
 have HRX : Hid (∀ W, Below W0.heap.size W0 W → W.heap[w.heap.size + 1]? = some (.cells zeroZone.toArray 76 (0, 0))) := Lib.hid (fun W hW => (hW.block _ (by rw [HS0.out]; omega)).trans (by
  rw [hW0]
  have := heap_alloc_new (w.alloc (.cells h.cells 37)) (.cells zeroZone.toArray 76)
  simpa using this))
 have HN := Lib.hid hn
 have HL := Lib.hid hL
 have HR := Lib.hid hr
 have hu := Tryz.underlying76
 have HSZ : Hid (∀ y, Fits kZone y → (Tryz.prog.info? 76).map (·.size) = some y.toArray.size) := Lib.hid (fun y hy => by rw [show (Tryz.prog.info? 76).map (·.size) = some 2 from by kernel_rfl, List.size_toArray, hy.length]; rfl)
 have HAT := Lib.hid (atZone_first L s)
 clear hn hL hr
 go_enter Tryz.func156, Tryz.ntmps156
 go_wp2_with fail
 unfold Hs.cells at hW0
 unfold zeroZone at hW0
 have HE : Hid (∀ (i : Nat) (W : World), Below W0.heap.size W0 W → W.cell? ⟨w.heap.size, 2, none⟩ = some (.slice (h.A 2) (h.n 2) (h.c 2))) := Lib.hid (fun i W hW => (cell_of_block (HHX.out W hW)).trans rfl)
 obtain ⟨n, hnn⟩ : ∃ n, h.n 2 = n := ⟨_, rfl⟩
 rw [hnn] at HN HE hn6
 have HNN := Lib.hid hnn
 go_loopw [6] (fun i wr => ∃ k : Nat, k ≤ n ∧ i = .int .i64 (k : Int) ∧ Hid (∀ j (hj : j < L.length), j < k → Pl.eqv (codeOf L[j]) s = false) ∧ Hid (Below W0.heap.size W0 wr)) (fun i _ => n - (intOf i).toNat)
 case atStart => exact ⟨0, by omega, rfl, Lib.hid (fun j hj h => by omega), Lib.hid (by rw [hW0]; exact Below.refl _ _)⟩
 case round =>
  obtain ⟨k, hkn, rfl, hno, hbel⟩ := hrel
  have c0 := HE.out 0 wr hbel.out
  have HBR : Hid (Below w.heap.size w wr) := Lib.hid (HB0.out.trans (hbel.out.mono HB0.out.size))
  have HX1 := Lib.hid (HRX.out wr hbel.out)
  by_cases hlt : k < n
  · have hl : k < L.length := by rw [← HN.out]; exact hlt
    obtain ⟨b, off, hA, hb, hc⟩ := HR.out.thing HL.out (by decide) hl
    rw [hA] at c0 HE
    have fx := HL.out _ (List.getElem_mem hl)
    have r1 := rangeAt_below (hc k hl) hb HBR.out
    rw [show kZone.length = 2 from rfl] at r1
    obtain ⟨x, hx⟩ : ∃ x, L[k] = x := ⟨_, rfl⟩
    rw [hx] at fx r1
    have HXK := Lib.hid hx
    have HF := Lib.hid fx
    have HR1 := Lib.hid r1
    obtain ⟨r, hxr⟩ := code_Zone fx
    obtain ⟨q, hq⟩ : ∃ q, codeOf x = q := ⟨_, rfl⟩
    have d0 : wr.cell? ⟨b, off + k * 2, none⟩ = some (.string q) := by
     have := r1 0 (.string q) (by rw [hxr, hq]; rfl)
     simpa using this
    have HQ := Lib.hid hq
    have h1 : (0 : Int) ≤ (k : Int) := by omega
    have h2 : (k : Int) < (n : Int) := by omega
    have HIX : Hid ((Tryz.prog.info? 76).map (·.size) = some x.length) := Lib.hid (by have := HSZ.out x fx; rwa [List.size_toArray] at this)
    have HOZ : Hid (zeroZone.toArray.size = x.toArray.size) := Lib.hid (by rw [List.size_toArray, List.size_toArray, fx.length]; rfl)
    have HOC : Hid (x.toArray.all (·.oneCell') = true) := Lib.hid (all_oneCell_toArray (fits_one fx))
    have HBE : Hid (Below w.heap.size w (wr.setRow (w.heap.size + 1) x.toArray)) := Lib.hid (by
     have hb := HBR.out
     exact ⟨hb.os, hb.tape, hb.output, by simpa using hb.size, fun k hk => (setRow_other _ _ k _ (by omega)).trans (hb.block k hk)⟩)
    clear hc r1 hx fx hb hA hq hxr
    cases he : Pl.eqv q s with
    | true =>
     have HG : Hid (atZone L s = some k) := Lib.hid (by
      rw [HAT.out]
      exact Pl.firstG_some hl (fun j hj hjk => hno.out j hj hjk) (by rw [HXK.out, HQ.out]; exact he))
     have HG2 : Hid (gotZone L s = x) := Lib.hid (by
      unfold gotZone; rw [HG.out]; simp only []; rw [List.getD_eq_getElem?_getD, List.getElem?_eq_getElem hl]; exact HXK.out)
     have he' : (q.toList == s.toList) = true := he
     clear he
     go_wp2_with (first
      | (refine wpList_load_mid rfl 76 (.tmp 25) rfl b (off + k * 2) rfl x _ HR1.out hu rfl HIX.out ?_)
      | (refine wpList_store_row rfl 76 (.tmp 4) (.tmp 26) rfl (w.heap.size + 1) x.toArray rfl rfl _ _ HX1.out (HSZ.out _ HF.out) HOZ.out HOC.out ?_)
      | fail)
     exact bodyPost_ret (results_row_tmp rfl _ _ (w.heap.size + 1) _ _ _ _ rfl (setRow_heap _ _ _ _ _ _ HX1.out) hu rfl (HSZ.out _ HF.out)) rfl ⟨by rw [HG2.out, HG.out]; rfl, HBE.out⟩
    | false =>
     have HNO : Hid (∀ j (hj : j < L.length), j < k + 1 → Pl.eqv (codeOf L[j]) s = false) := Lib.hid (fun j hj hjk => by
      by_cases e : j = k
      · subst e; rw [HXK.out, HQ.out]; exact he
      · exact hno.out j hj (by omega))
     have he' : (q.toList == s.toList) = false := he
     clear he
     go_wp2_with fail
     go_roundw
     case rel => exact ⟨k + 1, by omega, by go_num, HNO, hbel⟩
     case measure => simp [intOf]; omega
  · have HG : Hid (atZone L s = none) := Lib.hid (by
     rw [HAT.out]
     exact Pl.firstG_none (fun j hj => hno.out j hj (by have := HN.out; omega)))
    have HG2 : Hid (gotZone L s = zeroZone) := Lib.hid (by unfold gotZone; rw [HG.out])
    have HZO : Hid (zeroZone.toArray.all (·.oneCell') = true) := Lib.hid (by simp [zeroZone, Value.oneCell'])
    have HBE : Hid (Below w.heap.size w (wr.setRow (w.heap.size + 1) zeroZone.toArray)) := Lib.hid (by
     have hb := HBR.out
     exact ⟨hb.os, hb.tape, hb.output, by simpa using hb.size, fun k hk => (setRow_other _ _ k _ (by omega)).trans (hb.block k hk)⟩)
    go_wp2_with (first
     | (refine wpList_store_row rfl 76 (.tmp 4) (.tmp 27) rfl (w.heap.size + 1) zeroZone.toArray rfl rfl _ _ HX1.out (HSZ.out _ zeroZone_fits) rfl HZO.out ?_)
     | fail)
    exact bodyPost_ret (results_row_tmp rfl _ _ (w.heap.size + 1) _ _ _ _ rfl (setRow_heap _ _ _ _ _ _ HX1.out) hu rfl (HSZ.out _ zeroZone_fits)) rfl ⟨by rw [HG2.out, HG.out]; rfl, HBE.out⟩
end Go.Proofs.YtlkmccmbpnbgbaaGreat

namespace Go.Proofs.YtlkmccmbpnbgbaaGreat
set_option linter.unusedVariables false
open Go.RowKit
open Pl (firstG findG)

set_option maxRecDepth 100000 in
set_option maxHeartbeats 1600000 in
theorem rfindBin (h : Hs) (L : List (List Value)) (s : ByteArray) (w : World) (hn : h.n 3 = L.length) (hn6 : h.n 3 ≤ 1000000) (hL : Things kBin L) (hr : Rd w w.heap.size (h.A 3) L.flatten) :
 Calls Tryz.prog 134 #[.agg h.cells, .string s] w fun e w' => e = .returned (.tuple #[.agg (gotBin L s).toArray, .bool (atBin L s).isSome]) ∧ Below w.heap.size w w' := by
 obtain ⟨W0, hW0⟩ : ∃ W0, W0 = (w.alloc (.cells h.cells 37)).alloc (.cells zeroBin.toArray 79) := ⟨_, rfl⟩
 have HB0 : Hid (Below w.heap.size w W0) := Lib.hid (by rw [hW0]; exact ((Below.refl _ _).alloc (Nat.le_refl _) _).alloc (by simp) _)
 have HS0 : Hid (W0.heap.size = w.heap.size + 2) := Lib.hid (by rw [hW0]; simp)
 have HHX : Hid (∀ W, Below W0.heap.size W0 W → W.heap[w.heap.size]? = some (.cells h.cells 37 (0, 0))) := Lib.hid (fun W hW => (hW.block _ (by rw [HS0.out]; omega)).trans (by rw [hW0]; exact (Below.heap_alloc _ _ _ (by simp)).trans (heap_alloc_new _ _)))
 have HRX : Hid (∀ W, Below W0.heap.size W0 W → W.heap[w.heap.size + 1]? = some (.cells zeroBin.toArray 79 (0, 0))) := Lib.hid (fun W hW => (hW.block _ (by rw [HS0.out]; omega)).trans (by
  rw [hW0]
  have := heap_alloc_new (w.alloc (.cells h.cells 37)) (.cells zeroBin.toArray 79)
  simpa using this))
 have HN := Lib.hid hn
 have HL := Lib.hid hL
 have HR := Lib.hid hr
 have hu := Tryz.underlying79
 have HSZ : Hid (∀ y, Fits kBin y → (Tryz.prog.info? 79).map (·.size) = some y.toArray.size) := Lib.hid (fun y hy => by rw [show (Tryz.prog.info? 79).map (·.size) = some 8 from by kernel_rfl, List.size_toArray, hy.length]; rfl)
 have HAT := Lib.hid (atBin_first L s)
 clear hn hL hr
 go_enter Tryz.func134, Tryz.ntmps134
 go_wp2_with fail
 unfold Hs.cells at hW0
 unfold zeroBin at hW0
 have HE : Hid (∀ (i : Nat) (W : World), Below W0.heap.size W0 W → W.cell? ⟨w.heap.size, 3, none⟩ = some (.slice (h.A 3) (h.n 3) (h.c 3))) := Lib.hid (fun i W hW => (cell_of_block (HHX.out W hW)).trans rfl)
 obtain ⟨n, hnn⟩ : ∃ n, h.n 3 = n := ⟨_, rfl⟩
 rw [hnn] at HN HE hn6
 have HNN := Lib.hid hnn
 go_loopw [6] (fun i wr => ∃ k : Nat, k ≤ n ∧ i = .int .i64 (k : Int) ∧ Hid (∀ j (hj : j < L.length), j < k → Pl.eqv (codeOf L[j]) s = false) ∧ Hid (Below W0.heap.size W0 wr)) (fun i _ => n - (intOf i).toNat)
 case atStart => exact ⟨0, by omega, rfl, Lib.hid (fun j hj h => by omega), Lib.hid (by rw [hW0]; exact Below.refl _ _)⟩
 case round =>
  obtain ⟨k, hkn, rfl, hno, hbel⟩ := hrel
  have c0 := HE.out 0 wr hbel.out
  have HBR : Hid (Below w.heap.size w wr) := Lib.hid (HB0.out.trans (hbel.out.mono HB0.out.size))
  have HX1 := Lib.hid (HRX.out wr hbel.out)
  by_cases hlt : k < n
  · have hl : k < L.length := by rw [← HN.out]; exact hlt
    obtain ⟨b, off, hA, hb, hc⟩ := HR.out.thing HL.out (by decide) hl
    rw [hA] at c0 HE
    have fx := HL.out _ (List.getElem_mem hl)
    have r1 := rangeAt_below (hc k hl) hb HBR.out
    rw [show kBin.length = 8 from rfl] at r1
    obtain ⟨x, hx⟩ : ∃ x, L[k] = x := ⟨_, rfl⟩
    rw [hx] at fx r1
    have HXK := Lib.hid hx
    have HF := Lib.hid fx
    have HR1 := Lib.hid r1
    obtain ⟨r, hxr⟩ := code_Bin fx
    obtain ⟨q, hq⟩ : ∃ q, codeOf x = q := ⟨_, rfl⟩
    have d0 : wr.cell? ⟨b, off + k * 8, none⟩ = some (.string q) := by
     have := r1 0 (.string q) (by rw [hxr, hq]; rfl)
     simpa using this
    have HQ := Lib.hid hq
    have h1 : (0 : Int) ≤ (k : Int) := by omega
    have h2 : (k : Int) < (n : Int) := by omega
    have HIX : Hid ((Tryz.prog.info? 79).map (·.size) = some x.length) := Lib.hid (by have := HSZ.out x fx; rwa [List.size_toArray] at this)
    have HOZ : Hid (zeroBin.toArray.size = x.toArray.size) := Lib.hid (by rw [List.size_toArray, List.size_toArray, fx.length]; rfl)
    have HOC : Hid (x.toArray.all (·.oneCell') = true) := Lib.hid (all_oneCell_toArray (fits_one fx))
    have HBE : Hid (Below w.heap.size w (wr.setRow (w.heap.size + 1) x.toArray)) := Lib.hid (by
     have hb := HBR.out
     exact ⟨hb.os, hb.tape, hb.output, by simpa using hb.size, fun k hk => (setRow_other _ _ k _ (by omega)).trans (hb.block k hk)⟩)
    clear hc r1 hx fx hb hA hq hxr
    cases he : Pl.eqv q s with
    | true =>
     have HG : Hid (atBin L s = some k) := Lib.hid (by
      rw [HAT.out]
      exact Pl.firstG_some hl (fun j hj hjk => hno.out j hj hjk) (by rw [HXK.out, HQ.out]; exact he))
     have HG2 : Hid (gotBin L s = x) := Lib.hid (by
      unfold gotBin; rw [HG.out]; simp only []; rw [List.getD_eq_getElem?_getD, List.getElem?_eq_getElem hl]; exact HXK.out)
     have he' : (q.toList == s.toList) = true := he
     clear he
     go_wp2_with (first
      | (refine wpList_load_mid rfl 79 (.tmp 25) rfl b (off + k * 8) rfl x _ HR1.out hu rfl HIX.out ?_)
      | (refine wpList_store_row rfl 79 (.tmp 4) (.tmp 26) rfl (w.heap.size + 1) x.toArray rfl rfl _ _ HX1.out (HSZ.out _ HF.out) HOZ.out HOC.out ?_)
      | fail)
     exact bodyPost_ret (results_row_tmp rfl _ _ (w.heap.size + 1) _ _ _ _ rfl (setRow_heap _ _ _ _ _ _ HX1.out) hu rfl (HSZ.out _ HF.out)) rfl ⟨by rw [HG2.out, HG.out]; rfl, HBE.out⟩
    | false =>
     have HNO : Hid (∀ j (hj : j < L.length), j < k + 1 → Pl.eqv (codeOf L[j]) s = false) := Lib.hid (fun j hj hjk => by
      by_cases e : j = k
      · subst e; rw [HXK.out, HQ.out]; exact he
      · exact hno.out j hj (by omega))
     have he' : (q.toList == s.toList) = false := he
     clear he
     go_wp2_with fail
     go_roundw
     case rel => exact ⟨k + 1, by omega, by go_num, HNO, hbel⟩
     case measure => simp [intOf]; omega
  · have HG : Hid (atBin L s = none) := Lib.hid (by
     rw [HAT.out]
     exact Pl.firstG_none (fun j hj => hno.out j hj (by have := HN.out; omega)))
    have HG2 : Hid (gotBin L s = zeroBin) := Lib.hid (by unfold gotBin; rw [HG.out])
    have HZO : Hid (zeroBin.toArray.all (·.oneCell') = true) := Lib.hid (by simp [zeroBin, Value.oneCell'])
    have HBE : Hid (Below w.heap.size w (wr.setRow (w.heap.size + 1) zeroBin.toArray)) := Lib.hid (by
     have hb := HBR.out
     exact ⟨hb.os, hb.tape, hb.output, by simpa using hb.size, fun k hk => (setRow_other _ _ k _ (by omega)).trans (hb.block k hk)⟩)
    go_wp2_with (first
     | (refine wpList_store_row rfl 79 (.tmp 4) (.tmp 27) rfl (w.heap.size + 1) zeroBin.toArray rfl rfl _ _ HX1.out (HSZ.out _ zeroBin_fits) rfl HZO.out ?_)
     | fail)
    exact bodyPost_ret (results_row_tmp rfl _ _ (w.heap.size + 1) _ _ _ _ rfl (setRow_heap _ _ _ _ _ _ HX1.out) hu rfl (HSZ.out _ zeroBin_fits)) rfl ⟨by rw [HG2.out, HG.out]; rfl, HBE.out⟩
end Go.Proofs.YtlkmccmbpnbgbaaGreat

namespace Go.Proofs.YtlkmccmbpnbgbaaGreat
set_option linter.unusedVariables false
open Go.RowKit
open Pl (firstG findG putG It)

theorem frZone {h : Hs} {L : Nat → List (List Value)} {w : World} (hh : HT h L w) (s : ByteArray) : Calls Tryz.prog 156 #[.agg h.cells, .string s] w fun e w' => e = .returned (.tuple #[.agg (gotZone (L 2) s).toArray, .bool (atZone (L 2) s).isSome]) ∧ Below w.heap.size w w' :=
 rfindZone h (L 2) s w (hh 2 (by decide)).1 (hh 2 (by decide)).2.1 (hh 2 (by decide)).2.2.1 (hh 2 (by decide)).2.2.2
theorem frBin {h : Hs} {L : Nat → List (List Value)} {w : World} (hh : HT h L w) (s : ByteArray) : Calls Tryz.prog 134 #[.agg h.cells, .string s] w fun e w' => e = .returned (.tuple #[.agg (gotBin (L 3) s).toArray, .bool (atBin (L 3) s).isSome]) ∧ Below w.heap.size w w' :=
 rfindBin h (L 3) s w (hh 3 (by decide)).1 (hh 3 (by decide)).2.1 (hh 3 (by decide)).2.2.1 (hh 3 (by decide)).2.2.2
set_option maxRecDepth 100000 in
set_option maxHeartbeats 3200000 in
theorem rsite_any (h : Hs) (L : Nat → List (List Value)) (s : ByteArray) (w : World) (hh : HT h L w) :
 Calls Tryz.prog 135 #[.agg h.cells, .string s] w fun e w' => e = .returned (.string (siteT (L 2) (L 3) s)) ∧ Below w.heap.size w w' := by
 obtain ⟨y, hy, hyb⟩ := bin_eight hh s
 obtain ⟨ga, gb, hg, hgs⟩ := zone_two hh y.zone
 have HFB := Lib.hid (fun W (hW : Below w.heap.size w W) => frBin (hh.below hW) s)
 have HFZ := Lib.hid (fun W (hW : Below w.heap.size w W) => frZone (hh.below hW) y.zone)
 obtain ⟨il, hil⟩ : ∃ q, (atBin (L 3) s).isSome = q := ⟨_, rfl⟩
 obtain ⟨iz, hiz⟩ : ∃ q, (atZone (L 2) y.zone).isSome = q := ⟨_, rfl⟩
 obtain ⟨r, hr⟩ : ∃ r, siteT (L 2) (L 3) s = r := ⟨_, rfl⟩
 have HA : Hid (r = if il = true then gb else ⟨#[]⟩) := Lib.hid (by rw [← hr]; unfold siteT; rw [hil, hyb, hgs])
 rw [hy, hil] at HFB
 unfold Bn.cells at HFB
 rw [hg, hiz] at HFZ
 rw [hr]
 clear hr hil hiz hy hyb hg hgs
 obtain ⟨W0, hW0⟩ : ∃ W0, W0 = (w.alloc (.cells h.cells 37)) := ⟨_, rfl⟩
 have hb0 : Below w.heap.size w W0 := by rw [hW0]; exact (Below.refl _ _).alloc (Nat.le_refl _) _
 have hs0 : W0.heap.size = w.heap.size + 1 := by rw [hW0]; simp
 have HH : Hid (∀ W, Below W0.heap.size W0 W → W.heap[w.heap.size]? = some (.cells h.cells 37 (0, 0))) := Lib.hid (fun W hW => (hW.block _ (by omega)).trans (by
  rw [hW0]
  have hq := heap_alloc_new w (.cells h.cells 37)
  exact (by simpa using hq)))
 have HBW : Hid (∀ W, Below W0.heap.size W0 W → Below w.heap.size w W ∧ w.heap.size + 1 ≤ W.heap.size) := Lib.hid (fun W hW => ⟨hb0.trans (hW.mono (by omega)), by have := hW.size; omega⟩)
 have huh := Tryz.underlying37
 have HSH : Hid (∀ a : Hs, (Tryz.prog.info? 37).map (·.size) = some a.cells.size) := Lib.hid (fun a => by kernel_rfl)
 have H0 := Lib.hid (Below.refl W0.heap.size W0)
 clear hb0 hs0 hh
 subst hW0
 go_enter Tryz.func135, Tryz.ntmps135
 go_wp2_with (first
  | (refine wpList_load_row rfl 37 (.tmp 2) rfl w.heap.size rfl _ _ _ _ (HH.out _ H0.out) huh rfl (HSH.out _) ?_)
  | fail)
 refine (HFB.out _ (HBW.out _ H0.out).1).mono ?_
 rintro e w1 ⟨rfl, hb1⟩
 have H1 := Lib.hid (H0.out.trans (hb1.mono H0.out.size))
 clear hb1
 have H2 := Lib.hid (H1.out.alloc H1.out.size (.cells #[.string y.code, .string y.zone, .int .i64 y.kind, .int .i64 y.aisle, .int .i64 y.place, .int .i64 y.vol, .int .i64 y.wei, .bool y.frz] 79))
 cases il with
 | false =>
  have HE : Hid (r = ⟨#[]⟩) := Lib.hid (by rw [HA.out]; rfl)
  go_wp2_with fail
  go_ret
  exact ⟨by rw [HE.out]; rfl, (HBW.out _ H2.out).1⟩
 | true =>
  have HE : Hid (r = gb) := Lib.hid (by rw [HA.out]; rfl)
  go_wp2_with (first
   | (refine wpList_load_row rfl 37 (.tmp 2) rfl w.heap.size rfl _ _ _ _ (HH.out _ H2.out) huh rfl (HSH.out _) ?_)
   | fail)
  refine (HFZ.out _ (HBW.out _ H2.out).1).mono ?_
  rintro e w2 ⟨rfl, hb2⟩
  have H3 := Lib.hid (H2.out.trans (hb2.mono H2.out.size))
  clear hb2
  have H4 := Lib.hid (H3.out.alloc H3.out.size (.cells #[.string ga, .string gb] 76))
  go_wp2_with fail
  go_ret
  exact ⟨by rw [HE.out]; rfl, (HBW.out _ H4.out).1⟩

end Go.Proofs.YtlkmccmbpnbgbaaGreat
