/-
 CONTRACT of the rows' FindLot.
-/
import Derived.Test.YtnkhnbpopdmkhaaGreatHHouse
import Derived.Test.YtnkhnbpopdmkhaaGreatOPl
namespace Go.Proofs.YtnkhnbpopdmkhaaGreat
set_option linter.unusedVariables false
open Go.RowKit
open Pl (firstG findG)

set_option maxRecDepth 100000 in
set_option maxHeartbeats 1600000 in
theorem rfindl_any (h : Hs) (L : List (List Value)) (s t : ByteArray) (w : World) (hn : h.n 1 = L.length) (hn6 : h.n 1 ≤ 1000000) (hL : Things kLot L) (hr : Rd w w.heap.size (h.A 1) L.flatten) :
 Calls Tryz.prog 75 #[.agg h.cells, .string s, .string t] w fun e w' => e = .returned (.tuple #[.agg (gotL L s t).toArray, .bool (atL L s t).isSome]) ∧ Below w.heap.size w w' := by
 obtain ⟨W0, hW0⟩ : ∃ W0, W0 = (w.alloc (.cells h.cells 37)).alloc (.cells zeroL.toArray 71) := ⟨_, rfl⟩
 have HB0 : Hid (Below w.heap.size w W0) := Lib.hid (by rw [hW0]; exact ((Below.refl _ _).alloc (Nat.le_refl _) _).alloc (by simp) _)
 have HS0 : Hid (W0.heap.size = w.heap.size + 2) := Lib.hid (by rw [hW0]; simp)
 have HHX : Hid (∀ W, Below W0.heap.size W0 W → W.heap[w.heap.size]? = some (.cells h.cells 37 (0, 0))) := Lib.hid (fun W hW => (hW.block _ (by rw [HS0.out]; omega)).trans (by rw [hW0]; exact (Below.heap_alloc _ _ _ (by simp)).trans (heap_alloc_new _ _)))
 have HRX : Hid (∀ W, Below W0.heap.size W0 W → W.heap[w.heap.size + 1]? = some (.cells zeroL.toArray 71 (0, 0))) := Lib.hid (fun W hW => (hW.block _ (by rw [HS0.out]; omega)).trans (by
  rw [hW0]
  have := heap_alloc_new (w.alloc (.cells h.cells 37)) (.cells zeroL.toArray 71)
  simpa using this))
 have HN := Lib.hid hn
 have HL := Lib.hid hL
 have HR := Lib.hid hr
 have hu := Tryz.underlying71
 have HSZ : Hid (∀ y, Fits kLot y → (Tryz.prog.info? 71).map (·.size) = some y.toArray.size) := Lib.hid (fun y hy => by rw [show (Tryz.prog.info? 71).map (·.size) = some 3 from by kernel_rfl, List.size_toArray, hy.length]; rfl)
 have HAT := Lib.hid (atL_first L s t)
 clear hn hL hr
 go_enter Tryz.func75, Tryz.ntmps75
 go_wp2_with fail
 unfold Hs.cells at hW0
 unfold zeroL at hW0
 have HE : Hid (∀ (i : Nat) (W : World), Below W0.heap.size W0 W → W.cell? ⟨w.heap.size, 1, none⟩ = some (.slice (h.A 1) (h.n 1) (h.c 1))) := Lib.hid (fun i W hW => (cell_of_block (HHX.out W hW)).trans rfl)
 obtain ⟨n, hnn⟩ : ∃ n, h.n 1 = n := ⟨_, rfl⟩
 rw [hnn] at HN HE hn6
 have HNN := Lib.hid hnn
 go_loopw [8] (fun i wr => ∃ k : Nat, k ≤ n ∧ i = .int .i64 (k : Int) ∧ Hid (∀ j (hj : j < L.length), j < k → (Pl.eqv (itemL L[j]) s && Pl.eqv (codeL L[j]) t) = false) ∧ Hid (Below W0.heap.size W0 wr)) (fun i _ => n - (intOf i).toNat)
 case atStart => exact ⟨0, by omega, rfl, Lib.hid (fun j hj h => by omega), Lib.hid (by rw [hW0]; exact Below.refl _ _)⟩
 case round =>
  obtain ⟨k, hkn, rfl, hno, hbel⟩ := hrel
  have c0 := HE.out 0 wr hbel.out
  have HBR : Hid (Below w.heap.size w wr) := Lib.hid (HB0.out.trans (hbel.out.mono HB0.out.size))
  have HX1 := Lib.hid (HRX.out wr hbel.out)
  by_cases hlt : k < n
  · have hl : k < L.length := by rw [← HN.out]; exact hlt
    obtain ⟨b, off, hA, hb, hc⟩ := HR.out.thing HL.out (by decide) hl
    rw [hA] at c0 HE
    have fx := HL.out _ (List.getElem_mem hl)
    have r1 := rangeAt_below (hc k hl) hb HBR.out
    rw [show kLot.length = 3 from rfl] at r1
    obtain ⟨x, hx⟩ : ∃ x, L[k] = x := ⟨_, rfl⟩
    rw [hx] at fx r1
    have HXK := Lib.hid hx
    have HF := Lib.hid fx
    have HR1 := Lib.hid r1
    have hxr := lot_cells fx
    obtain ⟨q, hq⟩ : ∃ q, itemL x = q := ⟨_, rfl⟩
    obtain ⟨q2, hq2⟩ : ∃ q, codeL x = q := ⟨_, rfl⟩
    rw [hq, hq2] at hxr
    have d0 : wr.cell? ⟨b, off + k * 3, none⟩ = some (.string q) := by
     have := r1 0 (.string q) (by rw [hxr]; rfl)
     simpa using this
    have d1 : wr.cell? ⟨b, off + k * 3 + 1, none⟩ = some (.string q2) := r1 1 (.string q2) (by rw [hxr]; rfl)
    have HQ := Lib.hid hq
    have HQ2 := Lib.hid hq2
    have h1 : (0 : Int) ≤ (k : Int) := by omega
    have h2 : (k : Int) < (n : Int) := by omega
    have HIX : Hid ((Tryz.prog.info? 71).map (·.size) = some x.length) := Lib.hid (by have := HSZ.out x fx; rwa [List.size_toArray] at this)
    have HOZ : Hid (zeroL.toArray.size = x.toArray.size) := Lib.hid (by rw [List.size_toArray, List.size_toArray, fx.length]; rfl)
    have HOC : Hid (x.toArray.all (·.oneCell') = true) := Lib.hid (all_oneCell_toArray (fits_one fx))
    have HBE : Hid (Below w.heap.size w (wr.setRow (w.heap.size + 1) x.toArray)) := Lib.hid (by
     have hb := HBR.out
     exact ⟨hb.os, hb.tape, hb.output, by simpa using hb.size, fun k hk => (setRow_other _ _ k _ (by omega)).trans (hb.block k hk)⟩)
    clear hc r1 hx fx hb hA hq hxr hq2
    cases he : (Pl.eqv q s && Pl.eqv q2 t) with
    | true =>
     have HG : Hid (atL L s t = some k) := Lib.hid (by
      rw [HAT.out]
      exact Pl.firstG_some hl (fun j hj hjk => hno.out j hj hjk) (by rw [HXK.out, HQ.out, HQ2.out]; exact he))
     have HG2 : Hid (gotL L s t = x) := Lib.hid (by
      unfold gotL; rw [HG.out]; simp only []; rw [List.getD_eq_getElem?_getD, List.getElem?_eq_getElem hl]; exact HXK.out)
     rw [Bool.and_eq_true] at he
     have he1 : (q.toList == s.toList) = true := he.1
     have he2 : (q2.toList == t.toList) = true := he.2
     clear he
     go_wp2_with (first
      | (refine wpList_load_mid rfl 71 (.tmp 37) rfl b (off + k * 3) rfl x _ HR1.out hu rfl HIX.out ?_)
      | (refine wpList_store_row rfl 71 (.tmp 6) (.tmp 38) rfl (w.heap.size + 1) x.toArray rfl rfl _ _ HX1.out (HSZ.out _ HF.out) HOZ.out HOC.out ?_)
      | fail)
     exact bodyPost_ret (results_row_tmp rfl _ _ (w.heap.size + 1) _ _ _ _ rfl (setRow_heap _ _ _ _ _ _ HX1.out) hu rfl (HSZ.out _ HF.out)) rfl ⟨by rw [HG2.out, HG.out]; rfl, HBE.out⟩
    | false =>
     have HNO : Hid (∀ j (hj : j < L.length), j < k + 1 → (Pl.eqv (itemL L[j]) s && Pl.eqv (codeL L[j]) t) = false) := Lib.hid (fun j hj hjk => by
      by_cases e : j = k
      · subst e; rw [HXK.out, HQ.out, HQ2.out]; exact he
      · exact hno.out j hj (by omega))
     have hcase : (q.toList == s.toList) = false ∨ ((q.toList == s.toList) = true ∧ (q2.toList == t.toList) = false) := by
      have e1 : Pl.eqv q s = (q.toList == s.toList) := rfl
      have e2 : Pl.eqv q2 t = (q2.toList == t.toList) := rfl
      rw [e1, e2] at he
      cases h : (q.toList == s.toList) with
      | false => exact .inl rfl
      | true => rw [h, Bool.true_and] at he; exact .inr ⟨rfl, he⟩
     clear he
     rcases hcase with he1 | ⟨he1, he2⟩
     · go_wp2_with fail
       go_roundw
       case rel => exact ⟨k + 1, by omega, by go_num, HNO, hbel⟩
       case measure => simp [intOf]; omega
     · go_wp2_with fail
       go_roundw
       case rel => exact ⟨k + 1, by omega, by go_num, HNO, hbel⟩
       case measure => simp [intOf]; omega
  · have HG : Hid (atL L s t = none) := Lib.hid (by
     rw [HAT.out]
     exact Pl.firstG_none (fun j hj => hno.out j hj (by have := HN.out; omega)))
    have HG2 : Hid (gotL L s t = zeroL) := Lib.hid (by unfold gotL; rw [HG.out])
    have HZO : Hid (zeroL.toArray.all (·.oneCell') = true) := Lib.hid (by simp [zeroL, Value.oneCell'])
    have HBE : Hid (Below w.heap.size w (wr.setRow (w.heap.size + 1) zeroL.toArray)) := Lib.hid (by
     have hb := HBR.out
     exact ⟨hb.os, hb.tape, hb.output, by simpa using hb.size, fun k hk => (setRow_other _ _ k _ (by omega)).trans (hb.block k hk)⟩)
    go_wp2_with (first
     | (refine wpList_store_row rfl 71 (.tmp 6) (.tmp 39) rfl (w.heap.size + 1) zeroL.toArray rfl rfl _ _ HX1.out (HSZ.out _ zeroL_fits) rfl HZO.out ?_)
     | fail)
    exact bodyPost_ret (results_row_tmp rfl _ _ (w.heap.size + 1) _ _ _ _ rfl (setRow_heap _ _ _ _ _ _ HX1.out) hu rfl (HSZ.out _ zeroL_fits)) rfl ⟨by rw [HG2.out, HG.out]; rfl, HBE.out⟩
end Go.Proofs.YtnkhnbpopdmkhaaGreat
