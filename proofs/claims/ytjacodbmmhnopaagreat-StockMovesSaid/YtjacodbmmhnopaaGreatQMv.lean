/-
  CONTRACT of the rows' FindItem.
  CONTRACTS of the reference's Load, Fits (stage 11), Move (stage 12). (By wip/tools/gen_qref.py.)
  (By wip/tools/merge.py.)
-/
import Derived.Test.YtjacodbmmhnopaaGreatOItem
import Derived.Test.YtjacodbmmhnopaaGreatHLents
import Derived.Test.YtjacodbmmhnopaaGreatQRef
import Derived.Test.YtjacodbmmhnopaaGreatZFacts
import Derived.Deep.CutRange
namespace Go.Proofs.YtjacodbmmhnopaaGreat
set_option linter.unusedVariables false
open Go.RowKit
open Pl (firstG findG)

set_option maxRecDepth 100000 in
set_option maxHeartbeats 1600000 in
theorem rfindItem (h : Hs) (L : List (List Value)) (s : ByteArray) (w : World) (hn : h.n 0 = L.length) (hn6 : h.n 0 ≤ 1000000) (hL : Things kItem L) (hr : Rd w w.heap.size (h.A 0) L.flatten) :
    Calls Tryz.prog 69 #[.agg h.cells, .string s] w fun e w' => e = .returned (.tuple #[.agg (gotItem L s).toArray, .bool (atItem L s).isSome]) ∧ Below w.heap.size w w' := by
  obtain ⟨W0, hW0⟩ : ∃ W0, W0 = (w.alloc (.cells h.cells 37)).alloc (.cells zeroItem.toArray 65) := ⟨_, rfl⟩
  have HB0 : Hid (Below w.heap.size w W0) := Lib.hid (by rw [hW0]; exact ((Below.refl _ _).alloc (Nat.le_refl _) _).alloc (by simp) _)
  have HS0 : Hid (W0.heap.size = w.heap.size + 2) := Lib.hid (by rw [hW0]; simp)
  have HHX : Hid (∀ W, Below W0.heap.size W0 W → W.heap[w.heap.size]? = some (.cells h.cells 37 (0, 0))) := Lib.hid (fun W hW => (hW.block _ (by rw [HS0.out]; omega)).trans (by rw [hW0]; exact (Below.heap_alloc _ _ _ (by simp)).trans (heap_alloc_new _ _)))
  have HRX : Hid (∀ W, Below W0.heap.size W0 W → W.heap[w.heap.size + 1]? = some (.cells zeroItem.toArray 65 (0, 0))) := Lib.hid (fun W hW => (hW.block _ (by rw [HS0.out]; omega)).trans (by
    rw [hW0]
    have := heap_alloc_new (w.alloc (.cells h.cells 37)) (.cells zeroItem.toArray 65)
    simpa using this))
  have HN := Lib.hid hn
  have HL := Lib.hid hL
  have HR := Lib.hid hr
  have hu := Tryz.underlying65
  have HSZ : Hid (∀ y, Fits kItem y → (Tryz.prog.info? 65).map (·.size) = some y.toArray.size) := Lib.hid (fun y hy => by rw [show (Tryz.prog.info? 65).map (·.size) = some 14 from by kernel_rfl, List.size_toArray, hy.length]; rfl)
  have HAT := Lib.hid (atItem_first L s)
  clear hn hL hr
  go_enter Tryz.func69, Tryz.ntmps69
  go_wp2_with fail
  unfold Hs.cells at hW0
  unfold zeroItem at hW0
  have HE : Hid (∀ (i : Nat) (W : World), Below W0.heap.size W0 W → W.cell? ⟨w.heap.size, 0, none⟩ = some (.slice (h.A 0) (h.n 0) (h.c 0))) := Lib.hid (fun i W hW => (cell_of_block (HHX.out W hW)).trans rfl)
  obtain ⟨n, hnn⟩ : ∃ n, h.n 0 = n := ⟨_, rfl⟩
  rw [hnn] at HN HE hn6
  have HNN := Lib.hid hnn
  go_loopw [6] (fun i wr => ∃ k : Nat, k ≤ n ∧ i = .int .i64 (k : Int) ∧ Hid (∀ j (hj : j < L.length), j < k → Pl.eqv (codeOf L[j]) s = false) ∧ Hid (Below W0.heap.size W0 wr)) (fun i _ => n - (intOf i).toNat)
  case atStart => exact ⟨0, by omega, rfl, Lib.hid (fun j hj h => by omega), Lib.hid (by rw [hW0]; exact Below.refl _ _)⟩
  case round =>
    obtain ⟨k, hkn, rfl, hno, hbel⟩ := hrel
    have c0 := HE.out 0 wr hbel.out
    have HBR : Hid (Below w.heap.size w wr) := Lib.hid (HB0.out.trans (hbel.out.mono HB0.out.size))
    have HX1 := Lib.hid (HRX.out wr hbel.out)
    by_cases hlt : k < n
    · have hl : k < L.length := by rw [← HN.out]; exact hlt
      obtain ⟨b, off, hA, hb, hc⟩ := HR.out.thing HL.out (by decide) hl
      rw [hA] at c0 HE
      have fx := HL.out _ (List.getElem_mem hl)
      have r1 := rangeAt_below (hc k hl) hb HBR.out
      rw [show kItem.length = 14 from rfl] at r1
      obtain ⟨x, hx⟩ : ∃ x, L[k] = x := ⟨_, rfl⟩
      rw [hx] at fx r1
      have HXK := Lib.hid hx
      have HF := Lib.hid fx
      have HR1 := Lib.hid r1
      obtain ⟨r, hxr⟩ := code_Item fx
      obtain ⟨q, hq⟩ : ∃ q, codeOf x = q := ⟨_, rfl⟩
      have d0 : wr.cell? ⟨b, off + k * 14, none⟩ = some (.string q) := by
        have := r1 0 (.string q) (by rw [hxr, hq]; rfl)
        simpa using this
      have HQ := Lib.hid hq
      have h1 : (0 : Int) ≤ (k : Int) := by omega
      have h2 : (k : Int) < (n : Int) := by omega
      have HIX : Hid ((Tryz.prog.info? 65).map (·.size) = some x.length) := Lib.hid (by have := HSZ.out x fx; rwa [List.size_toArray] at this)
      have HOZ : Hid (zeroItem.toArray.size = x.toArray.size) := Lib.hid (by rw [List.size_toArray, List.size_toArray, fx.length]; rfl)
      have HOC : Hid (x.toArray.all (·.oneCell') = true) := Lib.hid (all_oneCell_toArray (fits_one fx))
      have HBE : Hid (Below w.heap.size w (wr.setRow (w.heap.size + 1) x.toArray)) := Lib.hid (by
        have hb := HBR.out
        exact ⟨hb.os, hb.tape, hb.output, by simpa using hb.size, fun k hk => (setRow_other _ _ k _ (by omega)).trans (hb.block k hk)⟩)
      clear hc r1 hx fx hb hA hq hxr
      cases he : Pl.eqv q s with
      | true =>
        have HG : Hid (atItem L s = some k) := Lib.hid (by
          rw [HAT.out]
          exact Pl.firstG_some hl (fun j hj hjk => hno.out j hj hjk) (by rw [HXK.out, HQ.out]; exact he))
        have HG2 : Hid (gotItem L s = x) := Lib.hid (by
          unfold gotItem; rw [HG.out]; simp only []; rw [List.getD_eq_getElem?_getD, List.getElem?_eq_getElem hl]; exact HXK.out)
        have he' : (q.toList == s.toList) = true := he
        clear he
        go_wp2_with (first
          | (refine wpList_load_mid rfl 65 (.tmp 25) rfl b (off + k * 14) rfl x _ HR1.out hu rfl HIX.out ?_)
          | (refine wpList_store_row rfl 65 (.tmp 4) (.tmp 26) rfl (w.heap.size + 1) x.toArray rfl rfl _ _ HX1.out (HSZ.out _ HF.out) HOZ.out HOC.out ?_)
          | fail)
        exact bodyPost_ret (results_row_tmp rfl _ _ (w.heap.size + 1) _ _ _ _ rfl (setRow_heap _ _ _ _ _ _ HX1.out) hu rfl (HSZ.out _ HF.out)) rfl ⟨by rw [HG2.out, HG.out]; rfl, HBE.out⟩
      | false =>
        have HNO : Hid (∀ j (hj : j < L.length), j < k + 1 → Pl.eqv (codeOf L[j]) s = false) := Lib.hid (fun j hj hjk => by
          by_cases e : j = k
          · subst e; rw [HXK.out, HQ.out]; exact he
          · exact hno.out j hj (by omega))
        have he' : (q.toList == s.toList) = false := he
        clear he
        go_wp2_with fail
        go_roundw
        case rel => exact ⟨k + 1, by omega, by go_num, HNO, hbel⟩
        case measure => simp [intOf]; omega
    · have HG : Hid (atItem L s = none) := Lib.hid (by
        rw [HAT.out]
        exact Pl.firstG_none (fun j hj => hno.out j hj (by have := HN.out; omega)))
      have HG2 : Hid (gotItem L s = zeroItem) := Lib.hid (by unfold gotItem; rw [HG.out])
      have HZO : Hid (zeroItem.toArray.all (·.oneCell') = true) := Lib.hid (by simp [zeroItem, Value.oneCell'])
      have HBE : Hid (Below w.heap.size w (wr.setRow (w.heap.size + 1) zeroItem.toArray)) := Lib.hid (by
        have hb := HBR.out
        exact ⟨hb.os, hb.tape, hb.output, by simpa using hb.size, fun k hk => (setRow_other _ _ k _ (by omega)).trans (hb.block k hk)⟩)
      go_wp2_with (first
        | (refine wpList_store_row rfl 65 (.tmp 4) (.tmp 27) rfl (w.heap.size + 1) zeroItem.toArray rfl rfl _ _ HX1.out (HSZ.out _ zeroItem_fits) rfl HZO.out ?_)
        | fail)
      exact bodyPost_ret (results_row_tmp rfl _ _ (w.heap.size + 1) _ _ _ _ rfl (setRow_heap _ _ _ _ _ _ HX1.out) hu rfl (HSZ.out _ zeroItem_fits)) rfl ⟨by rw [HG2.out, HG.out]; rfl, HBE.out⟩
end Go.Proofs.YtjacodbmmhnopaaGreat

namespace Go.Proofs.YtjacodbmmhnopaaGreat
set_option linter.unusedVariables false
open Go.RowKit
open Pl (firstG findG putG dropG It)

theorem frItem {h : Hs} {L : Nat → List (List Value)} {w : World} (hh : HT h L w) (s : ByteArray) : Calls Tryz.prog 69 #[.agg h.cells, .string s] w fun e w' => e = .returned (.tuple #[.agg (gotItem (L 0) s).toArray, .bool (atItem (L 0) s).isSome]) ∧ Below w.heap.size w w' :=
  rfindItem h (L 0) s w (hh 0 (by decide)).1 (hh 0 (by decide)).2.1 (hh 0 (by decide)).2.2.1 (hh 0 (by decide)).2.2.2
/-- A quant at its place. -/
theorem quant_at {h : Hs} {L : Nat → List (List Value)} {w : World} (hh : HT h L w) {k : Nat} (hk : k < (L 4).length) : ∃ b off, h.A 4 = some ⟨b, off, none⟩ ∧ b < w.heap.size ∧ w.rangeAt b (off + k * 6) (qnOf (L 4)[k]).cells := by
  obtain ⟨b, off, hA, hb, hc⟩ := (hh 4 (by decide)).2.2.2.thing (hh 4 (by decide)).2.2.1 (by decide) hk
  have := hc k hk
  rw [show (kOf 4).length = 6 from rfl] at this
  exact ⟨b, off, hA, hb, by rw [← qn_cells ((hh 4 (by decide)).2.2.1 _ (List.getElem_mem hk))]; exact this⟩
set_option maxRecDepth 100000 in
set_option maxHeartbeats 3200000 in
theorem rload_any (h : Hs) (L : Nat → List (List Value)) (s : ByteArray) (w : World) (hh : HT h L w) :
    Calls Tryz.prog 70 #[.agg h.cells, .string s] w fun e w' => e = .returned (.tuple #[.int .i64 (loadP (L 0) (L 4) s).1, .int .i64 (loadP (L 0) (L 4) s).2]) ∧ Below w.heap.size w w' := by
  have HHT := Lib.hid hh
  have hn9 := (hh 4 (by decide)).2.1
  obtain ⟨m, hmm⟩ : ∃ m, h.n 4 = m := ⟨_, rfl⟩
  have HNM : Hid (m = (L 4).length) := Lib.hid (by rw [← hmm]; exact (hh 4 (by decide)).1)
  rw [hmm] at hn9
  have HMM := Lib.hid hmm
  obtain ⟨r, hr⟩ : ∃ r, loadP (L 0) (L 4) s = r := ⟨_, rfl⟩
  rw [hr]
  have HR := Lib.hid hr
  clear hr hmm
  obtain ⟨W0, hW0⟩ : ∃ W0, W0 = (w.alloc (.cells h.cells 37)) := ⟨_, rfl⟩
  have hb0 : Below w.heap.size w W0 := by rw [hW0]; exact (Below.refl _ _).alloc (Nat.le_refl _) _
  have hs0 : W0.heap.size = w.heap.size + 1 := by rw [hW0]; simp
  have HH : Hid (∀ W, Below W0.heap.size W0 W → W.heap[w.heap.size]? = some (.cells h.cells 37 (0, 0))) := Lib.hid (fun W hW => (hW.block _ (by omega)).trans (by
    rw [hW0]
    have hq := heap_alloc_new w (.cells h.cells 37)
    exact (by simpa using hq)))
  have HBW : Hid (∀ W, Below W0.heap.size W0 W → Below w.heap.size w W ∧ w.heap.size + 1 ≤ W.heap.size) := Lib.hid (fun W hW => ⟨hb0.trans (hW.mono (by omega)), by have := hW.size; omega⟩)
  have huh := Tryz.underlying37
  have HSH : Hid (∀ a : Hs, (Tryz.prog.info? 37).map (·.size) = some a.cells.size) := Lib.hid (fun a => by kernel_rfl)
  have HL4 : Hid (∀ W, Below W0.heap.size W0 W → W.cell? ⟨w.heap.size, 4, none⟩ = some (.slice (h.A 4) m (h.c 4)) ∧ w.heap.size < W.heap.size) := Lib.hid (fun W hW => ⟨by rw [cell_of_block (HH.out W hW), ← HMM.out]; rfl, by have := hW.size; omega⟩)
  have HSQ6 : Hid ((Tryz.prog.info? 55).map (·.size) = some 6) := Lib.hid (by kernel_rfl)
  have huq := Tryz.underlying55
  have H0 := Lib.hid (Below.refl W0.heap.size W0)
  clear hb0 hs0 hh
  subst hW0
  go_enter Tryz.func70, Tryz.ntmps70
  go_wp2_with fail
  go_loopw [6, 7, 8] (fun v u i wr => ∃ (k : Nat) (va vb : Int), k ≤ m ∧ v = .int .i64 va ∧ u = .int .i64 vb ∧ i = .int .i64 (k : Int) ∧ Hid (loadP (L 0) ((L 4).take k) s = (va, vb)) ∧ Hid (Below (w.alloc (.cells h.cells 37)).heap.size (w.alloc (.cells h.cells 37)) wr)) (fun _ _ i _ => m - (intOf i).toNat)
  case atStart => exact ⟨0, 0, 0, by omega, rfl, rfl, rfl, Lib.hid rfl, H0⟩
  case round =>
    obtain ⟨k, va, vb, hk, rfl, rfl, rfl, hv, hw⟩ := hrel
    obtain ⟨d4, dlt⟩ := HL4.out _ hw.out
    by_cases hlt : k < m
    · have hkl : k < (L 4).length := by rw [← HNM.out]; exact hlt
      have HTR : HT h L wr := HHT.out.below (HBW.out _ hw.out).1
      obtain ⟨b, off, hA, hb, r1⟩ := quant_at HTR hkl
      have hsn := loadP_snoc (L 0) (L 4) s k hkl
      rw [hv.out] at hsn
      unfold loadQ at hsn
      obtain ⟨q, hq⟩ : ∃ q, qnOf (L 4)[k] = q := ⟨_, rfl⟩
      rw [hq] at r1 hsn
      obtain ⟨qb, qi, ql, qs, qq, qh⟩ := q
      simp only [] at hsn
      have HRE : Hid (wr.rangeAt b (off + k * 6) [.string qb, .string qi, .string ql, .int .i64 qs, .int .i64 qq, .int .i64 qh]) := Lib.hid r1
      obtain ⟨x, hx, hxo⟩ := item_it HTR qi
      obtain ⟨is, his⟩ : ∃ z, (atItem (L 0) qi).isSome = z := ⟨_, rfl⟩
      rw [hxo, his] at hsn
      have HSN := Lib.hid hsn
      have CF : Hid (∀ W, HT h L W → Calls Tryz.prog 69 #[.agg h.cells, .string qi] W fun e w' => e = .returned (.tuple #[.agg #[.string x.code, .string (x.nm 0), .int .i64 (x.fc 0), .string (x.nm 1), .int .i64 (x.fc 1), .string (x.nm 2), .int .i64 (x.fc 2), .string (x.nm 3), .int .i64 (x.fc 3), .int .i64 x.vol, .int .i64 x.wei, .bool x.lots, .bool x.serial, .bool x.chk], .bool is]) ∧ Below W.heap.size W w') := Lib.hid (fun W hW => by have := frItem hW qi; rw [hx, his] at this; exact this)
      obtain ⟨w1, hw1⟩ : ∃ w1, w1 = wr.alloc (.cells #[.string qb, .string qi, .string ql, .int .i64 qs, .int .i64 qq, .int .i64 qh] 55) := ⟨_, rfl⟩
      have hb1 : Below wr.heap.size wr w1 := by rw [hw1]; exact (Below.refl _ _).alloc (Nat.le_refl _) _
      have HX1 : Hid (w1.heap[wr.heap.size]? = some (.cells #[.string qb, .string qi, .string ql, .int .i64 qs, .int .i64 qq, .int .i64 qh] 55 (0, 0))) := Lib.hid (by rw [hw1]; exact heap_alloc_new _ _)
      have HW1 := Lib.hid hw1
      have HB1 := Lib.hid (hw.out.trans (hb1.mono hw.out.size))
      have HT1 := Lib.hid (HTR.below hb1)
      have h1 : (0 : Int) ≤ (k : Int) := by omega
      have h2 : (k : Int) < (m : Int) := by omega
      rw [hA] at d4
      clear hw1 hb1 r1 hq hx hxo his hsn hkl HTR hA hb
      have hbx := HW1.out ▸ HH.out _ HB1.out
      have e1 : w1.cell? ⟨wr.heap.size, 1, none⟩ = some (.string qi) := by rw [cell_of_block HX1.out]; rfl
      rw [HW1.out] at e1
      go_wp2_with (first
        | (refine wpList_load_mid rfl 55 (.tmp 22) rfl b (off + k * 6) rfl [.string qb, .string qi, .string ql, .int .i64 qs, .int .i64 qq, .int .i64 qh] _ HRE.out huq rfl HSQ6.out ?_)
        | (refine wpList_load_row rfl 37 (.tmp 2) rfl w.heap.size rfl _ _ _ _ hbx huh rfl (HSH.out _) ?_)
        | fail)
      rw [← HW1.out]
      refine (CF.out _ HT1.out).mono ?_
      rintro e w2 ⟨rfl, hb2⟩
      have HB2 := Lib.hid (HB1.out.trans (hb2.mono HB1.out.size))
      have HX2 := Lib.hid ((hb2.block _ (lt_of_block HX1.out)).trans HX1.out)
      obtain ⟨w3, hw3⟩ : ∃ w3, w3 = w2.alloc (.cells #[.string x.code, .string (x.nm 0), .int .i64 (x.fc 0), .string (x.nm 1), .int .i64 (x.fc 1), .string (x.nm 2), .int .i64 (x.fc 2), .string (x.nm 3), .int .i64 (x.fc 3), .int .i64 x.vol, .int .i64 x.wei, .bool x.lots, .bool x.serial, .bool x.chk] 65) := ⟨_, rfl⟩
      have HB3 : Hid (Below _ _ w3) := Lib.hid (hw3 ▸ HB2.out.alloc HB2.out.size _)
      have HX3 : Hid (w3.heap[wr.heap.size]? = some (.cells #[.string qb, .string qi, .string ql, .int .i64 qs, .int .i64 qq, .int .i64 qh] 55 (0, 0))) := Lib.hid (by rw [hw3]; exact (Below.heap_alloc _ _ _ (lt_of_block HX2.out)).trans HX2.out)
      have HY3 : Hid (w3.heap[w2.heap.size]? = some (.cells #[.string x.code, .string (x.nm 0), .int .i64 (x.fc 0), .string (x.nm 1), .int .i64 (x.fc 1), .string (x.nm 2), .int .i64 (x.fc 2), .string (x.nm 3), .int .i64 (x.fc 3), .int .i64 x.vol, .int .i64 x.wei, .bool x.lots, .bool x.serial, .bool x.chk] 65 (0, 0))) := Lib.hid (by rw [hw3]; exact heap_alloc_new _ _)
      have HW3 := Lib.hid hw3
      clear hw3 hb2 hbx e1 d4 dlt
      go_upto_region 8 with fail
      rw [← HW3.out]
      have y0 : w3.cell? ⟨wr.heap.size, 0, none⟩ = some (.string qb) := by rw [cell_of_block HX3.out]; rfl
      have y4 : w3.cell? ⟨wr.heap.size, 4, none⟩ = some (.int .i64 qq) := by rw [cell_of_block HX3.out]; rfl
      have ylt : wr.heap.size < w3.heap.size := lt_of_block HX3.out
      have z9 : w3.cell? ⟨w2.heap.size, 9, none⟩ = some (.int .i64 x.vol) := by rw [cell_of_block HY3.out]; rfl
      have z10 : w3.cell? ⟨w2.heap.size, 10, none⟩ = some (.int .i64 x.wei) := by rw [cell_of_block HY3.out]; rfl
      have zlt : w2.heap.size < w3.heap.size := lt_of_block HY3.out
      cases he : Pl.eqv qb s with
      | false =>
        have he' : (qb.toList == s.toList) = false := he
        have hsel : (Pl.eqv qb s && is) = false := by rw [he]; rfl
        have HS9 := Lib.hid hsel
        clear he hsel
        have HV : Hid (loadP (L 0) ((L 4).take (k + 1)) s = (va, vb)) := Lib.hid (by rw [HSN.out, HS9.out]; rfl)
        go_wp2_with fail
        go_roundw
        case rel => exact ⟨k + 1, _, _, by omega, rfl, rfl, by go_num, HV, HB3⟩
        case measure => simp [intOf]; omega
      | true =>
        have he' : (qb.toList == s.toList) = true := he
        have HEE := Lib.hid he
        clear he
        cases is with
        | false =>
          have HV : Hid (loadP (L 0) ((L 4).take (k + 1)) s = (va, vb)) := Lib.hid (by rw [HSN.out, HEE.out]; rfl)
          go_wp2_with fail
          go_roundw
          case rel => exact ⟨k + 1, _, _, by omega, rfl, rfl, by go_num, HV, HB3⟩
          case measure => simp [intOf]; omega
        | true =>
          have HV : Hid (loadP (L 0) ((L 4).take (k + 1)) s = (wrap64 (va + wrap64 (qq * x.vol)), wrap64 (vb + wrap64 (qq * x.wei)))) := Lib.hid (by rw [HSN.out, HEE.out]; rfl)
          go_wp2_with fail
          go_roundw
          case rel => exact ⟨k + 1, _, _, by omega, rfl, rfl, by go_num, HV, HB3⟩
          case measure => simp [intOf]; omega
    · have hkm : k = m := by omega
      have HV : Hid ((va, vb) = r) := Lib.hid (by rw [← hv.out, ← HR.out, List.take_of_length_le (by rw [← HNM.out]; omega)])
      go_wp2_with fail
      go_ret2
      exact ⟨by rw [← HV.out]; rfl, (HBW.out _ hw.out).1⟩

set_option maxRecDepth 100000 in
set_option maxHeartbeats 3200000 in
theorem rfitsr_any (h : Hs) (L : Nat → List (List Value)) (s t : ByteArray) (n : Int) (w : World) (hh : HT h L w) :
    Calls Tryz.prog 40 #[.agg h.cells, .string s, .string t, .int .i64 n] w fun e w' => e = .returned (.int .i64 (roomE (L 0) (L 3) (L 4) s t n : Nat)) ∧ Below w.heap.size w w' := by
  obtain ⟨y, hy, hyb⟩ := bin_eight hh s
  obtain ⟨x, hx, hxo⟩ := item_it hh t
  obtain ⟨ib, hib⟩ : ∃ z, (atBin (L 3) s).isSome = z := ⟨_, rfl⟩
  obtain ⟨ii, hii⟩ : ∃ z, (atItem (L 0) t).isSome = z := ⟨_, rfl⟩
  obtain ⟨lv, hlv⟩ : ∃ z, (loadP (L 0) (L 4) s).1 = z := ⟨_, rfl⟩
  obtain ⟨lw, hlw⟩ : ∃ z, (loadP (L 0) (L 4) s).2 = z := ⟨_, rfl⟩
  obtain ⟨r, hr⟩ : ∃ r, roomE (L 0) (L 3) (L 4) s t n = r := ⟨_, rfl⟩
  have HA : Hid (r = if (ib && ii) = false then 12 else if y.vol < wrap64 (lv + wrap64 (n * x.vol)) ∨ y.wei < wrap64 (lw + wrap64 (n * x.wei)) then 26 else 0) := Lib.hid (by rw [← hr]; unfold roomE; rw [hib, hii, hyb, hxo, hlv, hlw])
  have CB : Hid (∀ W, Below w.heap.size w W → Calls Tryz.prog 37 #[.agg h.cells, .string s] W fun e w' => e = .returned (.tuple #[.agg #[.string y.code, .string y.zone, .int .i64 y.kind, .int .i64 y.aisle, .int .i64 y.place, .int .i64 y.vol, .int .i64 y.wei, .bool y.frz], .bool ib]) ∧ Below W.heap.size W w') := Lib.hid (fun W hW => by have := frBin (hh.below hW) s; rw [hy, hib] at this; exact this)
  have CI : Hid (∀ W, Below w.heap.size w W → Calls Tryz.prog 69 #[.agg h.cells, .string t] W fun e w' => e = .returned (.tuple #[.agg #[.string x.code, .string (x.nm 0), .int .i64 (x.fc 0), .string (x.nm 1), .int .i64 (x.fc 1), .string (x.nm 2), .int .i64 (x.fc 2), .string (x.nm 3), .int .i64 (x.fc 3), .int .i64 x.vol, .int .i64 x.wei, .bool x.lots, .bool x.serial, .bool x.chk], .bool ii]) ∧ Below W.heap.size W w') := Lib.hid (fun W hW => by have := frItem (hh.below hW) t; rw [hx, hii] at this; exact this)
  have CL : Hid (∀ W, Below w.heap.size w W → Calls Tryz.prog 70 #[.agg h.cells, .string s] W fun e w' => e = .returned (.tuple #[.int .i64 lv, .int .i64 lw]) ∧ Below W.heap.size W w') := Lib.hid (fun W hW => by have := rload_any h L s W (hh.below hW); rwa [hlv, hlw] at this)
  rw [hr]
  clear hr hib hii hlv hlw hy hyb hx hxo
  obtain ⟨W0, hW0⟩ : ∃ W0, W0 = (w.alloc (.cells h.cells 37)) := ⟨_, rfl⟩
  have hb0 : Below w.heap.size w W0 := by rw [hW0]; exact (Below.refl _ _).alloc (Nat.le_refl _) _
  have hs0 : W0.heap.size = w.heap.size + 1 := by rw [hW0]; simp
  have HH : Hid (∀ W, Below W0.heap.size W0 W → W.heap[w.heap.size]? = some (.cells h.cells 37 (0, 0))) := Lib.hid (fun W hW => (hW.block _ (by omega)).trans (by
    rw [hW0]
    have hq := heap_alloc_new w (.cells h.cells 37)
    exact (by simpa using hq)))
  have HBW : Hid (∀ W, Below W0.heap.size W0 W → Below w.heap.size w W ∧ w.heap.size + 1 ≤ W.heap.size) := Lib.hid (fun W hW => ⟨hb0.trans (hW.mono (by omega)), by have := hW.size; omega⟩)
  have huh := Tryz.underlying37
  have HSH : Hid (∀ a : Hs, (Tryz.prog.info? 37).map (·.size) = some a.cells.size) := Lib.hid (fun a => by kernel_rfl)
  have H0 := Lib.hid (Below.refl W0.heap.size W0)
  clear hb0 hs0 hh
  subst hW0
  go_enter Tryz.func40, Tryz.ntmps40
  go_wp2_with (first
    | (refine wpList_load_row rfl 37 (.tmp 4) rfl w.heap.size rfl _ _ _ _ (HH.out _ H0.out) huh rfl (HSH.out _) ?_)
    | fail)
  refine (CB.out _ (HBW.out _ H0.out).1).mono ?_
  rintro e w1 ⟨rfl, hb1⟩
  have H1 := Lib.hid (H0.out.trans (hb1.mono H0.out.size))
  clear hb1
  have H2 := Lib.hid (H1.out.alloc H1.out.size (.cells #[.string y.code, .string y.zone, .int .i64 y.kind, .int .i64 y.aisle, .int .i64 y.place, .int .i64 y.vol, .int .i64 y.wei, .bool y.frz] 52))
  go_wp2_with (first
    | (refine wpList_load_row rfl 37 (.tmp 4) rfl w.heap.size rfl _ _ _ _ (HH.out _ H2.out) huh rfl (HSH.out _) ?_)
    | fail)
  refine (CI.out _ (HBW.out _ H2.out).1).mono ?_
  rintro e w2 ⟨rfl, hb2⟩
  have hb2q := hb2
  have H3 := Lib.hid (H2.out.trans (hb2.mono H2.out.size))
  clear hb2
  have HBQ : Hid (Below (w1.alloc (.cells #[.string y.code, .string y.zone, .int .i64 y.kind, .int .i64 y.aisle, .int .i64 y.place, .int .i64 y.vol, .int .i64 y.wei, .bool y.frz] 52)).heap.size (w1.alloc (.cells #[.string y.code, .string y.zone, .int .i64 y.kind, .int .i64 y.aisle, .int .i64 y.place, .int .i64 y.vol, .int .i64 y.wei, .bool y.frz] 52)) w2) := Lib.hid hb2q
  obtain ⟨w3, hw3⟩ : ∃ w3, w3 = w2.alloc (.cells #[.string x.code, .string (x.nm 0), .int .i64 (x.fc 0), .string (x.nm 1), .int .i64 (x.fc 1), .string (x.nm 2), .int .i64 (x.fc 2), .string (x.nm 3), .int .i64 (x.fc 3), .int .i64 x.vol, .int .i64 x.wei, .bool x.lots, .bool x.serial, .bool x.chk] 65) := ⟨_, rfl⟩
  have H4 : Hid (Below _ _ w3) := Lib.hid (hw3 ▸ H3.out.alloc H3.out.size _)
  have HX : Hid (∀ W, Below w3.heap.size w3 W → W.cell? ⟨w2.heap.size, 9, none⟩ = some (.int .i64 x.vol) ∧ W.cell? ⟨w2.heap.size, 10, none⟩ = some (.int .i64 x.wei) ∧ W.cell? ⟨w1.heap.size, 5, none⟩ = some (.int .i64 y.vol) ∧ W.cell? ⟨w1.heap.size, 6, none⟩ = some (.int .i64 y.wei) ∧ w2.heap.size < W.heap.size ∧ w1.heap.size < W.heap.size) := Lib.hid (fun W hW => by
    have a1 : w3.heap[w2.heap.size]? = some (.cells #[.string x.code, .string (x.nm 0), .int .i64 (x.fc 0), .string (x.nm 1), .int .i64 (x.fc 1), .string (x.nm 2), .int .i64 (x.fc 2), .string (x.nm 3), .int .i64 (x.fc 3), .int .i64 x.vol, .int .i64 x.wei, .bool x.lots, .bool x.serial, .bool x.chk] 65 (0, 0)) := by rw [hw3]; exact heap_alloc_new _ _
    have a0 := heap_alloc_new w1 (.cells #[.string y.code, .string y.zone, .int .i64 y.kind, .int .i64 y.aisle, .int .i64 y.place, .int .i64 y.vol, .int .i64 y.wei, .bool y.frz] 52)
    have hlt := lt_of_block a0
    have a2 : w3.heap[w1.heap.size]? = some (.cells #[.string y.code, .string y.zone, .int .i64 y.kind, .int .i64 y.aisle, .int .i64 y.place, .int .i64 y.vol, .int .i64 y.wei, .bool y.frz] 52 (0, 0)) := by rw [hw3]; exact (Below.heap_alloc _ _ _ (Nat.lt_of_lt_of_le hlt HBQ.out.size)).trans ((HBQ.out.block _ hlt).trans a0)
    have b1 := (hW.block _ (lt_of_block a1)).trans a1
    have b2 := (hW.block _ (lt_of_block a2)).trans a2
    exact ⟨by rw [cell_of_block b1]; rfl, by rw [cell_of_block b1]; rfl, by rw [cell_of_block b2]; rfl, by rw [cell_of_block b2]; rfl, lt_of_block b1, lt_of_block b2⟩)
  have HW3 := Lib.hid hw3
  clear hw3
  go_upto_region 3 with fail
  rw [← HW3.out]
  cases ib with
  | false =>
    have HE : Hid (r = 12) := Lib.hid (by rw [HA.out]; rfl)
    go_wp2_with fail
    go_ret
    exact ⟨by rw [HE.out]; rfl, (HBW.out _ H4.out).1⟩
  | true =>
    cases ii with
    | false =>
      have HE : Hid (r = 12) := Lib.hid (by rw [HA.out]; rfl)
      go_wp2_with fail
      go_ret
      exact ⟨by rw [HE.out]; rfl, (HBW.out _ H4.out).1⟩
    | true =>
      go_wp2_with (first
        | (refine wpList_load_row rfl 37 (.tmp 4) rfl w.heap.size rfl _ _ _ _ (HH.out _ H4.out) huh rfl (HSH.out _) ?_)
        | fail)
      refine (CL.out _ (HBW.out _ H4.out).1).mono ?_
      rintro e w4 ⟨rfl, hb4⟩
      have H5 := Lib.hid (H4.out.trans (hb4.mono H4.out.size))
      obtain ⟨x9, x10, y5, y6, l2, l1⟩ := HX.out _ hb4
      clear hb4
      have HA2 : Hid (r = if y.vol < wrap64 (lv + wrap64 (n * x.vol)) ∨ y.wei < wrap64 (lw + wrap64 (n * x.wei)) then 26 else 0) := Lib.hid (by rw [HA.out]; rfl)
      by_cases q1 : y.vol < wrap64 (lv + wrap64 (n * x.vol))
      · have HE : Hid (r = 26) := Lib.hid (by rw [HA2.out, if_pos (.inl q1)])
        go_wp2_with fail
        go_ret
        exact ⟨by rw [HE.out]; rfl, (HBW.out _ H5.out).1⟩
      · by_cases q2 : y.wei < wrap64 (lw + wrap64 (n * x.wei))
        · have HE : Hid (r = 26) := Lib.hid (by rw [HA2.out, if_pos (.inr q2)])
          go_wp2_with fail
          go_ret
          exact ⟨by rw [HE.out]; rfl, (HBW.out _ H5.out).1⟩
        · have HE : Hid (r = 0) := Lib.hid (by rw [HA2.out, if_neg (fun h => h.elim q1 q2)])
          go_wp2_with fail
          go_ret
          exact ⟨by rw [HE.out]; rfl, (HBW.out _ H5.out).1⟩

set_option maxRecDepth 100000 in
set_option maxHeartbeats 6400000 in
theorem rmove (h : Hs) (L : Nat → List (List Value)) (kb ki kl : ByteArray) (ks : Int) (n : Int) (tb : ByteArray) (w : World) (hh : HT h L w) (hn4 : h.n 4 ≤ 1000) :
    Calls Tryz.prog 9 #[.agg h.cells, .agg #[.string kb, .string ki, .string kl, .int .i64 ks], .int .i64 n, .string tb] w (PutP 55 6 4 (moveE (L 0) (L 3) (L 4) (Ky.mk kb ki kl ks) n tb) (moveL (L 4) (Ky.mk kb ki kl ks) n tb) h w) := by
  obtain ⟨y, hy, hyb⟩ := bin_eight hh tb
  obtain ⟨ib, hib⟩ : ∃ z, (atBin (L 3) tb).isSome = z := ⟨_, rfl⟩
  obtain ⟨eq, heq⟩ : ∃ z, Pl.eqv tb kb = z := ⟨_, rfl⟩
  obtain ⟨fa, hfa⟩ : ∃ z, frozB (L 3) tb = z := ⟨_, rfl⟩
  obtain ⟨fb, hfb⟩ : ∃ z, frozB (L 3) kb = z := ⟨_, rfl⟩
  obtain ⟨et, het⟩ : ∃ z, takeE (L 4) (Ky.mk kb ki kl ks) n = z := ⟨_, rfl⟩
  obtain ⟨lt, hlt⟩ : ∃ z, takeL (L 4) (Ky.mk kb ki kl ks) n = z := ⟨_, rfl⟩
  obtain ⟨rm, hrm⟩ : ∃ z, roomE (L 0) (L 3) lt tb ki n = z := ⟨_, rfl⟩
  obtain ⟨ep, hep⟩ : ∃ z, putE lt (Ky.mk tb ki kl ks) n = z := ⟨_, rfl⟩
  obtain ⟨lp, hlp⟩ : ∃ z, putL lt (Ky.mk tb ki kl ks) n = z := ⟨_, rfl⟩
  obtain ⟨er, her⟩ : ∃ z, moveE (L 0) (L 3) (L 4) (Ky.mk kb ki kl ks) n tb = z := ⟨_, rfl⟩
  have HA : Hid (er = if eq = true then 1 else if ib = false then 12 else if (fa || fb) = true then 25 else if et ≠ 0 then et else if rm ≠ 0 then rm else ep) := Lib.hid (by rw [← her]; unfold moveE; simp only []; rw [heq, hib, hfa, hfb, het, hlt, hrm, hep])
  have HLS : moveL (L 4) (Ky.mk kb ki kl ks) n tb = lp := by unfold moveL; simp only []; rw [hlt, hlp]
  rw [her, HLS]
  have CF : Hid (∀ W, Below w.heap.size w W → Calls Tryz.prog 38 #[.agg h.cells, .string tb] W fun e w' => e = .returned (.bool fa) ∧ Below W.heap.size W w') := Lib.hid (fun W hW => by have := rfroz h L tb W (hh.below hW); rwa [hfa] at this)
  have CG : Hid (∀ W, Below w.heap.size w W → Calls Tryz.prog 38 #[.agg h.cells, .string kb] W fun e w' => e = .returned (.bool fb) ∧ Below W.heap.size W w') := Lib.hid (fun W hW => by have := rfroz h L kb W (hh.below hW); rwa [hfb] at this)
  have CB : Hid (∀ W, Below w.heap.size w W → Calls Tryz.prog 37 #[.agg h.cells, .string tb] W fun e w' => e = .returned (.tuple #[.agg #[.string y.code, .string y.zone, .int .i64 y.kind, .int .i64 y.aisle, .int .i64 y.place, .int .i64 y.vol, .int .i64 y.wei, .bool y.frz], .bool ib]) ∧ Below W.heap.size W w') := Lib.hid (fun W hW => by have := frBin (hh.below hW) tb; rw [hy, hib] at this; exact this)
  have CR : Hid (∀ (g : Hs) W, HT g (setE 0 L 4 lt) W → Calls Tryz.prog 40 #[.agg g.cells, .string tb, .string ki, .int .i64 n] W fun e w' => e = .returned (.int .i64 (rm : Nat)) ∧ Below W.heap.size W w') := Lib.hid (fun g W hg => by have := rfitsr_any g (setE 0 L 4 lt) tb ki n W hg; rwa [show roomE (setE 0 L 4 lt 0) (setE 0 L 4 lt 3) (setE 0 L 4 lt 4) tb ki n = rm from hrm] at this)
  have HSHL : Hid (∀ a : Hs, (Tryz.prog.info? 37).map (·.size) = some a.cells.toList.length) := Lib.hid (fun a => by kernel_rfl)
  have CT : Hid (∀ W, Below w.heap.size w W → Calls Tryz.prog 39 #[.agg h.cells, .agg #[.string kb, .string ki, .string kl, .int .i64 ks], .int .i64 n] W fun e w' => Below W.heap.size W w' ∧ ∃ g : Hs, e = .returned (.tuple #[.agg g.cells, .int .i64 (et : Nat)]) ∧ PutK 55 6 4 et lt h g W.heap.size w' ∧ HT g (setE et L 4 lt) w') := Lib.hid (fun W hW => (rtake h L kb ki kl ks n W (hh.below hW) (by omega)).mono (fun e w' h5 => by
    rw [het, hlt] at h5
    obtain ⟨hb, g, he, hk⟩ := h5.k
    exact ⟨hb, g, he, hk, hk.htl (by decide) (by rw [← hlt]; exact upQ_things (hh 4 (by decide)).2.2.1 _) (by have h6 := (hh 4 (by decide)).1; have h7 : (takeL (L 4) (Ky.mk kb ki kl ks) n).length ≤ (L 4).length + 1 := upQ_len _ _; rw [hlt] at h7; omega) ((hh.below hW).below hb)⟩))
  have HLN : Hid (lt.length ≤ 1001) := Lib.hid (by have h6 := (hh 4 (by decide)).1; have h7 : (takeL (L 4) (Ky.mk kb ki kl ks) n).length ≤ (L 4).length + 1 := upQ_len _ _; rw [hlt] at h7; omega)
  have HHT := Lib.hid hh
  have CP : Hid (∀ (g : Hs) (G : Nat → List (List Value)) W, HT g G W → G 4 = lt → g.n 4 ≤ 9000 → Calls Tryz.prog 41 #[.agg g.cells, .agg #[.string tb, .string ki, .string kl, .int .i64 ks], .int .i64 n] W (PutP 55 6 4 ep lp g W)) := Lib.hid (fun g G W hg hG hn => by have := rputq g G (Ky.mk tb ki kl ks).bin (Ky.mk tb ki kl ks).item (Ky.mk tb ki kl ks).lot (Ky.mk tb ki kl ks).st n W hg hn; rw [hG] at this; rwa [show putE lt (Ky.mk (Ky.mk tb ki kl ks).bin (Ky.mk tb ki kl ks).item (Ky.mk tb ki kl ks).lot (Ky.mk tb ki kl ks).st) n = ep from hep, show putL lt (Ky.mk (Ky.mk tb ki kl ks).bin (Ky.mk tb ki kl ks).item (Ky.mk tb ki kl ks).lot (Ky.mk tb ki kl ks).st) n = lp from hlp] at this)
  have HEQ := Lib.hid heq
  clear her hib heq hfa hfb het hlt hep hlp hrm HLS hy hyb
  obtain ⟨W0, hW0⟩ : ∃ W0, W0 = (((w.alloc (.cells h.cells 37)).alloc (.cells #[.string kb, .string ki, .string kl, .int .i64 ks] 39)).alloc (.cells #[.slice none 0 0, .slice none 0 0, .slice none 0 0, .slice none 0 0, .slice none 0 0, .slice none 0 0, .slice none 0 0, .slice none 0 0, .slice none 0 0, .slice none 0 0, .slice none 0 0, .slice none 0 0, .slice none 0 0, .slice none 0 0, .int .i64 0] 37)) := ⟨_, rfl⟩
  have hb0 : Below w.heap.size w W0 := by rw [hW0]; exact (((Below.refl _ _).alloc (Nat.le_refl _) _).alloc (by simp <;> omega) _).alloc (by simp <;> omega) _
  have hs0 : W0.heap.size = w.heap.size + 3 := by rw [hW0]; simp
  have HH : Hid (∀ W, Below W0.heap.size W0 W → W.heap[w.heap.size]? = some (.cells h.cells 37 (0, 0))) := Lib.hid (fun W hW => (hW.block _ (by omega)).trans (by
    rw [hW0]
    have hq := heap_alloc_new w (.cells h.cells 37)
    exact (Below.heap_alloc _ _ _ (by simp <;> omega)).trans ((Below.heap_alloc _ _ _ (by simp <;> omega)).trans ((by simpa using hq)))))
  have HK : Hid (∀ W, Below W0.heap.size W0 W → W.heap[w.heap.size + 1]? = some (.cells #[.string kb, .string ki, .string kl, .int .i64 ks] 39 (0, 0))) := Lib.hid (fun W hW => (hW.block _ (by omega)).trans (by
    rw [hW0]
    have hq := heap_alloc_new (w.alloc (.cells h.cells 37)) (.cells #[.string kb, .string ki, .string kl, .int .i64 ks] 39)
    exact (Below.heap_alloc _ _ _ (by simp <;> omega)).trans ((by simpa using hq))))
  have HZ : Hid (∀ W, Below W0.heap.size W0 W → W.heap[w.heap.size + 2]? = some (.cells Hs.zero 37 (0, 0))) := Lib.hid (fun W hW => (hW.block _ (by omega)).trans (by
    rw [hW0]
    have hq := heap_alloc_new ((w.alloc (.cells h.cells 37)).alloc (.cells #[.string kb, .string ki, .string kl, .int .i64 ks] 39)) (.cells #[.slice none 0 0, .slice none 0 0, .slice none 0 0, .slice none 0 0, .slice none 0 0, .slice none 0 0, .slice none 0 0, .slice none 0 0, .slice none 0 0, .slice none 0 0, .slice none 0 0, .slice none 0 0, .slice none 0 0, .slice none 0 0, .int .i64 0] 37)
    exact (by simpa [Hs.zero] using hq)))
  have HBW : Hid (∀ W, Below W0.heap.size W0 W → Below w.heap.size w W ∧ w.heap.size + 3 ≤ W.heap.size) := Lib.hid (fun W hW => ⟨hb0.trans (hW.mono (by omega)), by have := hW.size; omega⟩)
  have huh := Tryz.underlying37
  have HSH : Hid (∀ a : Hs, (Tryz.prog.info? 37).map (·.size) = some a.cells.size) := Lib.hid (fun a => by kernel_rfl)
  have HSQ : Hid ((Tryz.prog.info? 37).map (·.size) = some Hs.zero.size) := Lib.hid (by kernel_rfl)
  have H1C : Hid (∀ a : Hs, a.cells.all (·.oneCell') = true) := Lib.hid (fun a => by simp [Hs.cells, Value.oneCell'])
  have H1Q : Hid (Hs.zero.all (·.oneCell') = true) := Lib.hid (by simp [Hs.zero, Value.oneCell'])
  have huHK := Tryz.underlying39
  have HSHK : Hid ((Tryz.prog.info? 39).map (·.size) = some 4) := Lib.hid (by kernel_rfl)
  have HCHK : Hid (∀ W, Below W0.heap.size W0 W → W.cell? ⟨w.heap.size + 1, 0, none⟩ = some (.string kb) ∧ W.cell? ⟨w.heap.size + 1, 1, none⟩ = some (.string ki) ∧ W.cell? ⟨w.heap.size + 1, 2, none⟩ = some (.string kl) ∧ W.cell? ⟨w.heap.size + 1, 3, none⟩ = some (.int .i64 ks) ∧ w.heap.size + 1 < W.heap.size) := Lib.hid (fun W hW => ⟨by rw [cell_of_block (HK.out W hW)]; rfl, by rw [cell_of_block (HK.out W hW)]; rfl, by rw [cell_of_block (HK.out W hW)]; rfl, by rw [cell_of_block (HK.out W hW)]; rfl, by have := hW.size; omega⟩)
  have H0 := Lib.hid (Below.refl W0.heap.size W0)
  clear hb0 hs0 hh hn4
  subst hW0
  go_enter Tryz.func9, Tryz.ntmps9
  obtain ⟨hk0, hk1, hk2, hk3, hlthk⟩ := HCHK.out _ H0.out
  cases eq with
  | true =>
    have he' : (tb.toList == kb.toList) = true := HEQ.out
    have HE : Hid (er = 1) := Lib.hid (by rw [HA.out]; rfl)
    go_wp2_with (first
      | (refine wpList_store_row rfl 37 (.tmp 8) (.tmp 18) rfl (w.heap.size + 2) Hs.zero rfl rfl _ _ (HZ.out _ H0.out) HSQ.out rfl H1Q.out ?_)
      | fail)
    exact bodyPost_ret (results_row_tmp rfl _ _ (w.heap.size + 2) _ _ _ _ rfl (setRow_heap _ _ _ _ _ _ (HZ.out _ H0.out)) huh rfl HSQ.out) rfl ⟨setRow_below (HBW.out _ H0.out).1 (by omega) _, .inl ⟨by rw [HE.out]; decide, by rw [HE.out]; rfl⟩⟩
  | false =>
    have he' : (tb.toList == kb.toList) = false := HEQ.out
    go_wp2_with (first
      | (refine wpList_load_row rfl 37 (.tmp 4) rfl w.heap.size rfl _ _ _ _ (HH.out _ H0.out) huh rfl (HSH.out _) ?_)
      | fail)
    refine (CB.out _ (HBW.out _ H0.out).1).mono ?_
    rintro e w1 ⟨rfl, hb1⟩
    have H1 := Lib.hid (H0.out.trans (hb1.mono H0.out.size))
    clear hb1
    have H2 := Lib.hid (H1.out.alloc H1.out.size (.cells #[.string y.code, .string y.zone, .int .i64 y.kind, .int .i64 y.aisle, .int .i64 y.place, .int .i64 y.vol, .int .i64 y.wei, .bool y.frz] 52))
    clear hk0 hk1 hk2 hk3 hlthk
    clear he'
    cases ib with
    | false =>
      have HE : Hid (er = 12) := Lib.hid (by rw [HA.out]; rfl)
      go_wp2_with (first
        | (refine wpList_store_row rfl 37 (.tmp 8) (.tmp 27) rfl (w.heap.size + 2) Hs.zero rfl rfl _ _ (HZ.out _ H2.out) HSQ.out rfl H1Q.out ?_)
        | fail)
      exact bodyPost_ret (results_row_tmp rfl _ _ (w.heap.size + 2) _ _ _ _ rfl (setRow_heap _ _ _ _ _ _ (HZ.out _ H2.out)) huh rfl HSQ.out) rfl ⟨setRow_below (HBW.out _ H2.out).1 (by omega) _, .inl ⟨by rw [HE.out]; decide, by rw [HE.out]; rfl⟩⟩
    | true =>
      go_wp2_with (first
        | (refine wpList_load_row rfl 37 (.tmp 4) rfl w.heap.size rfl _ _ _ _ (HH.out _ H2.out) huh rfl (HSH.out _) ?_)
        | fail)
      refine (CF.out _ (HBW.out _ H2.out).1).mono ?_
      rintro e w2 ⟨rfl, hb2⟩
      have H3 := Lib.hid (H2.out.trans (hb2.mono H2.out.size))
      clear hb2
      cases fa with
      | true =>
        have HE : Hid (er = 25) := Lib.hid (by rw [HA.out]; rfl)
        go_wp2_with (first
          | (refine wpList_store_row rfl 37 (.tmp 8) (.tmp 37) rfl (w.heap.size + 2) Hs.zero rfl rfl _ _ (HZ.out _ H3.out) HSQ.out rfl H1Q.out ?_)
          | fail)
        exact bodyPost_ret (results_row_tmp rfl _ _ (w.heap.size + 2) _ _ _ _ rfl (setRow_heap _ _ _ _ _ _ (HZ.out _ H3.out)) huh rfl HSQ.out) rfl ⟨setRow_below (HBW.out _ H3.out).1 (by omega) _, .inl ⟨by rw [HE.out]; decide, by rw [HE.out]; rfl⟩⟩
      | false =>
        obtain ⟨hk0, hk1, hk2, hk3, hlthk⟩ := HCHK.out _ H3.out
        go_wp2_with (first
          | (refine BigFrame.wpList_want (by kernel_rfl) (fun K hK => Go.wp_load_mid 37 (.tmp 4) rfl w.heap.size 0 rfl h.cells.toList _ (range_row0 (HH.out _ H3.out)) huh rfl (HSHL.out _) (hK _ _ ?_)); clear hK K)
          | fail)
        refine (CG.out _ (HBW.out _ H3.out).1).mono ?_
        rintro e w3 ⟨rfl, hb3⟩
        have H3b := Lib.hid (H3.out.trans (hb3.mono H3.out.size))
        clear hb3
        clear hk0 hk1 hk2 hk3 hlthk
        cases fb with
        | true =>
          have HE : Hid (er = 25) := Lib.hid (by rw [HA.out]; rfl)
          go_wp2_with (first
            | (refine wpList_store_row rfl 37 (.tmp 8) (.tmp 37) rfl (w.heap.size + 2) Hs.zero rfl rfl _ _ (HZ.out _ H3b.out) HSQ.out rfl H1Q.out ?_)
            | fail)
          exact bodyPost_ret (results_row_tmp rfl _ _ (w.heap.size + 2) _ _ _ _ rfl (setRow_heap _ _ _ _ _ _ (HZ.out _ H3b.out)) huh rfl HSQ.out) rfl ⟨setRow_below (HBW.out _ H3b.out).1 (by omega) _, .inl ⟨by rw [HE.out]; decide, by rw [HE.out]; rfl⟩⟩
        | false =>
          go_wp2_with (first
            | (refine wpList_load_row rfl 37 (.tmp 4) rfl w.heap.size rfl _ _ _ _ (HH.out _ H3b.out) huh rfl (HSH.out _) ?_)
            | (refine wpList_load_row rfl 39 (.tmp 5) rfl (w.heap.size + 1) rfl _ _ _ _ (HK.out _ H3b.out) huHK rfl HSHK.out ?_)
            | fail)
          have HSZ := Lib.hid (HBW.out _ H3b.out).2
          refine (CT.out _ (HBW.out _ H3b.out).1).mono ?_
          rintro e w4 ⟨hb4, g, rfl, hk4, hg4⟩
          have H4 := Lib.hid (H3b.out.trans (hb4.mono H3b.out.size))
          have HQ5 : Hid ((w4.alloc (.cells #[.slice none 0 0, .slice none 0 0, .slice none 0 0, .slice none 0 0, .slice none 0 0, .slice none 0 0, .slice none 0 0, .slice none 0 0, .slice none 0 0, .slice none 0 0, .slice none 0 0, .slice none 0 0, .slice none 0 0, .slice none 0 0, .int .i64 0] 37)).heap[w4.heap.size]? = some (.cells #[.slice none 0 0, .slice none 0 0, .slice none 0 0, .slice none 0 0, .slice none 0 0, .slice none 0 0, .slice none 0 0, .slice none 0 0, .slice none 0 0, .slice none 0 0, .slice none 0 0, .slice none 0 0, .slice none 0 0, .slice none 0 0, .int .i64 0] 37 (0, 0))) := Lib.hid (heap_alloc_new _ _)
          obtain ⟨w5, hw5⟩ : ∃ w', w' = (w4.alloc (.cells #[.slice none 0 0, .slice none 0 0, .slice none 0 0, .slice none 0 0, .slice none 0 0, .slice none 0 0, .slice none 0 0, .slice none 0 0, .slice none 0 0, .slice none 0 0, .slice none 0 0, .slice none 0 0, .slice none 0 0, .slice none 0 0, .int .i64 0] 37)).setRow w4.heap.size g.cells := ⟨_, rfl⟩
          have hb5 : Below w4.heap.size w4 w5 := by rw [hw5]; exact setRow_below ((Below.refl _ _).alloc (Nat.le_refl _) _) (Nat.le_refl _) _
          have H5 := Lib.hid (H4.out.trans (hb5.mono H4.out.size))
          have HG5 : Hid (w5.heap[w4.heap.size]? = some (.cells g.cells 37 (0, 0))) := Lib.hid (by rw [hw5]; exact setRow_heap _ _ _ _ _ _ HQ5.out)
          have HT5 := Lib.hid (hg4.below hb5)
          have HK5 := Lib.hid (hk4.below (Nat.le_refl _) hb5)
          have HW5 := Lib.hid hw5
          obtain ⟨gb, hgb⟩ : ∃ n, n = w4.heap.size := ⟨_, rfl⟩
          have HGB := Lib.hid hgb
          rw [← hgb] at HG5 HQ5
          have hq5 := HQ5.out
          rw [HGB.out] at hq5
          clear hw5 hb4 hb5 hk4 hg4 hgb
          go_upto_region 9 with (first
            | (refine wpList_store_row rfl 37 (.tmp 12) (.tmp 43) rfl w4.heap.size g.cells rfl rfl _ _ hq5 (HSH.out _) rfl (H1C.out _) ?_; rw [← HW5.out, ← HGB.out])
            | fail)
          clear hq5
          by_cases he0 : et = 0
          case neg =>
            have HKE := Lib.hid he0
            have hk0 : ((et : Int) != 0) = true := by simpa using he0
            have HE : Hid (er = et) := Lib.hid (by have : er = if et ≠ 0 then et else (if rm ≠ 0 then rm else ep) := (by rw [HA.out]; rfl); rw [this, if_pos he0])
            clear he0
            go_wp2_with (first
              | (refine wpList_store_row rfl 37 (.tmp 8) (.tmp 47) rfl (w.heap.size + 2) Hs.zero rfl rfl _ _ (HZ.out _ H5.out) HSQ.out rfl H1Q.out ?_)
              | fail)
            exact bodyPost_ret (results_row_tmp rfl _ _ (w.heap.size + 2) _ _ _ _ rfl (setRow_heap _ _ _ _ _ _ (HZ.out _ H5.out)) huh rfl HSQ.out) rfl ⟨setRow_below (HBW.out _ H5.out).1 (by omega) _, .inl ⟨by rw [HE.out]; exact HKE.out, by rw [HE.out]; rfl⟩⟩
          subst he0
          have HA0 : Hid (er = (if rm ≠ 0 then rm else ep)) := Lib.hid (by have : er = if (0 : Nat) ≠ 0 then 0 else (if rm ≠ 0 then rm else ep) := (by rw [HA.out]; rfl); rw [this, if_neg (by simp)])
          obtain ⟨hk0, hk1, hk2, hk3, hlthk⟩ := HCHK.out _ H5.out
          go_wp2_with (first
            | (refine wpList_load_row rfl 37 (.tmp 12) rfl gb rfl _ _ _ _ HG5.out huh rfl (HSH.out _) ?_)
            | fail)
          refine (CR.out g _ HT5.out).mono ?_
          rintro e w6 ⟨rfl, hb6⟩
          have H6 := Lib.hid (H5.out.trans (hb6.mono H5.out.size))
          have HT6 := Lib.hid (HT5.out.below hb6)
          have HK6 := Lib.hid (HK5.out.below (Nat.le_refl _) hb6)
          have HG6 := Lib.hid ((hb6.block _ (lt_of_block HG5.out)).trans HG5.out)
          clear hb6
          clear hk0 hk1 hk2 hk3 hlthk
          by_cases hr0 : rm = 0
          case neg =>
            have HKR := Lib.hid hr0
            have hr1 : ((rm : Int) != 0) = true := by simpa using hr0
            have HE : Hid (er = rm) := Lib.hid (by rw [HA0.out, if_pos hr0])
            clear hr0
            go_wp2_with (first
              | (refine wpList_store_row rfl 37 (.tmp 8) (.tmp 57) rfl (w.heap.size + 2) Hs.zero rfl rfl _ _ (HZ.out _ H6.out) HSQ.out rfl H1Q.out ?_)
              | fail)
            exact bodyPost_ret (results_row_tmp rfl _ _ (w.heap.size + 2) _ _ _ _ rfl (setRow_heap _ _ _ _ _ _ (HZ.out _ H6.out)) huh rfl HSQ.out) rfl ⟨setRow_below (HBW.out _ H6.out).1 (by omega) _, .inl ⟨by rw [HE.out]; exact HKR.out, by rw [HE.out]; rfl⟩⟩
          subst hr0
          have HAP : Hid (er = ep) := Lib.hid (by rw [HA0.out, if_neg (by simp)])
          obtain ⟨hk0, hk1, hk2, hk3, hlthk⟩ := HCHK.out _ H6.out
          obtain ⟨w7, hw7⟩ : ∃ W, W = w6.setCell ⟨w.heap.size + 1, 0, none⟩ (.string tb) := ⟨_, rfl⟩
          have HS6 := Lib.hid (HBW.out _ H6.out).2
          have HOFF : Hid (Off (w.heap.size + 1) g (setE 0 L 4 lt)) := Lib.hid (HK6.out.off (by have := HSZ.out; omega) (HHT.out.offge (Nat.le_succ _)))
          have HK7 : Hid (w7.heap[w.heap.size + 1]? = some (.cells #[.string tb, .string ki, .string kl, .int .i64 ks] 39 (0, 0))) := Lib.hid (by rw [hw7, block_setCell (HK.out _ H6.out)]; rfl)
          have HG7 : Hid (w7.heap[gb]? = some (.cells g.cells 37 (0, 0))) := Lib.hid (by rw [hw7]; exact (block_setCell_other (show gb ≠ w.heap.size + 1 by have := HGB.out; have := (HBW.out _ H4.out).2; omega) _).trans HG6.out)
          have HZ7 : Hid (w7.heap[w.heap.size + 2]? = some (.cells Hs.zero 37 (0, 0))) := Lib.hid (by rw [hw7]; exact (block_setCell_other (show w.heap.size + 2 ≠ w.heap.size + 1 by omega) _).trans (HZ.out _ H6.out))
          have HT7 : Hid (HT g (setE 0 L 4 lt) w7) := Lib.hid (by rw [hw7]; exact HT6.out.setCellOff HOFF.out _)
          have HB7 : Hid (Below w.heap.size w w7) := Lib.hid (by rw [hw7]; exact (HBW.out _ H6.out).1.setCell (show w.heap.size ≤ w.heap.size + 1 by omega) _)
          have HS7 : Hid (w.heap.size + 3 ≤ w7.heap.size) := Lib.hid (by rw [hw7]; simpa using HS6.out)
          have HGN : Hid (g.n 4 ≤ 9000) := Lib.hid (by rw [(HT6.out 4 (by decide)).1]; exact Nat.le_trans HLN.out (by decide))
          have HW7 := Lib.hid hw7
          clear hw7
          have ff : w6.frozen? ⟨w.heap.size + 1, 0, none⟩ = false := frozen_of_block (HK.out _ H6.out)
          go_upto_region 15 with fail
          rw [← HW7.out]
          clear ff
          clear hk0 hk1 hk2 hk3 hlthk
          go_wp2_with (first
            | (refine wpList_load_row rfl 37 (.tmp 12) rfl gb rfl _ _ _ _ HG7.out huh rfl (HSH.out _) ?_)
            | (refine wpList_load_row rfl 39 (.tmp 5) rfl (w.heap.size + 1) rfl _ _ _ _ HK7.out huHK rfl HSHK.out ?_)
            | fail)
          refine (CP.out g _ w7 HT7.out rfl HGN.out).mono ?_
          intro e w8 hP
          obtain ⟨hb8, hP⟩ := hP
          have HB8 := Lib.hid (HB7.out.trans (hb8.mono HB7.out.size))
          have HZ8 := Lib.hid ((hb8.block _ (lt_of_block HZ7.out)).trans HZ7.out)
          clear hb8
          rcases hP with ⟨hne, rfl⟩ | ⟨h0, A, n9, cc, hl, ho, rfl⟩
          · have HNE := Lib.hid hne
            clear hne
            go_wp2_with (first
              | (refine wpList_store_row rfl 37 (.tmp 8) (.tmp 65) rfl (w.heap.size + 2) Hs.zero rfl rfl _ _ HZ8.out HSQ.out rfl H1Q.out ?_)
              | fail)
            exact bodyPost_ret (results_row_tmp rfl _ _ (w.heap.size + 2) _ _ _ _ rfl (setRow_heap _ _ _ _ _ _ HZ8.out) huh rfl HSQ.out) rfl ⟨setRow_below HB8.out (by omega) _, .inl ⟨by rw [HAP.out]; exact HNE.out, by rw [HAP.out]; rfl⟩⟩
          · have HLE := Lib.hid hl
            have HO := Lib.hid ho
            have H00 := Lib.hid h0
            clear hl ho h0
            go_wp2_with (first
              | (refine wpList_store_row rfl 37 (.tmp 8) (.tmp 65) rfl (w.heap.size + 2) (g.set 4 A n9 cc).cells rfl rfl _ _ HZ8.out (HSH.out _) rfl (H1C.out _) ?_)
              | fail)
            refine bodyPost_ret (results_row_tmp rfl _ _ (w.heap.size + 2) _ _ _ _ rfl (setRow_heap _ _ _ _ _ _ HZ8.out) huh rfl (HSH.out _)) rfl ⟨setRow_below HB8.out (by omega) _, .inr ⟨by rw [HAP.out]; exact H00.out, A, n9, cc, HLE.out, own_rowed HO.out (by have := HS7.out; omega) (by have := HS7.out; omega), ?_⟩⟩
            rcases HK6.out with ⟨h1, _⟩ | ⟨_, A0, n0, c0, _, _, hg⟩
            · exact absurd rfl h1
            · rw [hg, Hs.set_set]; rfl

end Go.Proofs.YtjacodbmmhnopaaGreat
