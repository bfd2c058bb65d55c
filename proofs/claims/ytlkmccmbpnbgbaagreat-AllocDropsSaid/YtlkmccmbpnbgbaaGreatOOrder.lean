/-
 CONTRACTS of the rows' FindOrder, order, Order. (By wip/tools/port16b.py.)
-/
import Derived.Test.YtlkmccmbpnbgbaaGreatOOrd
import Derived.Test.YtlkmccmbpnbgbaaGreatGRPutOrder
import Derived.Test.YtlkmccmbpnbgbaaGreatHHouse
import Derived.Test.YtlkmccmbpnbgbaaGreatGT
import Derived.BigQuiet
namespace Go.Proofs.YtlkmccmbpnbgbaaGreat
set_option linter.unusedVariables false
open Go.RowKit
open Pl (firstG firstG_none firstG_some findG overG putG dropG It)

set_option maxRecDepth 100000 in
set_option maxHeartbeats 1600000 in
theorem rfindOrder (h : Hs) (L : List (List Value)) (s : ByteArray) (w : World) (hn : h.n 7 = L.length) (hn6 : h.n 7 ≤ 1000000) (hL : Things kOrder L) (hr : Rd w w.heap.size (h.A 7) L.flatten) :
 Calls Tryz.prog 25 #[.agg h.cells, .string s] w fun e w' => e = .returned (.tuple #[.agg (gotOrder L s).toArray, .bool (atOrder L s).isSome]) ∧ Below w.heap.size w w' := by
 obtain ⟨W0, hW0⟩ : ∃ W0, W0 = (w.alloc (.cells h.cells 37)).alloc (.cells zeroOrder.toArray 42) := ⟨_, rfl⟩
 have HB0 : Hid (Below w.heap.size w W0) := Lib.hid (by rw [hW0]; exact ((Below.refl _ _).alloc (Nat.le_refl _) _).alloc (by simp) _)
 have HS0 : Hid (W0.heap.size = w.heap.size + 2) := Lib.hid (by rw [hW0]; simp)
 have HHX : Hid (∀ W, Below W0.heap.size W0 W → W.heap[w.heap.size]? = some (.cells h.cells 37 (0, 0))) := Lib.hid (fun W hW => (hW.block _ (by rw [HS0.out]; omega)).trans (by rw [hW0]; exact (Below.heap_alloc _ _ _ (by simp)).trans (heap_alloc_new _ _)))
 have HRX : Hid (∀ W, Below W0.heap.size W0 W → W.heap[w.heap.size + 1]? = some (.cells zeroOrder.toArray 42 (0, 0))) := Lib.hid (fun W hW => (hW.block _ (by rw [HS0.out]; omega)).trans (by
  rw [hW0]
  have := heap_alloc_new (w.alloc (.cells h.cells 37)) (.cells zeroOrder.toArray 42)
  simpa using this))
 have HN := Lib.hid hn
 have HL := Lib.hid hL
 have HR := Lib.hid hr
 have hu := Tryz.underlying42
 have HSZ : Hid (∀ y, Fits kOrder y → (Tryz.prog.info? 42).map (·.size) = some y.toArray.size) := Lib.hid (fun y hy => by rw [show (Tryz.prog.info? 42).map (·.size) = some 50 from by kernel_rfl, List.size_toArray, hy.length]; rfl)
 have HAT := Lib.hid (atOrder_first L s)
 clear hn hL hr
 go_enter Tryz.func25, Tryz.ntmps25
 go_wp2_with fail
 unfold Hs.cells at hW0
 unfold zeroOrder at hW0
 have HE : Hid (∀ (i : Nat) (W : World), Below W0.heap.size W0 W → W.cell? ⟨w.heap.size, 7, none⟩ = some (.slice (h.A 7) (h.n 7) (h.c 7))) := Lib.hid (fun i W hW => (cell_of_block (HHX.out W hW)).trans rfl)
 obtain ⟨n, hnn⟩ : ∃ n, h.n 7 = n := ⟨_, rfl⟩
 rw [hnn] at HN HE hn6
 have HNN := Lib.hid hnn
 go_loopw [6] (fun i wr => ∃ k : Nat, k ≤ n ∧ i = .int .i64 (k : Int) ∧ Hid (∀ j (hj : j < L.length), j < k → Pl.eqv (codeOf L[j]) s = false) ∧ Hid (Below W0.heap.size W0 wr)) (fun i _ => n - (intOf i).toNat)
 case atStart => exact ⟨0, by omega, rfl, Lib.hid (fun j hj h => by omega), Lib.hid (by rw [hW0]; exact Below.refl _ _)⟩
 case round =>
  obtain ⟨k, hkn, rfl, hno, hbel⟩ := hrel
  have c0 := HE.out 0 wr hbel.out
  have HBR : Hid (Below w.heap.size w wr) := Lib.hid (HB0.out.trans (hbel.out.mono HB0.out.size))
  have HX1 := Lib.hid (HRX.out wr hbel.out)
  by_cases hlt : k < n
  · have hl : k < L.length := by rw [← HN.out]; exact hlt
    obtain ⟨b, off, hA, hb, hc⟩ := HR.out.thing HL.out (by decide) hl
    rw [hA] at c0 HE
    have fx := HL.out _ (List.getElem_mem hl)
    have r1 := rangeAt_below (hc k hl) hb HBR.out
    rw [show kOrder.length = 50 from rfl] at r1
    obtain ⟨x, hx⟩ : ∃ x, L[k] = x := ⟨_, rfl⟩
    rw [hx] at fx r1
    have HXK := Lib.hid hx
    have HF := Lib.hid fx
    have HR1 := Lib.hid r1
    obtain ⟨r, hxr⟩ := code_Order fx
    obtain ⟨q, hq⟩ : ∃ q, codeOf x = q := ⟨_, rfl⟩
    have d0 : wr.cell? ⟨b, off + k * 50, none⟩ = some (.string q) := by
     have := r1 0 (.string q) (by rw [hxr, hq]; rfl)
     simpa using this
    have HQ := Lib.hid hq
    have h1 : (0 : Int) ≤ (k : Int) := by omega
    have h2 : (k : Int) < (n : Int) := by omega
    have HIX : Hid ((Tryz.prog.info? 42).map (·.size) = some x.length) := Lib.hid (by have := HSZ.out x fx; rwa [List.size_toArray] at this)
    have HOZ : Hid (zeroOrder.toArray.size = x.toArray.size) := Lib.hid (by rw [List.size_toArray, List.size_toArray, fx.length]; rfl)
    have HOC : Hid (x.toArray.all (·.oneCell') = true) := Lib.hid (all_oneCell_toArray (fits_one fx))
    have HBE : Hid (Below w.heap.size w (wr.setRow (w.heap.size + 1) x.toArray)) := Lib.hid (by
     have hb := HBR.out
     exact ⟨hb.os, hb.tape, hb.output, by simpa using hb.size, fun k hk => (setRow_other _ _ k _ (by omega)).trans (hb.block k hk)⟩)
    clear hc r1 hx fx hb hA hq hxr
    cases he : Pl.eqv q s with
    | true =>
     have HG : Hid (atOrder L s = some k) := Lib.hid (by
      rw [HAT.out]
      exact Pl.firstG_some hl (fun j hj hjk => hno.out j hj hjk) (by rw [HXK.out, HQ.out]; exact he))
     have HG2 : Hid (gotOrder L s = x) := Lib.hid (by
      unfold gotOrder; rw [HG.out]; simp only []; rw [List.getD_eq_getElem?_getD, List.getElem?_eq_getElem hl]; exact HXK.out)
     have he' : (q.toList == s.toList) = true := he
     clear he
     go_wp2_with (first
      | (refine wpList_load_mid rfl 42 (.tmp 25) rfl b (off + k * 50) rfl x _ HR1.out hu rfl HIX.out ?_)
      | (refine wpList_store_row rfl 42 (.tmp 4) (.tmp 26) rfl (w.heap.size + 1) x.toArray rfl rfl _ _ HX1.out (HSZ.out _ HF.out) HOZ.out HOC.out ?_)
      | fail)
     exact bodyPost_ret (results_row_tmp rfl _ _ (w.heap.size + 1) _ _ _ _ rfl (setRow_heap _ _ _ _ _ _ HX1.out) hu rfl (HSZ.out _ HF.out)) rfl ⟨by rw [HG2.out, HG.out]; rfl, HBE.out⟩
    | false =>
     have HNO : Hid (∀ j (hj : j < L.length), j < k + 1 → Pl.eqv (codeOf L[j]) s = false) := Lib.hid (fun j hj hjk => by
      by_cases e : j = k
      · subst e; rw [HXK.out, HQ.out]; exact he
      · exact hno.out j hj (by omega))
     have he' : (q.toList == s.toList) = false := he
     clear he
     go_wp2_with fail
     go_roundw
     case rel => exact ⟨k + 1, by omega, by go_num, HNO, hbel⟩
     case measure => simp [intOf]; omega
  · have HG : Hid (atOrder L s = none) := Lib.hid (by
     rw [HAT.out]
     exact Pl.firstG_none (fun j hj => hno.out j hj (by have := HN.out; omega)))
    have HG2 : Hid (gotOrder L s = zeroOrder) := Lib.hid (by unfold gotOrder; rw [HG.out])
    have HZO : Hid (zeroOrder.toArray.all (·.oneCell') = true) := Lib.hid (by simp [zeroOrder, Value.oneCell'])
    have HBE : Hid (Below w.heap.size w (wr.setRow (w.heap.size + 1) zeroOrder.toArray)) := Lib.hid (by
     have hb := HBR.out
     exact ⟨hb.os, hb.tape, hb.output, by simpa using hb.size, fun k hk => (setRow_other _ _ k _ (by omega)).trans (hb.block k hk)⟩)
    go_wp2_with (first
     | (refine wpList_store_row rfl 42 (.tmp 4) (.tmp 27) rfl (w.heap.size + 1) zeroOrder.toArray rfl rfl _ _ HX1.out (HSZ.out _ zeroOrder_fits) rfl HZO.out ?_)
     | fail)
    exact bodyPost_ret (results_row_tmp rfl _ _ (w.heap.size + 1) _ _ _ _ rfl (setRow_heap _ _ _ _ _ _ HX1.out) hu rfl (HSZ.out _ zeroOrder_fits)) rfl ⟨by rw [HG2.out, HG.out]; rfl, HBE.out⟩
theorem frOrder {h : Hs} {L : Nat → List (List Value)} {w : World} (hh : HT h L w) (s : ByteArray) : Calls Tryz.prog 25 #[.agg h.cells, .string s] w fun e w' => e = .returned (.tuple #[.agg (gotOrder (L 7) s).toArray, .bool (atOrder (L 7) s).isSome]) ∧ Below w.heap.size w w' :=
 rfindOrder h (L 7) s w (hh 7 (by decide)).1 (hh 7 (by decide)).2.1 (hh 7 (by decide)).2.2.1 (hh 7 (by decide)).2.2.2

set_option maxRecDepth 100000 in
theorem rordOrder (x y : List Value) (w : World) (hx : Fits kOrder x) (hy : Fits kOrder y) : Calls Tryz.prog 85 #[.agg x.toArray, .agg y.toArray] w fun e w' => e = .returned (.int .i64 (ordOrder x y)) ∧ Below w.heap.size w w' := by
 obtain ⟨r, hxr⟩ := code_Order hx
 obtain ⟨q, hyr⟩ := code_Order hy
 obtain ⟨W0, hW0⟩ : ∃ W0, W0 = (w.alloc (.cells x.toArray 42)).alloc (.cells y.toArray 42) := ⟨_, rfl⟩
 have HB : Hid (Below w.heap.size w W0) := Lib.hid (by rw [hW0]; exact ((Below.refl _ _).alloc (Nat.le_refl _) _).alloc (by simp) _)
 have HS : Hid (W0.heap.size = w.heap.size + 2) := Lib.hid (by rw [hW0]; simp)
 have c0 : W0.cell? ⟨w.heap.size, 0, none⟩ = some (.string (codeOf x)) := by
  rw [hW0, cell_of_row _ w.heap.size 0 x.toArray 42 (0, 0) ((Below.heap_alloc _ _ _ (by simp)).trans (heap_alloc_new _ _))]
  rw [List.getElem?_toArray]
  rw [hxr]; rfl
 have c1 : W0.cell? ⟨w.heap.size + 1, 0, none⟩ = some (.string (codeOf y)) := by
  have hh := heap_alloc_new (w.alloc (.cells x.toArray 42)) (.cells y.toArray 42)
  rw [hW0, cell_of_row _ (w.heap.size + 1) 0 y.toArray 42 (0, 0) (by simpa using hh)]
  rw [List.getElem?_toArray]
  rw [hyr]; rfl
 obtain ⟨s, hs⟩ : ∃ s, codeOf x = s := ⟨_, rfl⟩
 obtain ⟨t, ht⟩ : ∃ s, codeOf y = s := ⟨_, rfl⟩
 have HV : Hid (ordOrder x y = Pl.cmp s t) := Lib.hid (by unfold ordOrder; rw [hs, ht])
 rw [hs] at c0
 rw [ht] at c1
 clear hs ht hxr hyr hx hy
 have c2 : (W0.alloc (.cells #[.string s] 9)).cell? ⟨w.heap.size + 1, 0, none⟩ = some (.string t) := by
  rw [World.cell?_alloc_lt _ _ _ (by rw [HS.out]; simp)]; exact c1
 go_enter Tryz.func85, Tryz.ntmps85
 subst hW0
 go_wp2_with fail
 obtain ⟨W1, hW1⟩ : ∃ W1, W1 = (((w.alloc (.cells x.toArray 42)).alloc (.cells y.toArray 42)).alloc (.cells #[.string s] 9)).alloc (.cells #[.string t] 9) := ⟨_, rfl⟩
 have HB1 : Hid (Below w.heap.size w W1) := Lib.hid (by rw [hW1]; exact ((HB.out).alloc (by rw [HS.out]; omega) _).alloc (by simp; omega) _)
 have HR1 : Hid (Rd W1 W1.heap.size (some ⟨w.heap.size + 1 + 1, 0, none⟩) (sc [s])) := Lib.hid (rd_str (by
  rw [hW1]
  have := heap_alloc_new ((w.alloc (.cells x.toArray 42)).alloc (.cells y.toArray 42)) (.cells #[.string s] 9)
  exact (Below.heap_alloc _ _ _ (by simp)).trans (by simpa using this)))
 have HR2 : Hid (Rd W1 W1.heap.size (some ⟨w.heap.size + 1 + 1 + 1, 0, none⟩) (sc [t])) := Lib.hid (rd_str (by
  rw [hW1]
  have := heap_alloc_new (((w.alloc (.cells x.toArray 42)).alloc (.cells y.toArray 42)).alloc (.cells #[.string s] 9)) (.cells #[.string t] 9)
  simpa using this))
 rw [← hW1]
 clear hW1
 refine (texts_any _ _ 1 1 1 1 [s] [t] W1 rfl rfl rfl (by omega) HR1.out HR2.out).mono ?_
 rintro e w' ⟨rfl, hb⟩
 rw [cmps_one]
 have HB2 := Lib.hid (HB1.out.trans (hb.mono HB1.out.size))
 clear hb
 go_wp2_with fail
 go_ret
 exact ⟨by rw [HV.out]; rfl, HB2.out⟩
theorem tellsROrder (w : World) : TellsO kOrder w 85 #[] ordOrder := ⟨fun args W => by kernel_rfl, fun W _ a b ha hb => rordOrder a b W ha hb⟩

set_option maxRecDepth 100000 in
set_option maxHeartbeats 800000 in
theorem rOrder_any (h : Hs) (cs : List Value) (L : List (List Value)) (w : World) (hcs : Fits kOrder cs) (hn : h.n 7 = L.length) (hn6 : h.n 7 ≤ 1000) (hL : Things kOrder L) (hr : Rd w w.heap.size (h.A 7) L.flatten) :
 Calls Tryz.prog 46 #[.agg h.cells, .agg cs.toArray] w fun e w' => Below w.heap.size w w' ∧ ∃ A n c, n = (putG ordOrder L cs).length ∧ w'.ownsRow w.heap.size 42 50 (.slice A n c) n (putG ordOrder L cs).flatten ∧ e = .returned (.agg (h.set 7 A n c).cells) := by
 obtain ⟨W0, hW0⟩ : ∃ W0, W0 = ((w.alloc (.cells h.cells 37)).alloc (.cells cs.toArray 42)).alloc (.cells #[.slice none 0 0, .slice none 0 0, .slice none 0 0, .slice none 0 0, .slice none 0 0, .slice none 0 0, .slice none 0 0, .slice none 0 0, .slice none 0 0, .slice none 0 0, .slice none 0 0, .slice none 0 0, .slice none 0 0, .slice none 0 0, .int .i64 0] 37) := ⟨_, rfl⟩
 have hb0 : Below w.heap.size w W0 := by rw [hW0]; exact (((Below.refl _ _).alloc (Nat.le_refl _) _).alloc (by simp) _).alloc (by simp; omega) _
 have hs0 : W0.heap.size = w.heap.size + 3 := by rw [hW0]; simp
 have HH : Hid (∀ W, Below W0.heap.size W0 W → W.heap[w.heap.size]? = some (.cells h.cells 37 (0, 0))) := Lib.hid (fun W hW => (hW.block _ (by omega)).trans (by
  rw [hW0]
  exact (Below.heap_alloc _ _ _ (by simp; omega)).trans ((Below.heap_alloc _ _ _ (by simp)).trans (heap_alloc_new _ _))))
 have HX : Hid (∀ W, Below W0.heap.size W0 W → W.heap[w.heap.size + 1]? = some (.cells cs.toArray 42 (0, 0))) := Lib.hid (fun W hW => (hW.block _ (by omega)).trans (by
  rw [hW0]
  have := heap_alloc_new (w.alloc (.cells h.cells 37)) (.cells cs.toArray 42)
  exact (Below.heap_alloc _ _ _ (by simp)).trans (by simpa using this)))
 have HZ : Hid (∀ W, Below W0.heap.size W0 W → W.heap[w.heap.size + 2]? = some (.cells Hs.zero 37 (0, 0))) := Lib.hid (fun W hW => (hW.block _ (by omega)).trans (by
  rw [hW0]
  have := heap_alloc_new ((w.alloc (.cells h.cells 37)).alloc (.cells cs.toArray 42)) (.cells Hs.zero 37)
  simpa [Hs.zero] using this))
 have HBW : Hid (∀ W, Below W0.heap.size W0 W → Below w.heap.size w W ∧ w.heap.size + 3 ≤ W.heap.size) := Lib.hid (fun W hW => ⟨hb0.trans (hW.mono (by omega)), by have := hW.size; omega⟩)
 have hui := Tryz.underlying42
 have huh := Tryz.underlying37
 have HSX : Hid ((Tryz.prog.info? 42).map (·.size) = some cs.toArray.size) := Lib.hid (by rw [show (Tryz.prog.info? 42).map (·.size) = some 50 from by kernel_rfl, List.size_toArray, hcs.length]; rfl)
 have HSH : Hid (∀ a : Hs, (Tryz.prog.info? 37).map (·.size) = some a.cells.size) := Lib.hid (fun a => by kernel_rfl)
 have HSQ : Hid ((Tryz.prog.info? 37).map (·.size) = some Hs.zero.size) := Lib.hid (by kernel_rfl)
 have H1C : Hid (∀ a : Hs, a.cells.all (·.oneCell') = true) := Lib.hid (fun a => by simp [Hs.cells, Value.oneCell'])
 have H1Q : Hid (Hs.zero.all (·.oneCell') = true) := Lib.hid (by simp [Hs.zero, Value.oneCell'])
 have HHS := Lib.hid (HH.out _ (Below.refl _ _))
 have HXS := Lib.hid (HX.out _ (Below.refl _ _))
 have HZS := Lib.hid (HZ.out _ (Below.refl _ _))
 have HPU : Hid (∀ W, Below W0.heap.size W0 W → Calls Tryz.prog 84 #[.slice (h.A 7) (h.n 7) (h.c 7), .agg cs.toArray, .func (.func 85) #[] #[]] W (NewOrder W (putG ordOrder L cs))) := Lib.hid (fun W hW =>
  rputOrder (h.A 7) (h.n 7) (h.c 7) 85 ordOrder cs L W hn (by omega) hL hcs ((hr.below (HBW.out W hW).1).mono (HBW.out W hW).1.size) (tellsROrder W))
 have c0 : W0.cell? ⟨w.heap.size, 7, none⟩ = some (.slice (h.A 7) (h.n 7) (h.c 7)) := (cell_of_block HHS.out).trans rfl
 have HS0 := Lib.hid hs0
 clear hcs hn hL hr hb0 hs0
 subst hW0
 go_enter Tryz.func46, Tryz.ntmps46
 go_wp2_with (first
  | (refine wpList_load_row rfl 42 (.tmp 3) rfl (w.heap.size + 1) rfl _ _ _ _ HXS.out hui rfl HSX.out ?_)
  | fail)
 refine (HPU.out _ (Below.refl _ _)).mono ?_
 rintro e w5 ⟨A5, n5, p5, hl5, rfl, hown5, hb5⟩
 have H5 := Lib.hid hb5
 have HO5 := Lib.hid hown5
 have HLE := Lib.hid hl5
 clear hb5 hown5 hl5
 have c5 : w5.cell? ⟨w.heap.size, 7, none⟩ = some (.slice (h.A 7) (h.n 7) (h.c 7)) := (cell_of_block (HH.out _ H5.out)).trans rfl
 have f5 : w5.frozen? ⟨w.heap.size, 7, none⟩ = false := frozen_of_block (HH.out _ H5.out)
 have HZ5 := Lib.hid (HZ.out _ H5.out)
 have HH5 := Lib.hid (HH.out _ H5.out)
 have HB5 := Lib.hid (HBW.out _ H5.out)
 have H6 : Hid ((w5.setCell ⟨w.heap.size, 7, none⟩ (.slice A5 n5 p5)).heap[w.heap.size]? = some (.cells (h.set 7 A5 n5 p5).cells 37 (0, 0))) := Lib.hid (by rw [block_setCell HH5.out, h.set_cells _ _ _ 7 (by decide)])
 have HZ6 : Hid ((w5.setCell ⟨w.heap.size, 7, none⟩ (.slice A5 n5 p5)).heap[w.heap.size + 2]? = some (.cells Hs.zero 37 (0, 0))) := Lib.hid ((block_setCell_other (by omega) _).trans HZ5.out)
 have HB6 : Hid (Below w.heap.size w (w5.setCell ⟨w.heap.size, 7, none⟩ (.slice A5 n5 p5))) := Lib.hid (HB5.out.1.setCell (Nat.le_refl _) _)
 have HO6 : Hid ((w5.setCell ⟨w.heap.size, 7, none⟩ (.slice A5 n5 p5)).ownsRow (w.heap.size + 3) 42 50 (.slice A5 n5 p5) n5 (putG ordOrder L cs).flatten) := Lib.hid (own_far HO5.out (by rw [HS0.out]; simp) (by rw [HS0.out]; exact Nat.le_refl _))
 go_wp2_with (first
  | (refine wpList_load_row rfl 37 (.tmp 2) rfl w.heap.size rfl _ _ _ _ H6.out huh rfl (HSH.out _) ?_)
  | (refine wpList_store_row rfl 37 (.tmp 4) (.tmp 10) rfl (w.heap.size + 2) (h.set 7 A5 n5 p5).cells rfl rfl _ _ HZ6.out (HSH.out _) rfl (H1C.out _) ?_)
  | fail)
 exact bodyPost_ret (results_cell_row rfl _ _ (w.heap.size + 2) _ _ _ _ rfl (setRow_heap _ _ _ _ _ _ HZ6.out) huh rfl (HSH.out _)) rfl ⟨setRow_below HB6.out (by omega) _, A5, n5, p5, HLE.out, own_rowed HO6.out (by omega) (by omega), rfl⟩

end Go.Proofs.YtlkmccmbpnbgbaaGreat
