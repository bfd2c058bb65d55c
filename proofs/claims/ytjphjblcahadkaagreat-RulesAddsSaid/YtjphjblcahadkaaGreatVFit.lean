/-
  CONTRACTS of the code's table of api.Item, and of its Find. (By wip/tools/gen_onecode.py.) CONTRACTS of the code's table of api.Bin, and of its Find. (By wip/tools/gen_onecode.py.) CONTRACTS of the code's Load and Fits. (By wip/tools/gen_zcode.py; laid here by gen_vfit.py.) (By wip/tools/merge.py.)
  CONTRACTS of the code's findZone and Site. (Out of wip/layout, by wip/tools/gen_vfit.py.)
  CONTRACTS of slices.IndexFunc and slices.ContainsFunc over things. (By wip/tools/gen_has.py.)
  (By wip/tools/merge.py.)
-/
import Derived.Test.YtjphjblcahadkaaGreatGP
import Derived.Test.YtjphjblcahadkaaGreatOPl
import Derived.Test.YtjphjblcahadkaaGreatHHouse
import Derived.Test.YtjphjblcahadkaaGreatOBase
import Derived.Test.YtjphjblcahadkaaGreatHPut
import Derived.Test.YtjphjblcahadkaaGreatUPl
import Derived.Deep.CutRange
import Derived.Test.YtjphjblcahadkaaGreatGT
namespace Go.Proofs.YtjphjblcahadkaaGreat
set_option linter.unusedVariables false
open Go.RowKit
open Pl (firstG findG)

set_option maxRecDepth 100000 in
theorem cordItem (x y : List Value) (w : World) (hx : Fits kItem x) (hy : Fits kItem y) : Calls Tryz.prog 91 #[.agg x.toArray, .agg y.toArray] w fun e w' => e = .returned (.int .i64 (ordItem x y)) ∧ Below w.heap.size w w' := by
  obtain ⟨r, hxr⟩ := code_Item hx
  obtain ⟨q, hyr⟩ := code_Item hy
  have HB : Hid (Below w.heap.size w ((w.alloc (.cells x.toArray 59)).alloc (.cells y.toArray 59))) := Lib.hid (((Below.refl _ _).alloc (Nat.le_refl _) _).alloc (by simp) _)
  have c0 : ((w.alloc (.cells x.toArray 59)).alloc (.cells y.toArray 59)).cell? ⟨w.heap.size, 0, none⟩ = some (.string (codeOf x)) := by
    rw [cell_of_row _ w.heap.size 0 x.toArray 59 (0, 0) ((Below.heap_alloc _ _ _ (by simp)).trans (heap_alloc_new _ _))]
    rw [List.getElem?_toArray]
    rw [hxr]; rfl
  have c1 : ((w.alloc (.cells x.toArray 59)).alloc (.cells y.toArray 59)).cell? ⟨w.heap.size + 1, 0, none⟩ = some (.string (codeOf y)) := by
    have hh := heap_alloc_new (w.alloc (.cells x.toArray 59)) (.cells y.toArray 59)
    rw [cell_of_row _ (w.heap.size + 1) 0 y.toArray 59 (0, 0) (by simpa using hh)]
    rw [List.getElem?_toArray]
    rw [hyr]; rfl
  obtain ⟨s, hs⟩ : ∃ s, codeOf x = s := ⟨_, rfl⟩
  obtain ⟨t, ht⟩ : ∃ s, codeOf y = s := ⟨_, rfl⟩
  have HV : Hid (ordItem x y = Pl.cmp s t) := Lib.hid (by unfold ordItem; rw [hs, ht])
  rw [hs] at c0
  rw [ht] at c1
  clear hs ht hxr hyr hx hy
  go_enter Tryz.func91, Tryz.ntmps91
  go_wp2_with fail
  refine (compare_any s t _).mono ?_
  rintro e w' ⟨rfl, rfl⟩
  go_wp2_with fail
  go_ret
  exact ⟨by rw [HV.out]; rfl, HB.out⟩

theorem tellsItem (w : World) : TellsO kItem w 91 #[] ordItem := ⟨fun args W => by kernel_rfl, fun W _ a b ha hb => cordItem a b W ha hb⟩

/-- The table of items. -/
abbrev tvItem : Value := .func (.func 91) #[] #[]
attribute [local go_sem] store_func
theorem tabItem_any (w : World) : Calls Tryz.prog 66 #[] w fun e w' => e = .returned (.agg #[tvItem]) ∧ Below w.heap.size w w' := by
  go_enter Tryz.func66, Tryz.ntmps66
  go_wp2
  refine bodyPost_ret (v := .agg #[tvItem]) ?_ rfl ⟨rfl, ?_⟩
  · simp [results, Tryz.results66, go_sem]
  · exact (Below.refl _ _).alloc (Nat.le_refl _) _

set_option maxRecDepth 100000 in
set_option maxHeartbeats 1600000 in
theorem cfindItem_any (h : Hs) (L : List (List Value)) (s : ByteArray) (w : World) (hn : h.n 0 = L.length) (hn6 : h.n 0 ≤ 1000000) (hL : Things kItem L) (hr : Rd w w.heap.size (h.A 0) L.flatten) :
    Calls Tryz.prog 35 #[h.val, .string s] w fun e w' => e = .returned (.tuple #[.agg (gotItem L s).toArray, .bool (atItem L s).isSome]) ∧ Below w.heap.size w w' := by
  obtain ⟨W0, hW0⟩ : ∃ W0, W0 = (w.alloc (.cells #[.slice (h.A 0) (h.n 0) (h.c 0), .slice (h.A 1) (h.n 1) (h.c 1), .slice (h.A 2) (h.n 2) (h.c 2), .slice (h.A 3) (h.n 3) (h.c 3), .slice (h.A 4) (h.n 4) (h.c 4), .slice (h.A 5) (h.n 5) (h.c 5), .slice (h.A 6) (h.n 6) (h.c 6), .slice (h.A 7) (h.n 7) (h.c 7), .slice (h.A 8) (h.n 8) (h.c 8), .slice (h.A 9) (h.n 9) (h.c 9), .slice (h.A 10) (h.n 10) (h.c 10), .slice (h.A 11) (h.n 11) (h.c 11), .slice (h.A 12) (h.n 12) (h.c 12), .slice (h.A 13) (h.n 13) (h.c 13), .int .i64 h.z] 37)).alloc (.cells #[.string ⟨#[]⟩, .string ⟨#[]⟩, .int .i64 0, .string ⟨#[]⟩, .int .i64 0, .string ⟨#[]⟩, .int .i64 0, .string ⟨#[]⟩, .int .i64 0, .int .i64 0, .int .i64 0, .bool false, .bool false, .bool false] 59) := ⟨_, rfl⟩
  have hb0 : Below w.heap.size w W0 := by rw [hW0]; exact ((Below.refl _ _).alloc (Nat.le_refl _) _).alloc (by simp) _
  have hs0 : W0.heap.size = w.heap.size + 2 := by rw [hW0]; simp
  have HBX : Hid (∀ W, Below W0.heap.size W0 W → W.cell? ⟨w.heap.size, 0, none⟩ = some (.slice (h.A 0) (h.n 0) (h.c 0))) := Lib.hid (fun W hW => (hW.cell (p := ⟨w.heap.size, 0, none⟩) (by simp; omega)).trans (by rw [hW0]; simp [go_sem]))
  have HRX : Hid (∀ W, Below W0.heap.size W0 W → W.heap[w.heap.size + 1]? = some (.cells zeroItem.toArray 59 (0, 0))) := Lib.hid (fun W hW => (hW.block _ (by omega)).trans (by
    rw [hW0]
    have := heap_alloc_new (w.alloc (.cells #[.slice (h.A 0) (h.n 0) (h.c 0), .slice (h.A 1) (h.n 1) (h.c 1), .slice (h.A 2) (h.n 2) (h.c 2), .slice (h.A 3) (h.n 3) (h.c 3), .slice (h.A 4) (h.n 4) (h.c 4), .slice (h.A 5) (h.n 5) (h.c 5), .slice (h.A 6) (h.n 6) (h.c 6), .slice (h.A 7) (h.n 7) (h.c 7), .slice (h.A 8) (h.n 8) (h.c 8), .slice (h.A 9) (h.n 9) (h.c 9), .slice (h.A 10) (h.n 10) (h.c 10), .slice (h.A 11) (h.n 11) (h.c 11), .slice (h.A 12) (h.n 12) (h.c 12), .slice (h.A 13) (h.n 13) (h.c 13), .int .i64 h.z] 37)) (.cells zeroItem.toArray 59)
    simpa [zeroItem] using this))
  have HFI : Hid (∀ W, Below W0.heap.size W0 W → Calls Tryz.prog 67 #[.agg #[tvItem], .slice (h.A 0) (h.n 0) (h.c 0), .agg #[.string s, .string ⟨#[]⟩, .int .i64 0, .string ⟨#[]⟩, .int .i64 0, .string ⟨#[]⟩, .int .i64 0, .string ⟨#[]⟩, .int .i64 0, .int .i64 0, .int .i64 0, .bool false, .bool false, .bool false]] W fun e w' => e = .returned (firstV (atItem L s)) ∧ Below W.heap.size W w') := Lib.hid (fun W hW =>
    findItem (h.A 0) (h.n 0) (h.c 0) 91 #[] ordItem (keyItem s) L W hn hn6 hL (keyItem_fits s) ((hr.below (hb0.trans (hW.mono (by omega)))).mono (hb0.trans (hW.mono (by omega))).size) (tellsItem W))
  have HN := Lib.hid hn
  have HL := Lib.hid hL
  have HR := Lib.hid hr
  have HB0 := Lib.hid hb0
  have HS0 := Lib.hid hs0
  have H : Hid (Below W0.heap.size W0 W0.drew) := Lib.hid (Below.refl _ _).drew
  have hu := Tryz.underlying59
  have HSZ : Hid (∀ y, Fits kItem y → (Tryz.prog.info? 59).map (·.size) = some y.toArray.size) := Lib.hid (fun y hy => by rw [show (Tryz.prog.info? 59).map (·.size) = some 14 from by kernel_rfl, List.size_toArray, hy.length]; rfl)
  clear hn hL hr hb0 hs0
  obtain ⟨o, ho⟩ : ∃ o, atItem L s = o := ⟨_, rfl⟩
  rw [ho] at HFI ⊢
  have HO := Lib.hid ho
  clear ho
  cases o with
  | none =>
    rw [firstV_none] at HFI
    unfold Hs.val
    go_enter Tryz.func35, Tryz.ntmps35
    go_wp2_with fail
    rw [← hW0]
    clear hW0
    go_region_held3 (fun w' => w'.cell? ⟨w.heap.size, 0, none⟩ = some (.slice (h.A 0) (h.n 0) (h.c 0)))
      (first | exact HBX.out _ H.out)
      (first
        | (go_at_call 66; refine (tabItem_any _).mono ?_; rintro e w' ⟨rfl, hb'⟩; have H := Lib.hid (H.out.trans (hb'.mono H.out.size)); clear hb')
        | (go_at_call 67; refine (HFI.out _ H.out).mono ?_; rintro e w' ⟨rfl, hb'⟩; have H := Lib.hid (H.out.trans (hb'.mono H.out.size)); clear hb'))
    have HRW := Lib.hid (HRX.out _ H.out)
    go_wp2_with (first
      | (refine wpList_store_row rfl 59 (.tmp 4) (.tmp 19) rfl (w.heap.size + 1) zeroItem.toArray rfl rfl _ _ HRW.out (HSZ.out _ zeroItem_fits) rfl (by simp [zeroItem, Value.oneCell']) ?_)
      | fail)
    have HBE : Hid (Below w.heap.size w (w'.setRow (w.heap.size + 1) zeroItem.toArray)) := Lib.hid (by
      have hb := HB0.out.trans (H.out.mono HB0.out.size)
      exact ⟨hb.os, hb.tape, hb.output, by simpa using hb.size, fun k hk => (setRow_other _ _ k _ (by omega)).trans (hb.block k hk)⟩)
    have HG : Hid (gotItem L s = zeroItem) := Lib.hid (by unfold gotItem; rw [HO.out])
    exact bodyPost_ret (results_row_tmp rfl _ _ (w.heap.size + 1) _ _ _ _ rfl (setRow_heap _ _ _ _ _ _ HRW.out) hu rfl (HSZ.out _ zeroItem_fits)) rfl ⟨by rw [HG.out]; rfl, HBE.out⟩
  | some i =>
    rw [firstV_some] at HFI
    have hl : i < L.length := Pl.firstG_lt HO.out
    have hin : i < h.n 0 := by rw [HN.out]; exact hl
    obtain ⟨b, off, hA, hb, hc⟩ := HR.out.thing HL.out (by decide) hl
    have HG : Hid (gotItem L s = L[i]) := Lib.hid (by unfold gotItem; rw [HO.out]; simp only []; rw [List.getD_eq_getElem?_getD, List.getElem?_eq_getElem hl]; rfl)
    have fx := HL.out _ (List.getElem_mem hl)
    have r1 := hc i hl
    rw [show kItem.length = 14 from rfl] at r1
    obtain ⟨x, hx⟩ : ∃ x, L[i] = x := ⟨_, rfl⟩
    rw [hx] at fx r1 HG
    have HF := Lib.hid fx
    have HR1 : Hid (∀ W, Below W0.heap.size W0 W → W.rangeAt b (off + i * 14) x) := Lib.hid (fun W hW => rangeAt_below r1 hb (HB0.out.trans (hW.mono HB0.out.size)))
    have hlb : b < w.heap.size := hb
    have HIX : Hid ((Tryz.prog.info? 59).map (·.size) = some x.length) := Lib.hid (by have := HSZ.out x fx; rwa [List.size_toArray] at this)
    have HOZ : Hid (zeroItem.toArray.size = x.toArray.size) := Lib.hid (by rw [List.size_toArray, List.size_toArray, fx.length]; rfl)
    have HOC : Hid (x.toArray.all (·.oneCell') = true) := Lib.hid (all_oneCell_toArray (fits_one fx))
    have h1 : (0 : Int) ≤ (i : Int) := by omega
    have h2 : (i : Int) < (h.n 0 : Int) := by omega
    rw [hA] at HBX HFI hW0
    unfold Hs.val
    rw [hA]
    clear hc r1 hx fx hb hA HR hl
    go_enter Tryz.func35, Tryz.ntmps35
    go_wp2_with fail
    rw [← hW0]
    clear hW0
    go_region_held3 (fun w' => w'.cell? ⟨w.heap.size, 0, none⟩ = some (.slice (some ⟨b, off, none⟩) (h.n 0) (h.c 0)))
      (first | exact HBX.out _ H.out)
      (first
        | (go_at_call 66; refine (tabItem_any _).mono ?_; rintro e w' ⟨rfl, hb'⟩; have H := Lib.hid (H.out.trans (hb'.mono H.out.size)); clear hb')
        | (go_at_call 67; refine (HFI.out _ H.out).mono ?_; rintro e w' ⟨rfl, hb'⟩; have H := Lib.hid (H.out.trans (hb'.mono H.out.size)); clear hb'))
    have HRW := Lib.hid (HRX.out _ H.out)
    have HRM := Lib.hid (HR1.out _ H.out)
    have c0 := HBX.out _ H.out
    go_wp2_with (first
      | (refine wpList_load_mid rfl 59 (.tmp 23) rfl b (off + i * 14) rfl x _ HRM.out hu rfl HIX.out ?_)
      | (refine wpList_store_row rfl 59 (.tmp 4) (.tmp 24) rfl (w.heap.size + 1) x.toArray rfl rfl _ _ HRW.out (HSZ.out _ HF.out) HOZ.out HOC.out ?_)
      | fail)
    have HBE : Hid (Below w.heap.size w (w'.setRow (w.heap.size + 1) x.toArray)) := Lib.hid (by
      have hb := HB0.out.trans (H.out.mono HB0.out.size)
      exact ⟨hb.os, hb.tape, hb.output, by simpa using hb.size, fun k hk => (setRow_other _ _ k _ (by omega)).trans (hb.block k hk)⟩)
    exact bodyPost_ret (results_row_tmp rfl _ _ (w.heap.size + 1) _ _ _ _ rfl (setRow_heap _ _ _ _ _ _ HRW.out) hu rfl (HSZ.out _ HF.out)) rfl ⟨by rw [HG.out]; rfl, HBE.out⟩
end Go.Proofs.YtjphjblcahadkaaGreat

namespace Go.Proofs.YtjphjblcahadkaaGreat
set_option linter.unusedVariables false
open Go.RowKit
open Pl (firstG findG)

set_option maxRecDepth 100000 in
theorem cordBin (x y : List Value) (w : World) (hx : Fits kBin x) (hy : Fits kBin y) : Calls Tryz.prog 114 #[.agg x.toArray, .agg y.toArray] w fun e w' => e = .returned (.int .i64 (ordBin x y)) ∧ Below w.heap.size w w' := by
  obtain ⟨r, hxr⟩ := code_Bin hx
  obtain ⟨q, hyr⟩ := code_Bin hy
  have HB : Hid (Below w.heap.size w ((w.alloc (.cells x.toArray 68)).alloc (.cells y.toArray 68))) := Lib.hid (((Below.refl _ _).alloc (Nat.le_refl _) _).alloc (by simp) _)
  have c0 : ((w.alloc (.cells x.toArray 68)).alloc (.cells y.toArray 68)).cell? ⟨w.heap.size, 0, none⟩ = some (.string (codeOf x)) := by
    rw [cell_of_row _ w.heap.size 0 x.toArray 68 (0, 0) ((Below.heap_alloc _ _ _ (by simp)).trans (heap_alloc_new _ _))]
    rw [List.getElem?_toArray]
    rw [hxr]; rfl
  have c1 : ((w.alloc (.cells x.toArray 68)).alloc (.cells y.toArray 68)).cell? ⟨w.heap.size + 1, 0, none⟩ = some (.string (codeOf y)) := by
    have hh := heap_alloc_new (w.alloc (.cells x.toArray 68)) (.cells y.toArray 68)
    rw [cell_of_row _ (w.heap.size + 1) 0 y.toArray 68 (0, 0) (by simpa using hh)]
    rw [List.getElem?_toArray]
    rw [hyr]; rfl
  obtain ⟨s, hs⟩ : ∃ s, codeOf x = s := ⟨_, rfl⟩
  obtain ⟨t, ht⟩ : ∃ s, codeOf y = s := ⟨_, rfl⟩
  have HV : Hid (ordBin x y = Pl.cmp s t) := Lib.hid (by unfold ordBin; rw [hs, ht])
  rw [hs] at c0
  rw [ht] at c1
  clear hs ht hxr hyr hx hy
  go_enter Tryz.func114, Tryz.ntmps114
  go_wp2_with fail
  refine (compare_any s t _).mono ?_
  rintro e w' ⟨rfl, rfl⟩
  go_wp2_with fail
  go_ret
  exact ⟨by rw [HV.out]; rfl, HB.out⟩

theorem tellsBin (w : World) : TellsO kBin w 114 #[] ordBin := ⟨fun args W => by kernel_rfl, fun W _ a b ha hb => cordBin a b W ha hb⟩

/-- The table of items. -/
abbrev tvBin : Value := .func (.func 114) #[] #[]
attribute [local go_sem] store_func
theorem tabBin_any (w : World) : Calls Tryz.prog 99 #[] w fun e w' => e = .returned (.agg #[tvBin]) ∧ Below w.heap.size w w' := by
  go_enter Tryz.func99, Tryz.ntmps99
  go_wp2
  refine bodyPost_ret (v := .agg #[tvBin]) ?_ rfl ⟨rfl, ?_⟩
  · simp [results, Tryz.results99, go_sem]
  · exact (Below.refl _ _).alloc (Nat.le_refl _) _

set_option maxRecDepth 100000 in
set_option maxHeartbeats 1600000 in
theorem cfindBin_any (h : Hs) (L : List (List Value)) (s : ByteArray) (w : World) (hn : h.n 3 = L.length) (hn6 : h.n 3 ≤ 1000000) (hL : Things kBin L) (hr : Rd w w.heap.size (h.A 3) L.flatten) :
    Calls Tryz.prog 79 #[h.val, .string s] w fun e w' => e = .returned (.tuple #[.agg (gotBin L s).toArray, .bool (atBin L s).isSome]) ∧ Below w.heap.size w w' := by
  obtain ⟨W0, hW0⟩ : ∃ W0, W0 = (w.alloc (.cells #[.slice (h.A 0) (h.n 0) (h.c 0), .slice (h.A 1) (h.n 1) (h.c 1), .slice (h.A 2) (h.n 2) (h.c 2), .slice (h.A 3) (h.n 3) (h.c 3), .slice (h.A 4) (h.n 4) (h.c 4), .slice (h.A 5) (h.n 5) (h.c 5), .slice (h.A 6) (h.n 6) (h.c 6), .slice (h.A 7) (h.n 7) (h.c 7), .slice (h.A 8) (h.n 8) (h.c 8), .slice (h.A 9) (h.n 9) (h.c 9), .slice (h.A 10) (h.n 10) (h.c 10), .slice (h.A 11) (h.n 11) (h.c 11), .slice (h.A 12) (h.n 12) (h.c 12), .slice (h.A 13) (h.n 13) (h.c 13), .int .i64 h.z] 37)).alloc (.cells #[.string ⟨#[]⟩, .string ⟨#[]⟩, .int .i64 0, .int .i64 0, .int .i64 0, .int .i64 0, .int .i64 0, .bool false] 68) := ⟨_, rfl⟩
  have hb0 : Below w.heap.size w W0 := by rw [hW0]; exact ((Below.refl _ _).alloc (Nat.le_refl _) _).alloc (by simp) _
  have hs0 : W0.heap.size = w.heap.size + 2 := by rw [hW0]; simp
  have HBX : Hid (∀ W, Below W0.heap.size W0 W → W.cell? ⟨w.heap.size, 3, none⟩ = some (.slice (h.A 3) (h.n 3) (h.c 3))) := Lib.hid (fun W hW => (hW.cell (p := ⟨w.heap.size, 3, none⟩) (by simp; omega)).trans (by rw [hW0]; simp [go_sem]))
  have HRX : Hid (∀ W, Below W0.heap.size W0 W → W.heap[w.heap.size + 1]? = some (.cells zeroBin.toArray 68 (0, 0))) := Lib.hid (fun W hW => (hW.block _ (by omega)).trans (by
    rw [hW0]
    have := heap_alloc_new (w.alloc (.cells #[.slice (h.A 0) (h.n 0) (h.c 0), .slice (h.A 1) (h.n 1) (h.c 1), .slice (h.A 2) (h.n 2) (h.c 2), .slice (h.A 3) (h.n 3) (h.c 3), .slice (h.A 4) (h.n 4) (h.c 4), .slice (h.A 5) (h.n 5) (h.c 5), .slice (h.A 6) (h.n 6) (h.c 6), .slice (h.A 7) (h.n 7) (h.c 7), .slice (h.A 8) (h.n 8) (h.c 8), .slice (h.A 9) (h.n 9) (h.c 9), .slice (h.A 10) (h.n 10) (h.c 10), .slice (h.A 11) (h.n 11) (h.c 11), .slice (h.A 12) (h.n 12) (h.c 12), .slice (h.A 13) (h.n 13) (h.c 13), .int .i64 h.z] 37)) (.cells zeroBin.toArray 68)
    simpa [zeroBin] using this))
  have HFI : Hid (∀ W, Below W0.heap.size W0 W → Calls Tryz.prog 100 #[.agg #[tvBin], .slice (h.A 3) (h.n 3) (h.c 3), .agg #[.string s, .string ⟨#[]⟩, .int .i64 0, .int .i64 0, .int .i64 0, .int .i64 0, .int .i64 0, .bool false]] W fun e w' => e = .returned (firstV (atBin L s)) ∧ Below W.heap.size W w') := Lib.hid (fun W hW =>
    findBin (h.A 3) (h.n 3) (h.c 3) 114 #[] ordBin (keyBin s) L W hn hn6 hL (keyBin_fits s) ((hr.below (hb0.trans (hW.mono (by omega)))).mono (hb0.trans (hW.mono (by omega))).size) (tellsBin W))
  have HN := Lib.hid hn
  have HL := Lib.hid hL
  have HR := Lib.hid hr
  have HB0 := Lib.hid hb0
  have HS0 := Lib.hid hs0
  have H : Hid (Below W0.heap.size W0 W0.drew) := Lib.hid (Below.refl _ _).drew
  have hu := Tryz.underlying68
  have HSZ : Hid (∀ y, Fits kBin y → (Tryz.prog.info? 68).map (·.size) = some y.toArray.size) := Lib.hid (fun y hy => by rw [show (Tryz.prog.info? 68).map (·.size) = some 8 from by kernel_rfl, List.size_toArray, hy.length]; rfl)
  clear hn hL hr hb0 hs0
  obtain ⟨o, ho⟩ : ∃ o, atBin L s = o := ⟨_, rfl⟩
  rw [ho] at HFI ⊢
  have HO := Lib.hid ho
  clear ho
  cases o with
  | none =>
    rw [firstV_none] at HFI
    unfold Hs.val
    go_enter Tryz.func79, Tryz.ntmps79
    go_wp2_with fail
    rw [← hW0]
    clear hW0
    go_region_held3 (fun w' => w'.cell? ⟨w.heap.size, 3, none⟩ = some (.slice (h.A 3) (h.n 3) (h.c 3)))
      (first | exact HBX.out _ H.out)
      (first
        | (go_at_call 99; refine (tabBin_any _).mono ?_; rintro e w' ⟨rfl, hb'⟩; have H := Lib.hid (H.out.trans (hb'.mono H.out.size)); clear hb')
        | (go_at_call 100; refine (HFI.out _ H.out).mono ?_; rintro e w' ⟨rfl, hb'⟩; have H := Lib.hid (H.out.trans (hb'.mono H.out.size)); clear hb'))
    have HRW := Lib.hid (HRX.out _ H.out)
    go_wp2_with (first
      | (refine wpList_store_row rfl 68 (.tmp 4) (.tmp 19) rfl (w.heap.size + 1) zeroBin.toArray rfl rfl _ _ HRW.out (HSZ.out _ zeroBin_fits) rfl (by simp [zeroBin, Value.oneCell']) ?_)
      | fail)
    have HBE : Hid (Below w.heap.size w (w'.setRow (w.heap.size + 1) zeroBin.toArray)) := Lib.hid (by
      have hb := HB0.out.trans (H.out.mono HB0.out.size)
      exact ⟨hb.os, hb.tape, hb.output, by simpa using hb.size, fun k hk => (setRow_other _ _ k _ (by omega)).trans (hb.block k hk)⟩)
    have HG : Hid (gotBin L s = zeroBin) := Lib.hid (by unfold gotBin; rw [HO.out])
    exact bodyPost_ret (results_row_tmp rfl _ _ (w.heap.size + 1) _ _ _ _ rfl (setRow_heap _ _ _ _ _ _ HRW.out) hu rfl (HSZ.out _ zeroBin_fits)) rfl ⟨by rw [HG.out]; rfl, HBE.out⟩
  | some i =>
    rw [firstV_some] at HFI
    have hl : i < L.length := Pl.firstG_lt HO.out
    have hin : i < h.n 3 := by rw [HN.out]; exact hl
    obtain ⟨b, off, hA, hb, hc⟩ := HR.out.thing HL.out (by decide) hl
    have HG : Hid (gotBin L s = L[i]) := Lib.hid (by unfold gotBin; rw [HO.out]; simp only []; rw [List.getD_eq_getElem?_getD, List.getElem?_eq_getElem hl]; rfl)
    have fx := HL.out _ (List.getElem_mem hl)
    have r1 := hc i hl
    rw [show kBin.length = 8 from rfl] at r1
    obtain ⟨x, hx⟩ : ∃ x, L[i] = x := ⟨_, rfl⟩
    rw [hx] at fx r1 HG
    have HF := Lib.hid fx
    have HR1 : Hid (∀ W, Below W0.heap.size W0 W → W.rangeAt b (off + i * 8) x) := Lib.hid (fun W hW => rangeAt_below r1 hb (HB0.out.trans (hW.mono HB0.out.size)))
    have hlb : b < w.heap.size := hb
    have HIX : Hid ((Tryz.prog.info? 68).map (·.size) = some x.length) := Lib.hid (by have := HSZ.out x fx; rwa [List.size_toArray] at this)
    have HOZ : Hid (zeroBin.toArray.size = x.toArray.size) := Lib.hid (by rw [List.size_toArray, List.size_toArray, fx.length]; rfl)
    have HOC : Hid (x.toArray.all (·.oneCell') = true) := Lib.hid (all_oneCell_toArray (fits_one fx))
    have h1 : (0 : Int) ≤ (i : Int) := by omega
    have h2 : (i : Int) < (h.n 3 : Int) := by omega
    rw [hA] at HBX HFI hW0
    unfold Hs.val
    rw [hA]
    clear hc r1 hx fx hb hA HR hl
    go_enter Tryz.func79, Tryz.ntmps79
    go_wp2_with fail
    rw [← hW0]
    clear hW0
    go_region_held3 (fun w' => w'.cell? ⟨w.heap.size, 3, none⟩ = some (.slice (some ⟨b, off, none⟩) (h.n 3) (h.c 3)))
      (first | exact HBX.out _ H.out)
      (first
        | (go_at_call 99; refine (tabBin_any _).mono ?_; rintro e w' ⟨rfl, hb'⟩; have H := Lib.hid (H.out.trans (hb'.mono H.out.size)); clear hb')
        | (go_at_call 100; refine (HFI.out _ H.out).mono ?_; rintro e w' ⟨rfl, hb'⟩; have H := Lib.hid (H.out.trans (hb'.mono H.out.size)); clear hb'))
    have HRW := Lib.hid (HRX.out _ H.out)
    have HRM := Lib.hid (HR1.out _ H.out)
    have c0 := HBX.out _ H.out
    go_wp2_with (first
      | (refine wpList_load_mid rfl 68 (.tmp 23) rfl b (off + i * 8) rfl x _ HRM.out hu rfl HIX.out ?_)
      | (refine wpList_store_row rfl 68 (.tmp 4) (.tmp 24) rfl (w.heap.size + 1) x.toArray rfl rfl _ _ HRW.out (HSZ.out _ HF.out) HOZ.out HOC.out ?_)
      | fail)
    have HBE : Hid (Below w.heap.size w (w'.setRow (w.heap.size + 1) x.toArray)) := Lib.hid (by
      have hb := HB0.out.trans (H.out.mono HB0.out.size)
      exact ⟨hb.os, hb.tape, hb.output, by simpa using hb.size, fun k hk => (setRow_other _ _ k _ (by omega)).trans (hb.block k hk)⟩)
    exact bodyPost_ret (results_row_tmp rfl _ _ (w.heap.size + 1) _ _ _ _ rfl (setRow_heap _ _ _ _ _ _ HRW.out) hu rfl (HSZ.out _ HF.out)) rfl ⟨by rw [HG.out]; rfl, HBE.out⟩
end Go.Proofs.YtjphjblcahadkaaGreat

namespace Go.Proofs.YtjphjblcahadkaaGreat
set_option linter.unusedVariables false
open Go.RowKit
open Pl (firstG findG putG It)

theorem fcItem {h : Hs} {L : Nat → List (List Value)} {w : World} (hh : HT h L w) (s : ByteArray) : Calls Tryz.prog 35 #[.agg h.cells, .string s] w fun e w' => e = .returned (.tuple #[.agg (gotItem (L 0) s).toArray, .bool (atItem (L 0) s).isSome]) ∧ Below w.heap.size w w' :=
  cfindItem_any h (L 0) s w (hh 0 (by decide)).1 (hh 0 (by decide)).2.1 (hh 0 (by decide)).2.2.1 (hh 0 (by decide)).2.2.2
theorem fcBin {h : Hs} {L : Nat → List (List Value)} {w : World} (hh : HT h L w) (s : ByteArray) : Calls Tryz.prog 79 #[.agg h.cells, .string s] w fun e w' => e = .returned (.tuple #[.agg (gotBin (L 3) s).toArray, .bool (atBin (L 3) s).isSome]) ∧ Below w.heap.size w w' :=
  cfindBin_any h (L 3) s w (hh 3 (by decide)).1 (hh 3 (by decide)).2.1 (hh 3 (by decide)).2.2.1 (hh 3 (by decide)).2.2.2
theorem wrap0 : wrap64 0 = 0 := by unfold wrap64; omega
theorem wrap_wrap (z : Int) : wrap64 (wrap64 z) = wrap64 z := by unfold wrap64; omega
theorem loadP_wf (LI LQ : List (List Value)) (s : ByteArray) : wrap64 (loadP LI LQ s).1 = (loadP LI LQ s).1 ∧ wrap64 (loadP LI LQ s).2 = (loadP LI LQ s).2 := by
  unfold loadP
  have : ∀ (l : List (List Value)) (p : Int × Int), (wrap64 p.1 = p.1 ∧ wrap64 p.2 = p.2) → (wrap64 (l.foldl (loadQ LI s) p).1 = (l.foldl (loadQ LI s) p).1 ∧ wrap64 (l.foldl (loadQ LI s) p).2 = (l.foldl (loadQ LI s) p).2) := by
    intro l
    induction l with
    | nil => exact fun p h => h
    | cons q l ih =>
      intro p h
      rw [List.foldl_cons]
      refine ih _ ?_
      unfold loadQ
      split
      · exact ⟨wrap_wrap _, wrap_wrap _⟩
      · exact h
  exact this LQ (0, 0) ⟨wrap0, wrap0⟩
/-- One quant more: what the house knows no measures of has none. -/
theorem loadC_snoc (LI LQ : List (List Value)) (s : ByteArray) (k : Nat) (hk : k < LQ.length) : loadP LI (LQ.take (k + 1)) s =
    if Pl.eqv (qnOf LQ[k]).bin s = true then (wrap64 ((loadP LI (LQ.take k) s).1 + wrap64 ((qnOf LQ[k]).qty * (itOf (gotItem LI (qnOf LQ[k]).item)).vol)), wrap64 ((loadP LI (LQ.take k) s).2 + wrap64 ((qnOf LQ[k]).qty * (itOf (gotItem LI (qnOf LQ[k]).item)).wei))) else loadP LI (LQ.take k) s := by
  rw [loadP_snoc _ _ _ _ hk]
  unfold loadQ
  cases he : Pl.eqv (qnOf LQ[k]).bin s with
  | false => simp
  | true =>
    cases hi : (atItem LI (qnOf LQ[k]).item).isSome with
    | true => simp
    | false =>
      rw [gotItem_none hi]
      have h0 := loadP_wf LI (LQ.take k) s
      have hz : (itOf zeroItem).vol = 0 ∧ (itOf zeroItem).wei = 0 := ⟨rfl, rfl⟩
      rw [hz.1, hz.2, Int.mul_zero, show wrap64 0 = 0 from wrap0, Int.add_zero, Int.add_zero, h0.1, h0.2]
      simp
/-- A quant at its place. -/
theorem cquant_at {h : Hs} {L : Nat → List (List Value)} {w : World} (hh : HT h L w) {k : Nat} (hk : k < (L 4).length) : ∃ b off, h.A 4 = some ⟨b, off, none⟩ ∧ b < w.heap.size ∧ w.rangeAt b (off + k * 6) (qnOf (L 4)[k]).cells := by
  obtain ⟨b, off, hA, hb, hc⟩ := (hh 4 (by decide)).2.2.2.thing (hh 4 (by decide)).2.2.1 (by decide) hk
  have := hc k hk
  rw [show (kOf 4).length = 6 from rfl] at this
  exact ⟨b, off, hA, hb, by rw [← qn_cells ((hh 4 (by decide)).2.2.1 _ (List.getElem_mem hk))]; exact this⟩
set_option maxRecDepth 100000 in
set_option maxHeartbeats 3200000 in
theorem cload_any (h : Hs) (L : Nat → List (List Value)) (s : ByteArray) (w : World) (hh : HT h L w) :
    Calls Tryz.prog 80 #[.agg h.cells, .string s] w fun e w' => e = .returned (.tuple #[.int .i64 (loadP (L 0) (L 4) s).1, .int .i64 (loadP (L 0) (L 4) s).2]) ∧ Below w.heap.size w w' := by
  have HHT := Lib.hid hh
  have hn9 := (hh 4 (by decide)).2.1
  obtain ⟨m, hmm⟩ : ∃ m, h.n 4 = m := ⟨_, rfl⟩
  have HNM : Hid (m = (L 4).length) := Lib.hid (by rw [← hmm]; exact (hh 4 (by decide)).1)
  rw [hmm] at hn9
  have HMM := Lib.hid hmm
  obtain ⟨r, hr⟩ : ∃ r, loadP (L 0) (L 4) s = r := ⟨_, rfl⟩
  rw [hr]
  have HR := Lib.hid hr
  clear hr hmm
  obtain ⟨W0, hW0⟩ : ∃ W0, W0 = (w.alloc (.cells h.cells 37)) := ⟨_, rfl⟩
  have hb0 : Below w.heap.size w W0 := by rw [hW0]; exact (Below.refl _ _).alloc (Nat.le_refl _) _
  have hs0 : W0.heap.size = w.heap.size + 1 := by rw [hW0]; simp
  have HH : Hid (∀ W, Below W0.heap.size W0 W → W.heap[w.heap.size]? = some (.cells h.cells 37 (0, 0))) := Lib.hid (fun W hW => (hW.block _ (by omega)).trans (by
    rw [hW0]
    have hq := heap_alloc_new w (.cells h.cells 37)
    exact (by simpa using hq)))
  have HBW : Hid (∀ W, Below W0.heap.size W0 W → Below w.heap.size w W ∧ w.heap.size + 1 ≤ W.heap.size) := Lib.hid (fun W hW => ⟨hb0.trans (hW.mono (by omega)), by have := hW.size; omega⟩)
  have huh := Tryz.underlying37
  have HSH : Hid (∀ a : Hs, (Tryz.prog.info? 37).map (·.size) = some a.cells.size) := Lib.hid (fun a => by kernel_rfl)
  have HL4 : Hid (∀ W, Below W0.heap.size W0 W → W.cell? ⟨w.heap.size, 4, none⟩ = some (.slice (h.A 4) m (h.c 4)) ∧ w.heap.size < W.heap.size) := Lib.hid (fun W hW => ⟨by rw [cell_of_block (HH.out W hW), ← HMM.out]; rfl, by have := hW.size; omega⟩)
  have HSQ6 : Hid ((Tryz.prog.info? 73).map (·.size) = some 6) := Lib.hid (by kernel_rfl)
  have huq := Tryz.underlying73
  have H0 := Lib.hid (Below.refl W0.heap.size W0)
  clear hb0 hs0 hh
  subst hW0
  go_enter Tryz.func80, Tryz.ntmps80
  obtain ⟨d4, dlt⟩ := HL4.out _ H0.out
  go_wp2_with fail
  clear d4 dlt
  go_loopw [6, 7, 15] (fun v u i wr => ∃ (k : Nat) (va vb : Int), k ≤ m ∧ v = .int .i64 va ∧ u = .int .i64 vb ∧ i = .int .i64 (k : Int) ∧ Hid (loadP (L 0) ((L 4).take k) s = (va, vb)) ∧ Hid (Below (w.alloc (.cells h.cells 37)).heap.size (w.alloc (.cells h.cells 37)) wr)) (fun _ _ i _ => m - (intOf i).toNat)
  case atStart => exact ⟨0, 0, 0, by omega, rfl, rfl, rfl, Lib.hid rfl, H0⟩
  case round =>
    obtain ⟨k, va, vb, hk, rfl, rfl, rfl, hv, hw⟩ := hrel
    by_cases hlt : k < m
    · have hkl : k < (L 4).length := by rw [← HNM.out]; exact hlt
      have HTR : HT h L wr := HHT.out.below (HBW.out _ hw.out).1
      obtain ⟨b, off, hA, hb, r1⟩ := cquant_at HTR hkl
      have hsn := loadC_snoc (L 0) (L 4) s k hkl
      rw [hv.out] at hsn
      obtain ⟨q, hq⟩ : ∃ q, qnOf (L 4)[k] = q := ⟨_, rfl⟩
      rw [hq] at r1 hsn
      obtain ⟨qb, qi, ql, qs, qq, qh⟩ := q
      simp only [] at hsn
      have HRE : Hid (wr.rangeAt b (off + k * 6) [.string qb, .string qi, .string ql, .int .i64 qs, .int .i64 qq, .int .i64 qh]) := Lib.hid r1
      obtain ⟨x, hx, hxo⟩ := item_it HTR qi
      obtain ⟨is, his⟩ : ∃ z, (atItem (L 0) qi).isSome = z := ⟨_, rfl⟩
      rw [hxo] at hsn
      have HSN := Lib.hid hsn
      have CF : Hid (∀ W, HT h L W → Calls Tryz.prog 35 #[.agg h.cells, .string qi] W fun e w' => e = .returned (.tuple #[.agg #[.string x.code, .string (x.nm 0), .int .i64 (x.fc 0), .string (x.nm 1), .int .i64 (x.fc 1), .string (x.nm 2), .int .i64 (x.fc 2), .string (x.nm 3), .int .i64 (x.fc 3), .int .i64 x.vol, .int .i64 x.wei, .bool x.lots, .bool x.serial, .bool x.chk], .bool is]) ∧ Below W.heap.size W w') := Lib.hid (fun W hW => by have := fcItem hW qi; rw [hx, his] at this; exact this)
      obtain ⟨w1, hw1⟩ : ∃ w1, w1 = wr.alloc (.cells #[.string qb, .string qi, .string ql, .int .i64 qs, .int .i64 qq, .int .i64 qh] 73) := ⟨_, rfl⟩
      have hb1 : Below wr.heap.size wr w1 := by rw [hw1]; exact (Below.refl _ _).alloc (Nat.le_refl _) _
      have HX1 : Hid (w1.heap[wr.heap.size]? = some (.cells #[.string qb, .string qi, .string ql, .int .i64 qs, .int .i64 qq, .int .i64 qh] 73 (0, 0))) := Lib.hid (by rw [hw1]; exact heap_alloc_new _ _)
      have HW1 := Lib.hid hw1
      have HB1 := Lib.hid (hw.out.trans (hb1.mono hw.out.size))
      have HT1 := Lib.hid (HTR.below hb1)
      have h1 : (0 : Int) ≤ (k : Int) := by omega
      have h2 : (k : Int) < (m : Int) := by omega
      rw [hA]
      clear hw1 hb1 r1 hq hx hxo his hsn hkl HTR hA hb
      have hbx := HW1.out ▸ HH.out _ HB1.out
      have e0 : w1.cell? ⟨wr.heap.size, 0, none⟩ = some (.string qb) := by rw [cell_of_block HX1.out]; rfl
      have e1 : w1.cell? ⟨wr.heap.size, 1, none⟩ = some (.string qi) := by rw [cell_of_block HX1.out]; rfl
      have elt : wr.heap.size < w1.heap.size := lt_of_block HX1.out
      rw [HW1.out] at e0 e1 elt
      cases he : Pl.eqv qb s with
      | false =>
        have he' : (qb.toList == s.toList) = false := he
        have HV : Hid (loadP (L 0) ((L 4).take (k + 1)) s = (va, vb)) := Lib.hid (by rw [HSN.out, he]; rfl)
        clear he
        go_wp2_with (first
          | (refine wpList_load_mid rfl 73 (.tmp 17) rfl b (off + k * 6) rfl [.string qb, .string qi, .string ql, .int .i64 qs, .int .i64 qq, .int .i64 qh] _ HRE.out huq rfl HSQ6.out ?_)
          | fail)
        go_roundw
        case rel => rw [← HW1.out]; exact ⟨k + 1, va, vb, by omega, rfl, rfl, by go_num, HV, HB1⟩
        case measure => simp [intOf]; omega
      | true =>
        have he' : (qb.toList == s.toList) = true := he
        have HV : Hid (loadP (L 0) ((L 4).take (k + 1)) s = ((wrap64 (va + wrap64 (qq * x.vol))), (wrap64 (vb + wrap64 (qq * x.wei))))) := Lib.hid (by rw [HSN.out, he]; rfl)
        clear he
        go_wp2_with (first
          | (refine wpList_load_mid rfl 73 (.tmp 17) rfl b (off + k * 6) rfl [.string qb, .string qi, .string ql, .int .i64 qs, .int .i64 qq, .int .i64 qh] _ HRE.out huq rfl HSQ6.out ?_)
          | (refine wpList_load_row rfl 37 (.tmp 2) rfl w.heap.size rfl _ _ _ _ hbx huh rfl (HSH.out _) ?_)
          | fail)
        rw [← HW1.out]
        refine (CF.out _ HT1.out).mono ?_
        rintro e w2 ⟨rfl, hb2⟩
        have HB2 := Lib.hid (HB1.out.trans (hb2.mono HB1.out.size))
        have HX2 := Lib.hid ((hb2.block _ (lt_of_block HX1.out)).trans HX1.out)
        obtain ⟨w3, hw3⟩ : ∃ w3, w3 = w2.alloc (.cells #[.string x.code, .string (x.nm 0), .int .i64 (x.fc 0), .string (x.nm 1), .int .i64 (x.fc 1), .string (x.nm 2), .int .i64 (x.fc 2), .string (x.nm 3), .int .i64 (x.fc 3), .int .i64 x.vol, .int .i64 x.wei, .bool x.lots, .bool x.serial, .bool x.chk] 59) := ⟨_, rfl⟩
        have HB3 : Hid (Below _ _ w3) := Lib.hid (hw3 ▸ HB2.out.alloc HB2.out.size _)
        have HX3 : Hid (w3.heap[wr.heap.size]? = some (.cells #[.string qb, .string qi, .string ql, .int .i64 qs, .int .i64 qq, .int .i64 qh] 73 (0, 0))) := Lib.hid (by rw [hw3]; exact (Below.heap_alloc _ _ _ (lt_of_block HX2.out)).trans HX2.out)
        have HY3 : Hid (w3.heap[w2.heap.size]? = some (.cells #[.string x.code, .string (x.nm 0), .int .i64 (x.fc 0), .string (x.nm 1), .int .i64 (x.fc 1), .string (x.nm 2), .int .i64 (x.fc 2), .string (x.nm 3), .int .i64 (x.fc 3), .int .i64 x.vol, .int .i64 x.wei, .bool x.lots, .bool x.serial, .bool x.chk] 59 (0, 0))) := Lib.hid (by rw [hw3]; exact heap_alloc_new _ _)
        have HW3 := Lib.hid hw3
        clear hw3 hb2 hbx e0 e1 elt
        go_upto_region 7 with fail
        rw [← HW3.out]
        have y0 : w3.cell? ⟨wr.heap.size, 0, none⟩ = some (.string qb) := by rw [cell_of_block HX3.out]; rfl
        have y4 : w3.cell? ⟨wr.heap.size, 4, none⟩ = some (.int .i64 qq) := by rw [cell_of_block HX3.out]; rfl
        have ylt : wr.heap.size < w3.heap.size := lt_of_block HX3.out
        have z9 : w3.cell? ⟨w2.heap.size, 9, none⟩ = some (.int .i64 x.vol) := by rw [cell_of_block HY3.out]; rfl
        have z10 : w3.cell? ⟨w2.heap.size, 10, none⟩ = some (.int .i64 x.wei) := by rw [cell_of_block HY3.out]; rfl
        have zlt : w2.heap.size < w3.heap.size := lt_of_block HY3.out
        go_wp2_with fail
        go_roundw
        case rel => exact ⟨k + 1, (wrap64 (va + wrap64 (qq * x.vol))), (wrap64 (vb + wrap64 (qq * x.wei))), by omega, rfl, rfl, by go_num, HV, HB3⟩
        case measure => simp [intOf]; omega
    · have hkm : k = m := by omega
      have HV : Hid ((va, vb) = r) := Lib.hid (by rw [← hv.out, ← HR.out, List.take_of_length_le (by rw [← HNM.out]; omega)])
      go_wp2_with fail
      go_ret2
      exact ⟨by rw [← HV.out]; rfl, (HBW.out _ hw.out).1⟩

set_option maxRecDepth 100000 in
set_option maxHeartbeats 3200000 in
theorem cholds_any (xc xz : ByteArray) (kd ai pl vo we : Int) (fz : Bool) (v u : Int) (w : World) :
    Calls Tryz.prog 81 #[.agg #[.string xc, .string xz, .int .i64 kd, .int .i64 ai, .int .i64 pl, .int .i64 vo, .int .i64 we, .bool fz], .int .i64 v, .int .i64 u] w fun e w' => e = .returned (.bool (decide (v ≤ vo) && decide (u ≤ we))) ∧ Below w.heap.size w w' := by
  have HB := Lib.hid ((Below.refl _ w).alloc (Nat.le_refl _) (.cells #[.string xc, .string xz, .int .i64 kd, .int .i64 ai, .int .i64 pl, .int .i64 vo, .int .i64 we, .bool fz] 68))
  by_cases q1 : v ≤ vo
  · by_cases q2 : u ≤ we
    · go_enter Tryz.func81, Tryz.ntmps81
      go_wp2_with fail
      go_ret
      exact ⟨by simp [q2]; omega, HB.out⟩
    · go_enter Tryz.func81, Tryz.ntmps81
      go_wp2_with fail
      go_ret
      exact ⟨by simp; omega, HB.out⟩
  · go_enter Tryz.func81, Tryz.ntmps81
    go_wp2_with fail
    go_ret
    exact ⟨by simp; omega, HB.out⟩

set_option maxRecDepth 100000 in
set_option maxHeartbeats 3200000 in
theorem cfits_any (h : Hs) (L : Nat → List (List Value)) (s t : ByteArray) (n : Int) (w : World) (hh : HT h L w) :
    Calls Tryz.prog 38 #[.agg h.cells, .string s, .string t, .int .i64 n] w fun e w' => e = .returned (.int .i64 (roomE (L 0) (L 3) (L 4) s t n : Nat)) ∧ Below w.heap.size w w' := by
  obtain ⟨y, hy, hyb⟩ := bin_eight hh s
  obtain ⟨x, hx, hxo⟩ := item_it hh t
  obtain ⟨ib, hib⟩ : ∃ z, (atBin (L 3) s).isSome = z := ⟨_, rfl⟩
  obtain ⟨ii, hii⟩ : ∃ z, (atItem (L 0) t).isSome = z := ⟨_, rfl⟩
  obtain ⟨lv, hlv⟩ : ∃ z, (loadP (L 0) (L 4) s).1 = z := ⟨_, rfl⟩
  obtain ⟨lw, hlw⟩ : ∃ z, (loadP (L 0) (L 4) s).2 = z := ⟨_, rfl⟩
  obtain ⟨r, hr⟩ : ∃ r, roomE (L 0) (L 3) (L 4) s t n = r := ⟨_, rfl⟩
  have HA : Hid (r = if (ib && ii) = false then 12 else if y.vol < wrap64 (lv + wrap64 (n * x.vol)) ∨ y.wei < wrap64 (lw + wrap64 (n * x.wei)) then 26 else 0) := Lib.hid (by rw [← hr]; unfold roomE; rw [hib, hii, hyb, hxo, hlv, hlw])
  have CB : Hid (∀ W, Below w.heap.size w W → Calls Tryz.prog 79 #[.agg h.cells, .string s] W fun e w' => e = .returned (.tuple #[.agg #[.string y.code, .string y.zone, .int .i64 y.kind, .int .i64 y.aisle, .int .i64 y.place, .int .i64 y.vol, .int .i64 y.wei, .bool y.frz], .bool ib]) ∧ Below W.heap.size W w') := Lib.hid (fun W hW => by have := fcBin (hh.below hW) s; rw [hy, hib] at this; exact this)
  have CI : Hid (∀ W, Below w.heap.size w W → Calls Tryz.prog 35 #[.agg h.cells, .string t] W fun e w' => e = .returned (.tuple #[.agg #[.string x.code, .string (x.nm 0), .int .i64 (x.fc 0), .string (x.nm 1), .int .i64 (x.fc 1), .string (x.nm 2), .int .i64 (x.fc 2), .string (x.nm 3), .int .i64 (x.fc 3), .int .i64 x.vol, .int .i64 x.wei, .bool x.lots, .bool x.serial, .bool x.chk], .bool ii]) ∧ Below W.heap.size W w') := Lib.hid (fun W hW => by have := fcItem (hh.below hW) t; rw [hx, hii] at this; exact this)
  have CL : Hid (∀ W, Below w.heap.size w W → Calls Tryz.prog 80 #[.agg h.cells, .string s] W fun e w' => e = .returned (.tuple #[.int .i64 lv, .int .i64 lw]) ∧ Below W.heap.size W w') := Lib.hid (fun W hW => by have := cload_any h L s W (hh.below hW); rwa [hlv, hlw] at this)
  rw [hr]
  clear hr hib hii hlv hlw hy hyb hx hxo
  obtain ⟨W0, hW0⟩ : ∃ W0, W0 = (w.alloc (.cells h.cells 37)) := ⟨_, rfl⟩
  have hb0 : Below w.heap.size w W0 := by rw [hW0]; exact (Below.refl _ _).alloc (Nat.le_refl _) _
  have hs0 : W0.heap.size = w.heap.size + 1 := by rw [hW0]; simp
  have HH : Hid (∀ W, Below W0.heap.size W0 W → W.heap[w.heap.size]? = some (.cells h.cells 37 (0, 0))) := Lib.hid (fun W hW => (hW.block _ (by omega)).trans (by
    rw [hW0]
    have hq := heap_alloc_new w (.cells h.cells 37)
    exact (by simpa using hq)))
  have HBW : Hid (∀ W, Below W0.heap.size W0 W → Below w.heap.size w W ∧ w.heap.size + 1 ≤ W.heap.size) := Lib.hid (fun W hW => ⟨hb0.trans (hW.mono (by omega)), by have := hW.size; omega⟩)
  have huh := Tryz.underlying37
  have HSH : Hid (∀ a : Hs, (Tryz.prog.info? 37).map (·.size) = some a.cells.size) := Lib.hid (fun a => by kernel_rfl)
  have H0 := Lib.hid (Below.refl W0.heap.size W0)
  clear hb0 hs0 hh
  subst hW0
  go_enter Tryz.func38, Tryz.ntmps38
  go_wp2_with (first
    | (refine wpList_load_row rfl 37 (.tmp 4) rfl w.heap.size rfl _ _ _ _ (HH.out _ H0.out) huh rfl (HSH.out _) ?_)
    | fail)
  refine (CB.out _ (HBW.out _ H0.out).1).mono ?_
  rintro e w1 ⟨rfl, hb1⟩
  have H1 := Lib.hid (H0.out.trans (hb1.mono H0.out.size))
  clear hb1
  have H2 := Lib.hid (H1.out.alloc H1.out.size (.cells #[.string y.code, .string y.zone, .int .i64 y.kind, .int .i64 y.aisle, .int .i64 y.place, .int .i64 y.vol, .int .i64 y.wei, .bool y.frz] 68))
  cases ib with
  | false =>
    have HE : Hid (r = 12) := Lib.hid (by rw [HA.out]; rfl)
    go_wp2_with fail
    go_ret
    exact ⟨by rw [HE.out]; rfl, (HBW.out _ H2.out).1⟩
  | true =>
    go_wp2_with (first
      | (refine wpList_load_row rfl 37 (.tmp 4) rfl w.heap.size rfl _ _ _ _ (HH.out _ H2.out) huh rfl (HSH.out _) ?_)
      | fail)
    refine (CI.out _ (HBW.out _ H2.out).1).mono ?_
    rintro e w2 ⟨rfl, hb2⟩
    have HBQ : Hid (Below (w1.alloc (.cells #[.string y.code, .string y.zone, .int .i64 y.kind, .int .i64 y.aisle, .int .i64 y.place, .int .i64 y.vol, .int .i64 y.wei, .bool y.frz] 68)).heap.size (w1.alloc (.cells #[.string y.code, .string y.zone, .int .i64 y.kind, .int .i64 y.aisle, .int .i64 y.place, .int .i64 y.vol, .int .i64 y.wei, .bool y.frz] 68)) w2) := Lib.hid hb2
    have H3 := Lib.hid (H2.out.trans (hb2.mono H2.out.size))
    clear hb2
    have H4 := Lib.hid (H3.out.alloc H3.out.size (.cells #[.string x.code, .string (x.nm 0), .int .i64 (x.fc 0), .string (x.nm 1), .int .i64 (x.fc 1), .string (x.nm 2), .int .i64 (x.fc 2), .string (x.nm 3), .int .i64 (x.fc 3), .int .i64 x.vol, .int .i64 x.wei, .bool x.lots, .bool x.serial, .bool x.chk] 59))
    cases ii with
    | false =>
      have HE : Hid (r = 12) := Lib.hid (by rw [HA.out]; rfl)
      go_wp2_with fail
      go_ret
      exact ⟨by rw [HE.out]; rfl, (HBW.out _ H4.out).1⟩
    | true =>
      obtain ⟨w3, hw3⟩ : ∃ w3, w3 = w2.alloc (.cells #[.string x.code, .string (x.nm 0), .int .i64 (x.fc 0), .string (x.nm 1), .int .i64 (x.fc 1), .string (x.nm 2), .int .i64 (x.fc 2), .string (x.nm 3), .int .i64 (x.fc 3), .int .i64 x.vol, .int .i64 x.wei, .bool x.lots, .bool x.serial, .bool x.chk] 59) := ⟨_, rfl⟩
      have HX : Hid (∀ W, Below w3.heap.size w3 W → W.cell? ⟨w2.heap.size, 9, none⟩ = some (.int .i64 x.vol) ∧ W.cell? ⟨w2.heap.size, 10, none⟩ = some (.int .i64 x.wei) ∧ W.heap[w1.heap.size]? = some (.cells #[.string y.code, .string y.zone, .int .i64 y.kind, .int .i64 y.aisle, .int .i64 y.place, .int .i64 y.vol, .int .i64 y.wei, .bool y.frz] 68 (0, 0)) ∧ w2.heap.size < W.heap.size) := Lib.hid (fun W hW => by
        have a1 : w3.heap[w2.heap.size]? = some (.cells #[.string x.code, .string (x.nm 0), .int .i64 (x.fc 0), .string (x.nm 1), .int .i64 (x.fc 1), .string (x.nm 2), .int .i64 (x.fc 2), .string (x.nm 3), .int .i64 (x.fc 3), .int .i64 x.vol, .int .i64 x.wei, .bool x.lots, .bool x.serial, .bool x.chk] 59 (0, 0)) := by rw [hw3]; exact heap_alloc_new _ _
        have a0 := heap_alloc_new w1 (.cells #[.string y.code, .string y.zone, .int .i64 y.kind, .int .i64 y.aisle, .int .i64 y.place, .int .i64 y.vol, .int .i64 y.wei, .bool y.frz] 68)
        have hlt := lt_of_block a0
        have a2 : w3.heap[w1.heap.size]? = some (.cells #[.string y.code, .string y.zone, .int .i64 y.kind, .int .i64 y.aisle, .int .i64 y.place, .int .i64 y.vol, .int .i64 y.wei, .bool y.frz] 68 (0, 0)) := by rw [hw3]; exact (Below.heap_alloc _ _ _ (Nat.lt_of_lt_of_le hlt HBQ.out.size)).trans ((HBQ.out.block _ hlt).trans a0)
        have b1 := (hW.block _ (lt_of_block a1)).trans a1
        have b2 := (hW.block _ (lt_of_block a2)).trans a2
        exact ⟨by rw [cell_of_block b1]; rfl, by rw [cell_of_block b1]; rfl, b2, lt_of_block b1⟩)
      rw [hw3] at HX
      clear hw3
      go_wp2_with (first
        | (refine wpList_load_row rfl 37 (.tmp 4) rfl w.heap.size rfl _ _ _ _ (HH.out _ H4.out) huh rfl (HSH.out _) ?_)
        | fail)
      refine (CL.out _ (HBW.out _ H4.out).1).mono ?_
      rintro e w4 ⟨rfl, hb4⟩
      have H5 := Lib.hid (H4.out.trans (hb4.mono H4.out.size))
      obtain ⟨x9, x10, y0, l2⟩ := HX.out _ hb4
      have HY0 := Lib.hid y0
      clear hb4 y0
      have hub := Tryz.underlying68
      have HSB : Hid ((Tryz.prog.info? 68).map (·.size) = some (#[.string y.code, .string y.zone, .int .i64 y.kind, .int .i64 y.aisle, .int .i64 y.place, .int .i64 y.vol, .int .i64 y.wei, .bool y.frz] : Array Value).size) := Lib.hid (by kernel_rfl)
      have HA2 : Hid (r = if y.vol < wrap64 (lv + wrap64 (n * x.vol)) ∨ y.wei < wrap64 (lw + wrap64 (n * x.wei)) then 26 else 0) := Lib.hid (by rw [HA.out]; rfl)
      go_wp2_with (first
        | (refine wpList_load_row rfl 68 (.tmp 9) rfl w1.heap.size rfl _ _ _ _ HY0.out hub rfl HSB.out ?_)
        | fail)
      refine (cholds_any y.code y.zone y.kind y.aisle y.place y.vol y.wei y.frz _ _ _).mono ?_
      rintro e w5 ⟨rfl, hb5⟩
      have H6 := Lib.hid (H5.out.trans (hb5.mono H5.out.size))
      clear hb5 x9 x10 l2
      by_cases q1 : y.vol < wrap64 (lv + wrap64 (n * x.vol))
      · have HE : Hid (r = 26) := Lib.hid (by rw [HA2.out, if_pos (.inl q1)])
        rw [show decide (wrap64 (lv + wrap64 (n * x.vol)) ≤ y.vol) = false from decide_eq_false (by omega)]
        go_wp2_with fail
        go_ret
        exact ⟨by rw [HE.out]; rfl, (HBW.out _ H6.out).1⟩
      · by_cases q2 : y.wei < wrap64 (lw + wrap64 (n * x.wei))
        · have HE : Hid (r = 26) := Lib.hid (by rw [HA2.out, if_pos (.inr q2)])
          rw [show decide (wrap64 (lw + wrap64 (n * x.wei)) ≤ y.wei) = false from decide_eq_false (by omega), Bool.and_false]
          go_wp2_with fail
          go_ret
          exact ⟨by rw [HE.out]; rfl, (HBW.out _ H6.out).1⟩
        · have HE : Hid (r = 0) := Lib.hid (by rw [HA2.out, if_neg (fun h => h.elim q1 q2)])
          rw [show decide (wrap64 (lv + wrap64 (n * x.vol)) ≤ y.vol) = true from decide_eq_true (by omega), show decide (wrap64 (lw + wrap64 (n * x.wei)) ≤ y.wei) = true from decide_eq_true (by omega)]
          go_wp2_with fail
          go_ret
          exact ⟨by rw [HE.out]; rfl, (HBW.out _ H6.out).1⟩

end Go.Proofs.YtjphjblcahadkaaGreat

namespace Go.Proofs.YtjphjblcahadkaaGreat
set_option linter.unusedVariables false
open Go.RowKit
open Pl (firstG findG)

set_option maxRecDepth 100000 in
theorem cordZone (x y : List Value) (w : World) (hx : Fits kZone x) (hy : Fits kZone y) : Calls Tryz.prog 119 #[.agg x.toArray, .agg y.toArray] w fun e w' => e = .returned (.int .i64 (ordZone x y)) ∧ Below w.heap.size w w' := by
  obtain ⟨r, hxr⟩ := code_Zone hx
  obtain ⟨q, hyr⟩ := code_Zone hy
  have HB : Hid (Below w.heap.size w ((w.alloc (.cells x.toArray 65)).alloc (.cells y.toArray 65))) := Lib.hid (((Below.refl _ _).alloc (Nat.le_refl _) _).alloc (by simp) _)
  have c0 : ((w.alloc (.cells x.toArray 65)).alloc (.cells y.toArray 65)).cell? ⟨w.heap.size, 0, none⟩ = some (.string (codeOf x)) := by
    rw [cell_of_row _ w.heap.size 0 x.toArray 65 (0, 0) ((Below.heap_alloc _ _ _ (by simp)).trans (heap_alloc_new _ _))]
    rw [List.getElem?_toArray]
    rw [hxr]; rfl
  have c1 : ((w.alloc (.cells x.toArray 65)).alloc (.cells y.toArray 65)).cell? ⟨w.heap.size + 1, 0, none⟩ = some (.string (codeOf y)) := by
    have hh := heap_alloc_new (w.alloc (.cells x.toArray 65)) (.cells y.toArray 65)
    rw [cell_of_row _ (w.heap.size + 1) 0 y.toArray 65 (0, 0) (by simpa using hh)]
    rw [List.getElem?_toArray]
    rw [hyr]; rfl
  obtain ⟨s, hs⟩ : ∃ s, codeOf x = s := ⟨_, rfl⟩
  obtain ⟨t, ht⟩ : ∃ s, codeOf y = s := ⟨_, rfl⟩
  have HV : Hid (ordZone x y = Pl.cmp s t) := Lib.hid (by unfold ordZone; rw [hs, ht])
  rw [hs] at c0
  rw [ht] at c1
  clear hs ht hxr hyr hx hy
  go_enter Tryz.func119, Tryz.ntmps119
  go_wp2_with fail
  refine (compare_any s t _).mono ?_
  rintro e w' ⟨rfl, rfl⟩
  go_wp2_with fail
  go_ret
  exact ⟨by rw [HV.out]; rfl, HB.out⟩

theorem tellsZone (w : World) : TellsO kZone w 119 #[] ordZone := ⟨fun args W => by kernel_rfl, fun W _ a b ha hb => cordZone a b W ha hb⟩

/-- The table of items. -/
abbrev tvZone : Value := .func (.func 119) #[] #[]
attribute [local go_sem] store_func
theorem tabZone_any (w : World) : Calls Tryz.prog 110 #[] w fun e w' => e = .returned (.agg #[tvZone]) ∧ Below w.heap.size w w' := by
  go_enter Tryz.func110, Tryz.ntmps110
  go_wp2
  refine bodyPost_ret (v := .agg #[tvZone]) ?_ rfl ⟨rfl, ?_⟩
  · simp [results, Tryz.results110, go_sem]
  · exact (Below.refl _ _).alloc (Nat.le_refl _) _

set_option maxRecDepth 100000 in
set_option maxHeartbeats 1600000 in
theorem cfindZone_any (h : Hs) (L : List (List Value)) (s : ByteArray) (w : World) (hn : h.n 2 = L.length) (hn6 : h.n 2 ≤ 1000000) (hL : Things kZone L) (hr : Rd w w.heap.size (h.A 2) L.flatten) :
    Calls Tryz.prog 97 #[h.val, .string s] w fun e w' => e = .returned (.tuple #[.agg (gotZone L s).toArray, .bool (atZone L s).isSome]) ∧ Below w.heap.size w w' := by
  obtain ⟨W0, hW0⟩ : ∃ W0, W0 = (w.alloc (.cells #[.slice (h.A 0) (h.n 0) (h.c 0), .slice (h.A 1) (h.n 1) (h.c 1), .slice (h.A 2) (h.n 2) (h.c 2), .slice (h.A 3) (h.n 3) (h.c 3), .slice (h.A 4) (h.n 4) (h.c 4), .slice (h.A 5) (h.n 5) (h.c 5), .slice (h.A 6) (h.n 6) (h.c 6), .slice (h.A 7) (h.n 7) (h.c 7), .slice (h.A 8) (h.n 8) (h.c 8), .slice (h.A 9) (h.n 9) (h.c 9), .slice (h.A 10) (h.n 10) (h.c 10), .slice (h.A 11) (h.n 11) (h.c 11), .slice (h.A 12) (h.n 12) (h.c 12), .slice (h.A 13) (h.n 13) (h.c 13), .int .i64 h.z] 37)).alloc (.cells #[.string ⟨#[]⟩, .string ⟨#[]⟩] 65) := ⟨_, rfl⟩
  have hb0 : Below w.heap.size w W0 := by rw [hW0]; exact ((Below.refl _ _).alloc (Nat.le_refl _) _).alloc (by simp) _
  have hs0 : W0.heap.size = w.heap.size + 2 := by rw [hW0]; simp
  have HBX : Hid (∀ W, Below W0.heap.size W0 W → W.cell? ⟨w.heap.size, 2, none⟩ = some (.slice (h.A 2) (h.n 2) (h.c 2))) := Lib.hid (fun W hW => (hW.cell (p := ⟨w.heap.size, 2, none⟩) (by simp; omega)).trans (by rw [hW0]; simp [go_sem]))
  have HRX : Hid (∀ W, Below W0.heap.size W0 W → W.heap[w.heap.size + 1]? = some (.cells zeroZone.toArray 65 (0, 0))) := Lib.hid (fun W hW => (hW.block _ (by omega)).trans (by
    rw [hW0]
    have := heap_alloc_new (w.alloc (.cells #[.slice (h.A 0) (h.n 0) (h.c 0), .slice (h.A 1) (h.n 1) (h.c 1), .slice (h.A 2) (h.n 2) (h.c 2), .slice (h.A 3) (h.n 3) (h.c 3), .slice (h.A 4) (h.n 4) (h.c 4), .slice (h.A 5) (h.n 5) (h.c 5), .slice (h.A 6) (h.n 6) (h.c 6), .slice (h.A 7) (h.n 7) (h.c 7), .slice (h.A 8) (h.n 8) (h.c 8), .slice (h.A 9) (h.n 9) (h.c 9), .slice (h.A 10) (h.n 10) (h.c 10), .slice (h.A 11) (h.n 11) (h.c 11), .slice (h.A 12) (h.n 12) (h.c 12), .slice (h.A 13) (h.n 13) (h.c 13), .int .i64 h.z] 37)) (.cells zeroZone.toArray 65)
    simpa [zeroZone] using this))
  have HFI : Hid (∀ W, Below W0.heap.size W0 W → Calls Tryz.prog 111 #[.agg #[tvZone], .slice (h.A 2) (h.n 2) (h.c 2), .agg #[.string s, .string ⟨#[]⟩]] W fun e w' => e = .returned (firstV (atZone L s)) ∧ Below W.heap.size W w') := Lib.hid (fun W hW =>
    findZone (h.A 2) (h.n 2) (h.c 2) 119 #[] ordZone (keyZone s) L W hn hn6 hL (keyZone_fits s) ((hr.below (hb0.trans (hW.mono (by omega)))).mono (hb0.trans (hW.mono (by omega))).size) (tellsZone W))
  have HN := Lib.hid hn
  have HL := Lib.hid hL
  have HR := Lib.hid hr
  have HB0 := Lib.hid hb0
  have HS0 := Lib.hid hs0
  have H : Hid (Below W0.heap.size W0 W0.drew) := Lib.hid (Below.refl _ _).drew
  have hu := Tryz.underlying65
  have HSZ : Hid (∀ y, Fits kZone y → (Tryz.prog.info? 65).map (·.size) = some y.toArray.size) := Lib.hid (fun y hy => by rw [show (Tryz.prog.info? 65).map (·.size) = some 2 from by kernel_rfl, List.size_toArray, hy.length]; rfl)
  clear hn hL hr hb0 hs0
  obtain ⟨o, ho⟩ : ∃ o, atZone L s = o := ⟨_, rfl⟩
  rw [ho] at HFI ⊢
  have HO := Lib.hid ho
  clear ho
  cases o with
  | none =>
    rw [firstV_none] at HFI
    unfold Hs.val
    go_enter Tryz.func97, Tryz.ntmps97
    go_wp2_with fail
    rw [← hW0]
    clear hW0
    go_region_held3 (fun w' => w'.cell? ⟨w.heap.size, 2, none⟩ = some (.slice (h.A 2) (h.n 2) (h.c 2)))
      (first | exact HBX.out _ H.out)
      (first
        | (go_at_call 110; refine (tabZone_any _).mono ?_; rintro e w' ⟨rfl, hb'⟩; have H := Lib.hid (H.out.trans (hb'.mono H.out.size)); clear hb')
        | (go_at_call 111; refine (HFI.out _ H.out).mono ?_; rintro e w' ⟨rfl, hb'⟩; have H := Lib.hid (H.out.trans (hb'.mono H.out.size)); clear hb'))
    have HRW := Lib.hid (HRX.out _ H.out)
    go_wp2_with (first
      | (refine wpList_store_row rfl 65 (.tmp 4) (.tmp 19) rfl (w.heap.size + 1) zeroZone.toArray rfl rfl _ _ HRW.out (HSZ.out _ zeroZone_fits) rfl (by simp [zeroZone, Value.oneCell']) ?_)
      | fail)
    have HBE : Hid (Below w.heap.size w (w'.setRow (w.heap.size + 1) zeroZone.toArray)) := Lib.hid (by
      have hb := HB0.out.trans (H.out.mono HB0.out.size)
      exact ⟨hb.os, hb.tape, hb.output, by simpa using hb.size, fun k hk => (setRow_other _ _ k _ (by omega)).trans (hb.block k hk)⟩)
    have HG : Hid (gotZone L s = zeroZone) := Lib.hid (by unfold gotZone; rw [HO.out])
    exact bodyPost_ret (results_row_tmp rfl _ _ (w.heap.size + 1) _ _ _ _ rfl (setRow_heap _ _ _ _ _ _ HRW.out) hu rfl (HSZ.out _ zeroZone_fits)) rfl ⟨by rw [HG.out]; rfl, HBE.out⟩
  | some i =>
    rw [firstV_some] at HFI
    have hl : i < L.length := Pl.firstG_lt HO.out
    have hin : i < h.n 2 := by rw [HN.out]; exact hl
    obtain ⟨b, off, hA, hb, hc⟩ := HR.out.thing HL.out (by decide) hl
    have HG : Hid (gotZone L s = L[i]) := Lib.hid (by unfold gotZone; rw [HO.out]; simp only []; rw [List.getD_eq_getElem?_getD, List.getElem?_eq_getElem hl]; rfl)
    have fx := HL.out _ (List.getElem_mem hl)
    have r1 := hc i hl
    rw [show kZone.length = 2 from rfl] at r1
    obtain ⟨x, hx⟩ : ∃ x, L[i] = x := ⟨_, rfl⟩
    rw [hx] at fx r1 HG
    have HF := Lib.hid fx
    have HR1 : Hid (∀ W, Below W0.heap.size W0 W → W.rangeAt b (off + i * 2) x) := Lib.hid (fun W hW => rangeAt_below r1 hb (HB0.out.trans (hW.mono HB0.out.size)))
    have hlb : b < w.heap.size := hb
    have HIX : Hid ((Tryz.prog.info? 65).map (·.size) = some x.length) := Lib.hid (by have := HSZ.out x fx; rwa [List.size_toArray] at this)
    have HOZ : Hid (zeroZone.toArray.size = x.toArray.size) := Lib.hid (by rw [List.size_toArray, List.size_toArray, fx.length]; rfl)
    have HOC : Hid (x.toArray.all (·.oneCell') = true) := Lib.hid (all_oneCell_toArray (fits_one fx))
    have h1 : (0 : Int) ≤ (i : Int) := by omega
    have h2 : (i : Int) < (h.n 2 : Int) := by omega
    rw [hA] at HBX HFI hW0
    unfold Hs.val
    rw [hA]
    clear hc r1 hx fx hb hA HR hl
    go_enter Tryz.func97, Tryz.ntmps97
    go_wp2_with fail
    rw [← hW0]
    clear hW0
    go_region_held3 (fun w' => w'.cell? ⟨w.heap.size, 2, none⟩ = some (.slice (some ⟨b, off, none⟩) (h.n 2) (h.c 2)))
      (first | exact HBX.out _ H.out)
      (first
        | (go_at_call 110; refine (tabZone_any _).mono ?_; rintro e w' ⟨rfl, hb'⟩; have H := Lib.hid (H.out.trans (hb'.mono H.out.size)); clear hb')
        | (go_at_call 111; refine (HFI.out _ H.out).mono ?_; rintro e w' ⟨rfl, hb'⟩; have H := Lib.hid (H.out.trans (hb'.mono H.out.size)); clear hb'))
    have HRW := Lib.hid (HRX.out _ H.out)
    have HRM := Lib.hid (HR1.out _ H.out)
    have c0 := HBX.out _ H.out
    go_wp2_with (first
      | (refine wpList_load_mid rfl 65 (.tmp 23) rfl b (off + i * 2) rfl x _ HRM.out hu rfl HIX.out ?_)
      | (refine wpList_store_row rfl 65 (.tmp 4) (.tmp 24) rfl (w.heap.size + 1) x.toArray rfl rfl _ _ HRW.out (HSZ.out _ HF.out) HOZ.out HOC.out ?_)
      | fail)
    have HBE : Hid (Below w.heap.size w (w'.setRow (w.heap.size + 1) x.toArray)) := Lib.hid (by
      have hb := HB0.out.trans (H.out.mono HB0.out.size)
      exact ⟨hb.os, hb.tape, hb.output, by simpa using hb.size, fun k hk => (setRow_other _ _ k _ (by omega)).trans (hb.block k hk)⟩)
    exact bodyPost_ret (results_row_tmp rfl _ _ (w.heap.size + 1) _ _ _ _ rfl (setRow_heap _ _ _ _ _ _ HRW.out) hu rfl (HSZ.out _ HF.out)) rfl ⟨by rw [HG.out]; rfl, HBE.out⟩
theorem fcZone {h : Hs} {L : Nat → List (List Value)} {w : World} (hh : HT h L w) (s : ByteArray) : Calls Tryz.prog 97 #[.agg h.cells, .string s] w fun e w' => e = .returned (.tuple #[.agg (gotZone (L 2) s).toArray, .bool (atZone (L 2) s).isSome]) ∧ Below w.heap.size w w' :=
  cfindZone_any h (L 2) s w (hh 2 (by decide)).1 (hh 2 (by decide)).2.1 (hh 2 (by decide)).2.2.1 (hh 2 (by decide)).2.2.2
set_option maxRecDepth 100000 in
set_option maxHeartbeats 1600000 in
theorem csite_any (h : Hs) (L : Nat → List (List Value)) (s : ByteArray) (w : World) (hh : HT h L w) :
    Calls Tryz.prog 76 #[.agg h.cells, .string s] w fun e w' => e = .returned (.string (siteT (L 2) (L 3) s)) ∧ Below w.heap.size w w' := by
  obtain ⟨y, hy, hyb⟩ := bin_eight hh s
  obtain ⟨ga, gb, hg, hgs⟩ := zone_two hh y.zone
  have HFB := Lib.hid (fun W (hW : Below w.heap.size w W) => fcBin (hh.below hW) s)
  have HFZ := Lib.hid (fun W (hW : Below w.heap.size w W) => fcZone (hh.below hW) y.zone)
  obtain ⟨il, hil⟩ : ∃ q, (atBin (L 3) s).isSome = q := ⟨_, rfl⟩
  obtain ⟨iz, hiz⟩ : ∃ q, (atZone (L 2) y.zone).isSome = q := ⟨_, rfl⟩
  obtain ⟨r, hr⟩ : ∃ r, siteT (L 2) (L 3) s = r := ⟨_, rfl⟩
  have HA : Hid (r = if il = true then gb else ⟨#[]⟩) := Lib.hid (by rw [← hr]; unfold siteT; rw [hil, hyb, hgs])
  rw [hy, hil] at HFB
  unfold Bn.cells at HFB
  rw [hg, hiz] at HFZ
  rw [hr]
  clear hr hil hiz hy hyb hg hgs
  obtain ⟨W0, hW0⟩ : ∃ W0, W0 = (w.alloc (.cells h.cells 37)) := ⟨_, rfl⟩
  have hb0 : Below w.heap.size w W0 := by rw [hW0]; exact (Below.refl _ _).alloc (Nat.le_refl _) _
  have hs0 : W0.heap.size = w.heap.size + 1 := by rw [hW0]; simp
  have HH : Hid (∀ W, Below W0.heap.size W0 W → W.heap[w.heap.size]? = some (.cells h.cells 37 (0, 0))) := Lib.hid (fun W hW => (hW.block _ (by omega)).trans (by
    rw [hW0]
    have hq := heap_alloc_new w (.cells h.cells 37)
    exact (by simpa using hq)))
  have HBW : Hid (∀ W, Below W0.heap.size W0 W → Below w.heap.size w W ∧ w.heap.size + 1 ≤ W.heap.size) := Lib.hid (fun W hW => ⟨hb0.trans (hW.mono (by omega)), by have := hW.size; omega⟩)
  have huh := Tryz.underlying37
  have HSH : Hid (∀ a : Hs, (Tryz.prog.info? 37).map (·.size) = some a.cells.size) := Lib.hid (fun a => by kernel_rfl)
  have H0 := Lib.hid (Below.refl W0.heap.size W0)
  clear hb0 hs0 hh
  subst hW0
  go_enter Tryz.func76, Tryz.ntmps76
  go_wp2_with (first
    | (refine wpList_load_row rfl 37 (.tmp 2) rfl w.heap.size rfl _ _ _ _ (HH.out _ H0.out) huh rfl (HSH.out _) ?_)
    | fail)
  refine (HFB.out _ (HBW.out _ H0.out).1).mono ?_
  rintro e w1 ⟨rfl, hb1⟩
  have H1 := Lib.hid (H0.out.trans (hb1.mono H0.out.size))
  clear hb1
  have H2 := Lib.hid (H1.out.alloc H1.out.size (.cells #[.string y.code, .string y.zone, .int .i64 y.kind, .int .i64 y.aisle, .int .i64 y.place, .int .i64 y.vol, .int .i64 y.wei, .bool y.frz] 68))
  cases il with
  | false =>
    have HE : Hid (r = ⟨#[]⟩) := Lib.hid (by rw [HA.out]; rfl)
    go_wp2_with fail
    go_ret
    exact ⟨by rw [HE.out]; rfl, (HBW.out _ H2.out).1⟩
  | true =>
    have HE : Hid (r = gb) := Lib.hid (by rw [HA.out]; rfl)
    go_wp2_with (first
      | (refine wpList_load_row rfl 37 (.tmp 2) rfl w.heap.size rfl _ _ _ _ (HH.out _ H2.out) huh rfl (HSH.out _) ?_)
      | fail)
    refine (HFZ.out _ (HBW.out _ H2.out).1).mono ?_
    rintro e w2 ⟨rfl, hb2⟩
    have H3 := Lib.hid (H2.out.trans (hb2.mono H2.out.size))
    clear hb2
    have H4 := Lib.hid (H3.out.alloc H3.out.size (.cells #[.string ga, .string gb] 65))
    go_wp2_with fail
    go_ret
    exact ⟨by rw [HE.out]; rfl, (HBW.out _ H4.out).1⟩

end Go.Proofs.YtjphjblcahadkaaGreat

namespace Go.Proofs.YtjphjblcahadkaaGreat
set_option linter.unusedVariables false
open Go.RowKit
open Pl (firstG firstG_none firstG_some)

/-- A place, -1 where there is none. -/
def idxI : Option Nat → Int
  | some i => (i : Int)
  | none => -1
theorem idx_any (f : List Value → Bool) (L : List (List Value)) : decide (0 ≤ idxI (firstG f L)) = L.any f := by
  unfold firstG
  cases h : L.findIdx? f with
  | none =>
    rw [List.findIdx?_eq_none_iff] at h
    rw [show L.any f = false from List.any_eq_false.2 (fun p hp => by rw [h p hp]; simp)]
    rfl
  | some i =>
    obtain ⟨hi, h1, _⟩ := List.findIdx?_eq_some_iff_getElem.1 h
    rw [show L.any f = true from List.any_eq_true.2 ⟨L[i], List.getElem_mem hi, h1⟩]
    simp [idxI]

set_option maxRecDepth 100000 in
set_option maxHeartbeats 800000 in
theorem indexZone (A : Option Addr) (n c K : Nat) (cap : Array Value) (f : List Value → Bool) (L : List (List Value)) (w : World) (hn : n = L.length) (hn63 : n ≤ 1000000) (hL : Things kZone L)
    (hr : Rd w w.heap.size A L.flatten) (hT : TellsF kZone w K cap f) :
    Calls Tryz.prog 103 #[.slice A n c, .func (.func K) #[] cap] w fun e w' => e = .returned (.int .i64 (idxI (firstG f L))) ∧ Below w.heap.size w w' := by
  have HN := Lib.hid hn
  have HR := Lib.hid hr
  have HT := Lib.hid hT
  have HL := Lib.hid hL
  have hent := hT.1
  have hk : kZone.length = 2 := by decide
  have hu := Tryz.underlying65
  have HSZ : Hid (∀ y, Fits kZone y → (Tryz.prog.info? 65).map (·.size) = some y.length) := Lib.hid (fun y hy => by rw [show (Tryz.prog.info? 65).map (·.size) = some 2 from by kernel_rfl, hy.length]; rfl)
  clear hn hr hT hL
  go_enter Tryz.func103, Tryz.ntmps103
  go_wp2_with fail
  go_loopw [8] (fun i wr => ∃ k : Nat, k ≤ n ∧ i = .int .i64 (k : Int) ∧ Hid (∀ j (hj : j < L.length), j < k → f L[j] = false) ∧ Hid (Below w.heap.size w wr)) (fun i _ => n - (intOf i).toNat)
  case atStart => exact ⟨0, by omega, rfl, Lib.hid (fun j hj h => by omega), Lib.hid (Below.refl _ _)⟩
  case round =>
    obtain ⟨k, hkn, rfl, hno, hbel⟩ := hrel
    by_cases hlt : k < n
    · have hl : k < L.length := by rw [← HN.out]; exact hlt
      obtain ⟨b, off, rfl, hb, hc⟩ := HR.out.thing HL.out (by rw [hk]; decide) hl
      have fx := HL.out _ (List.getElem_mem hl)
      have r1 := rangeAt_below (hc k hl) hb hbel.out
      rw [hk] at r1
      have hlb : b < wr.heap.size := Nat.lt_of_lt_of_le hb hbel.out.size
      have h1 : (0 : Int) ≤ (k : Int) := by omega
      have h2 : (k : Int) < (n : Int) := by omega
      obtain ⟨x, hx⟩ : ∃ x, L[k] = x := ⟨_, rfl⟩
      rw [hx] at fx r1
      have HX := Lib.hid hx
      have HF := Lib.hid fx
      have HR1 := Lib.hid r1
      have HIX := Lib.hid (HSZ.out x fx)
      clear hc r1 hx fx hb
      cases hf : f x with
      | true =>
        have HFX := Lib.hid hf
        have HV : Hid (firstG f L = some k) := Lib.hid (firstG_some hl (fun j hj hjk => hno.out j hj hjk) (by rw [HX.out]; exact hf))
        clear hf
        go_wp2_with (first
          | (refine wpList_load_mid rfl 65 (.tmp 14) rfl b (off + k * 2) rfl x _ HR1.out hu rfl HIX.out ?_)
          | fail)
        refine (HT.out.2 _ hbel.out x HF.out).mono ?_
        rintro e w1 ⟨rfl, hb1⟩
        have B1 := Lib.hid (hbel.out.trans (hb1.mono hbel.out.size))
        clear hb1
        have hf := HFX.out
        go_wp2_with fail
        go_ret
        exact ⟨by rw [HV.out]; rfl, B1.out⟩
      | false =>
        have HFX := Lib.hid hf
        have HNO : Hid (∀ j (hj : j < L.length), j < k + 1 → f L[j] = false) := Lib.hid (fun j hj hjk => by
          by_cases e : j = k
          · subst e; rw [HX.out]; exact hf
          · exact hno.out j hj (by omega))
        clear hf
        go_wp2_with (first
          | (refine wpList_load_mid rfl 65 (.tmp 14) rfl b (off + k * 2) rfl x _ HR1.out hu rfl HIX.out ?_)
          | fail)
        refine (HT.out.2 _ hbel.out x HF.out).mono ?_
        rintro e w1 ⟨rfl, hb1⟩
        have B1 := Lib.hid (hbel.out.trans (hb1.mono hbel.out.size))
        clear hb1
        have hf := HFX.out
        go_wp2_with fail
        go_roundw
        case rel => exact ⟨k + 1, by omega, by go_num, HNO, B1⟩
        case measure => simp [intOf]; omega
    · have HV : Hid (firstG f L = none) := Lib.hid (firstG_none (fun j hj => hno.out j hj (by have := HN.out; omega)))
      go_wp2_with fail
      go_ret
      exact ⟨by rw [HV.out]; rfl, hbel.out⟩

set_option maxRecDepth 100000 in
theorem hasZone (A : Option Addr) (n c K : Nat) (cap : Array Value) (f : List Value → Bool) (L : List (List Value)) (w : World) (hn : n = L.length) (hn63 : n ≤ 1000000) (hL : Things kZone L)
    (hr : Rd w w.heap.size A L.flatten) (hT : TellsF kZone w K cap f) :
    Calls Tryz.prog 85 #[.slice A n c, .func (.func K) #[] cap] w fun e w' => e = .returned (.bool (L.any f)) ∧ Below w.heap.size w w' := by
  have H := Lib.hid (indexZone A n c K cap f L w hn hn63 hL hr hT)
  have HA := Lib.hid (idx_any f L)
  clear hr hT hL hn
  go_enter Tryz.func85, Tryz.ntmps85
  go_wp2_with fail
  refine H.out.mono ?_
  rintro e w1 ⟨rfl, hb1⟩
  have B1 := Lib.hid hb1
  clear hb1
  obtain ⟨r, hr⟩ : ∃ r, idxI (firstG f L) = r := ⟨_, rfl⟩
  rw [hr]
  have HR := Lib.hid hr
  clear hr
  go_wp2_with fail
  go_ret
  exact ⟨by rw [← HA.out, HR.out]; rfl, B1.out⟩

end Go.Proofs.YtjphjblcahadkaaGreat
