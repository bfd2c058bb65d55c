/-
 CONTRACTS of the code's tables of bins and zones, of Find, findZone, Site. (By wip/tools/port15c.py.)
-/
import Derived.Test.YtnkhnbpopdmkhaaGreatKP
import Derived.Test.YtnkhnbpopdmkhaaGreatGT
import Derived.Test.YtnkhnbpopdmkhaaGreatOPl
import Derived.Test.YtnkhnbpopdmkhaaGreatHHouse
import Derived.Deep.CutRange
import Derived.BigQuiet
namespace Go.Proofs.YtnkhnbpopdmkhaaGreat
set_option linter.unusedVariables false
open Go.RowKit
open Pl (firstG firstG_none firstG_some findG overG putG It)

attribute [local go_sem] store_func
set_option maxRecDepth 100000 in
theorem cordBin (x y : List Value) (w : World) (hx : Fits kBin x) (hy : Fits kBin y) : Calls Tryz.prog 86 #[.agg x.toArray, .agg y.toArray] w fun e w' => e = .returned (.int .i64 (ordBin x y)) ∧ Below w.heap.size w w' := by
 obtain ⟨r, hxr⟩ := code_Bin hx
 obtain ⟨q, hyr⟩ := code_Bin hy
 have HB : Hid (Below w.heap.size w ((w.alloc (.cells x.toArray 77)).alloc (.cells y.toArray 77))) := Lib.hid (((Below.refl _ _).alloc (Nat.le_refl _) _).alloc (by simp) _)
 have c0 : ((w.alloc (.cells x.toArray 77)).alloc (.cells y.toArray 77)).cell? ⟨w.heap.size, 0, none⟩ = some (.string (codeOf x)) := by
  rw [cell_of_row _ w.heap.size 0 x.toArray 77 (0, 0) ((Below.heap_alloc _ _ _ (by simp)).trans (heap_alloc_new _ _))]
  rw [List.getElem?_toArray]
  rw [hxr]; rfl
 have c1 : ((w.alloc (.cells x.toArray 77)).alloc (.cells y.toArray 77)).cell? ⟨w.heap.size + 1, 0, none⟩ = some (.string (codeOf y)) := by
  have hh := heap_alloc_new (w.alloc (.cells x.toArray 77)) (.cells y.toArray 77)
  rw [cell_of_row _ (w.heap.size + 1) 0 y.toArray 77 (0, 0) (by simpa using hh)]
  rw [List.getElem?_toArray]
  rw [hyr]; rfl
 obtain ⟨s, hs⟩ : ∃ s, codeOf x = s := ⟨_, rfl⟩
 obtain ⟨t, ht⟩ : ∃ s, codeOf y = s := ⟨_, rfl⟩
 have HV : Hid (ordBin x y = Pl.cmp s t) := Lib.hid (by unfold ordBin; rw [hs, ht])
 rw [hs] at c0
 rw [ht] at c1
 clear hs ht hxr hyr hx hy
 go_enter Tryz.func86, Tryz.ntmps86
 go_wp2_with fail
 refine (compare_any s t _).mono ?_
 rintro e w' ⟨rfl, rfl⟩
 go_wp2_with fail
 go_ret
 exact ⟨by rw [HV.out]; rfl, HB.out⟩

theorem tellsBin (w : World) : TellsO kBin w 86 #[] ordBin := ⟨fun args W => by kernel_rfl, fun W _ a b ha hb => cordBin a b W ha hb⟩

/-- The table of items. -/
abbrev tvBin : Value := .func (.func 86) #[] #[]
attribute [local go_sem] store_func
theorem tabBin_any (w : World) : Calls Tryz.prog 79 #[] w fun e w' => e = .returned (.agg #[tvBin]) ∧ Below w.heap.size w w' := by
 go_enter Tryz.func79, Tryz.ntmps79
 go_wp2
 refine bodyPost_ret (v := .agg #[tvBin]) ?_ rfl ⟨rfl, ?_⟩
 · simp [results, Tryz.results79, go_sem]
 · exact (Below.refl _ _).alloc (Nat.le_refl _) _

set_option maxRecDepth 100000 in
set_option maxHeartbeats 1600000 in
theorem cfindBin_any (h : Hs) (L : List (List Value)) (s : ByteArray) (w : World) (hn : h.n 3 = L.length) (hn6 : h.n 3 ≤ 1000000) (hL : Things kBin L) (hr : Rd w w.heap.size (h.A 3) L.flatten) :
 Calls Tryz.prog 67 #[h.val, .string s] w fun e w' => e = .returned (.tuple #[.agg (gotBin L s).toArray, .bool (atBin L s).isSome]) ∧ Below w.heap.size w w' := by
 obtain ⟨W0, hW0⟩ : ∃ W0, W0 = (w.alloc (.cells #[.slice (h.A 0) (h.n 0) (h.c 0), .slice (h.A 1) (h.n 1) (h.c 1), .slice (h.A 2) (h.n 2) (h.c 2), .slice (h.A 3) (h.n 3) (h.c 3), .slice (h.A 4) (h.n 4) (h.c 4), .slice (h.A 5) (h.n 5) (h.c 5), .slice (h.A 6) (h.n 6) (h.c 6), .slice (h.A 7) (h.n 7) (h.c 7), .slice (h.A 8) (h.n 8) (h.c 8), .slice (h.A 9) (h.n 9) (h.c 9), .slice (h.A 10) (h.n 10) (h.c 10), .slice (h.A 11) (h.n 11) (h.c 11), .slice (h.A 12) (h.n 12) (h.c 12), .slice (h.A 13) (h.n 13) (h.c 13), .int .i64 h.z] 37)).alloc (.cells #[.string ⟨#[]⟩, .string ⟨#[]⟩, .int .i64 0, .int .i64 0, .int .i64 0, .int .i64 0, .int .i64 0, .bool false] 77) := ⟨_, rfl⟩
 have hb0 : Below w.heap.size w W0 := by rw [hW0]; exact ((Below.refl _ _).alloc (Nat.le_refl _) _).alloc (by simp) _
 have hs0 : W0.heap.size = w.heap.size + 2 := by rw [hW0]; simp
 have HBX : Hid (∀ W, Below W0.heap.size W0 W → W.cell? ⟨w.heap.size, 3, none⟩ = some (.slice (h.A 3) (h.n 3) (h.c 3))) := Lib.hid (fun W hW => (hW.cell (p := ⟨w.heap.size, 3, none⟩) (by simp; omega)).trans (by rw [hW0]; simp [go_sem]))
 have HRX : Hid (∀ W, Below W0.heap.size W0 W → W.heap[w.heap.size + 1]? = some (.cells zeroBin.toArray 77 (0, 0))) := Lib.hid (fun W hW => (hW.block _ (by omega)).trans (by
  rw [hW0]
  have := heap_alloc_new (w.alloc (.cells #[.slice (h.A 0) (h.n 0) (h.c 0), .slice (h.A 1) (h.n 1) (h.c 1), .slice (h.A 2) (h.n 2) (h.c 2), .slice (h.A 3) (h.n 3) (h.c 3), .slice (h.A 4) (h.n 4) (h.c 4), .slice (h.A 5) (h.n 5) (h.c 5), .slice (h.A 6) (h.n 6) (h.c 6), .slice (h.A 7) (h.n 7) (h.c 7), .slice (h.A 8) (h.n 8) (h.c 8), .slice (h.A 9) (h.n 9) (h.c 9), .slice (h.A 10) (h.n 10) (h.c 10), .slice (h.A 11) (h.n 11) (h.c 11), .slice (h.A 12) (h.n 12) (h.c 12), .slice (h.A 13) (h.n 13) (h.c 13), .int .i64 h.z] 37)) (.cells zeroBin.toArray 77)
  simpa [zeroBin] using this))
 have HFI : Hid (∀ W, Below W0.heap.size W0 W → Calls Tryz.prog 80 #[.agg #[tvBin], .slice (h.A 3) (h.n 3) (h.c 3), .agg #[.string s, .string ⟨#[]⟩, .int .i64 0, .int .i64 0, .int .i64 0, .int .i64 0, .int .i64 0, .bool false]] W fun e w' => e = .returned (firstV (atBin L s)) ∧ Below W.heap.size W w') := Lib.hid (fun W hW =>
  findBin (h.A 3) (h.n 3) (h.c 3) 86 #[] ordBin (keyBin s) L W hn hn6 hL (keyBin_fits s) ((hr.below (hb0.trans (hW.mono (by omega)))).mono (hb0.trans (hW.mono (by omega))).size) (tellsBin W))
 have HN := Lib.hid hn
 have HL := Lib.hid hL
 have HR := Lib.hid hr
 have HB0 := Lib.hid hb0
 have HS0 := Lib.hid hs0
 have H : Hid (Below W0.heap.size W0 W0.drew) := Lib.hid (Below.refl _ _).drew
 have hu := Tryz.underlying77
 have HSZ : Hid (∀ y, Fits kBin y → (Tryz.prog.info? 77).map (·.size) = some y.toArray.size) := Lib.hid (fun y hy => by rw [show (Tryz.prog.info? 77).map (·.size) = some 8 from by kernel_rfl, List.size_toArray, hy.length]; rfl)
 clear hn hL hr hb0 hs0
 obtain ⟨o, ho⟩ : ∃ o, atBin L s = o := ⟨_, rfl⟩
 rw [ho] at HFI ⊢
 have HO := Lib.hid ho
 clear ho
 cases o with
 | none =>
  rw [firstV_none] at HFI
  unfold Hs.val
  go_enter Tryz.func67, Tryz.ntmps67
  go_wp2_with fail
  rw [← hW0]
  clear hW0
  go_region_held3 (fun w' => w'.cell? ⟨w.heap.size, 3, none⟩ = some (.slice (h.A 3) (h.n 3) (h.c 3)))
   (first | exact HBX.out _ H.out)
   (first
    | (go_at_call 79; refine (tabBin_any _).mono ?_; rintro e w' ⟨rfl, hb'⟩; have H := Lib.hid (H.out.trans (hb'.mono H.out.size)); clear hb')
    | (go_at_call 80; refine (HFI.out _ H.out).mono ?_; rintro e w' ⟨rfl, hb'⟩; have H := Lib.hid (H.out.trans (hb'.mono H.out.size)); clear hb'))
  have HRW := Lib.hid (HRX.out _ H.out)
  go_wp2_with (first
   | (refine wpList_store_row rfl 77 (.tmp 4) (.tmp 19) rfl (w.heap.size + 1) zeroBin.toArray rfl rfl _ _ HRW.out (HSZ.out _ zeroBin_fits) rfl (by simp [zeroBin, Value.oneCell']) ?_)
   | fail)
  have HBE : Hid (Below w.heap.size w (w'.setRow (w.heap.size + 1) zeroBin.toArray)) := Lib.hid (by
   have hb := HB0.out.trans (H.out.mono HB0.out.size)
   exact ⟨hb.os, hb.tape, hb.output, by simpa using hb.size, fun k hk => (setRow_other _ _ k _ (by omega)).trans (hb.block k hk)⟩)
  have HG : Hid (gotBin L s = zeroBin) := Lib.hid (by unfold gotBin; rw [HO.out])
  exact bodyPost_ret (results_row_tmp rfl _ _ (w.heap.size + 1) _ _ _ _ rfl (setRow_heap _ _ _ _ _ _ HRW.out) hu rfl (HSZ.out _ zeroBin_fits)) rfl ⟨by rw [HG.out]; rfl, HBE.out⟩
 | some i =>
  rw [firstV_some] at HFI
  have hl : i < L.length := Pl.firstG_lt HO.out
  have hin : i < h.n 3 := by rw [HN.out]; exact hl
  obtain ⟨b, off, hA, hb, hc⟩ := HR.out.thing HL.out (by decide) hl
  have HG : Hid (gotBin L s = L[i]) := Lib.hid (by unfold gotBin; rw [HO.out]; simp only []; rw [List.getD_eq_getElem?_getD, List.getElem?_eq_getElem hl]; rfl)
  have fx := HL.out _ (List.getElem_mem hl)
  have r1 := hc i hl
  rw [show kBin.length = 8 from rfl] at r1
  obtain ⟨x, hx⟩ : ∃ x, L[i] = x := ⟨_, rfl⟩
  rw [hx] at fx r1 HG
  have HF := Lib.hid fx
  have HR1 : Hid (∀ W, Below W0.heap.size W0 W → W.rangeAt b (off + i * 8) x) := Lib.hid (fun W hW => rangeAt_below r1 hb (HB0.out.trans (hW.mono HB0.out.size)))
  have hlb : b < w.heap.size := hb
  have HIX : Hid ((Tryz.prog.info? 77).map (·.size) = some x.length) := Lib.hid (by have := HSZ.out x fx; rwa [List.size_toArray] at this)
  have HOZ : Hid (zeroBin.toArray.size = x.toArray.size) := Lib.hid (by rw [List.size_toArray, List.size_toArray, fx.length]; rfl)
  have HOC : Hid (x.toArray.all (·.oneCell') = true) := Lib.hid (all_oneCell_toArray (fits_one fx))
  have h1 : (0 : Int) ≤ (i : Int) := by omega
  have h2 : (i : Int) < (h.n 3 : Int) := by omega
  rw [hA] at HBX HFI hW0
  unfold Hs.val
  rw [hA]
  clear hc r1 hx fx hb hA HR hl
  go_enter Tryz.func67, Tryz.ntmps67
  go_wp2_with fail
  rw [← hW0]
  clear hW0
  go_region_held3 (fun w' => w'.cell? ⟨w.heap.size, 3, none⟩ = some (.slice (some ⟨b, off, none⟩) (h.n 3) (h.c 3)))
   (first | exact HBX.out _ H.out)
   (first
    | (go_at_call 79; refine (tabBin_any _).mono ?_; rintro e w' ⟨rfl, hb'⟩; have H := Lib.hid (H.out.trans (hb'.mono H.out.size)); clear hb')
    | (go_at_call 80; refine (HFI.out _ H.out).mono ?_; rintro e w' ⟨rfl, hb'⟩; have H := Lib.hid (H.out.trans (hb'.mono H.out.size)); clear hb'))
  have HRW := Lib.hid (HRX.out _ H.out)
  have HRM := Lib.hid (HR1.out _ H.out)
  have c0 := HBX.out _ H.out
  go_wp2_with (first
   | (refine wpList_load_mid rfl 77 (.tmp 23) rfl b (off + i * 8) rfl x _ HRM.out hu rfl HIX.out ?_)
   | (refine wpList_store_row rfl 77 (.tmp 4) (.tmp 24) rfl (w.heap.size + 1) x.toArray rfl rfl _ _ HRW.out (HSZ.out _ HF.out) HOZ.out HOC.out ?_)
   | fail)
  have HBE : Hid (Below w.heap.size w (w'.setRow (w.heap.size + 1) x.toArray)) := Lib.hid (by
   have hb := HB0.out.trans (H.out.mono HB0.out.size)
   exact ⟨hb.os, hb.tape, hb.output, by simpa using hb.size, fun k hk => (setRow_other _ _ k _ (by omega)).trans (hb.block k hk)⟩)
  exact bodyPost_ret (results_row_tmp rfl _ _ (w.heap.size + 1) _ _ _ _ rfl (setRow_heap _ _ _ _ _ _ HRW.out) hu rfl (HSZ.out _ HF.out)) rfl ⟨by rw [HG.out]; rfl, HBE.out⟩
theorem fcBin {h : Hs} {L : Nat → List (List Value)} {w : World} (hh : HT h L w) (s : ByteArray) : Calls Tryz.prog 67 #[.agg h.cells, .string s] w fun e w' => e = .returned (.tuple #[.agg (gotBin (L 3) s).toArray, .bool (atBin (L 3) s).isSome]) ∧ Below w.heap.size w w' :=
 cfindBin_any h (L 3) s w (hh 3 (by decide)).1 (hh 3 (by decide)).2.1 (hh 3 (by decide)).2.2.1 (hh 3 (by decide)).2.2.2
set_option maxRecDepth 100000 in
theorem cordZone (x y : List Value) (w : World) (hx : Fits kZone x) (hy : Fits kZone y) : Calls Tryz.prog 96 #[.agg x.toArray, .agg y.toArray] w fun e w' => e = .returned (.int .i64 (ordZone x y)) ∧ Below w.heap.size w w' := by
 obtain ⟨r, hxr⟩ := code_Zone hx
 obtain ⟨q, hyr⟩ := code_Zone hy
 have HB : Hid (Below w.heap.size w ((w.alloc (.cells x.toArray 74)).alloc (.cells y.toArray 74))) := Lib.hid (((Below.refl _ _).alloc (Nat.le_refl _) _).alloc (by simp) _)
 have c0 : ((w.alloc (.cells x.toArray 74)).alloc (.cells y.toArray 74)).cell? ⟨w.heap.size, 0, none⟩ = some (.string (codeOf x)) := by
  rw [cell_of_row _ w.heap.size 0 x.toArray 74 (0, 0) ((Below.heap_alloc _ _ _ (by simp)).trans (heap_alloc_new _ _))]
  rw [List.getElem?_toArray]
  rw [hxr]; rfl
 have c1 : ((w.alloc (.cells x.toArray 74)).alloc (.cells y.toArray 74)).cell? ⟨w.heap.size + 1, 0, none⟩ = some (.string (codeOf y)) := by
  have hh := heap_alloc_new (w.alloc (.cells x.toArray 74)) (.cells y.toArray 74)
  rw [cell_of_row _ (w.heap.size + 1) 0 y.toArray 74 (0, 0) (by simpa using hh)]
  rw [List.getElem?_toArray]
  rw [hyr]; rfl
 obtain ⟨s, hs⟩ : ∃ s, codeOf x = s := ⟨_, rfl⟩
 obtain ⟨t, ht⟩ : ∃ s, codeOf y = s := ⟨_, rfl⟩
 have HV : Hid (ordZone x y = Pl.cmp s t) := Lib.hid (by unfold ordZone; rw [hs, ht])
 rw [hs] at c0
 rw [ht] at c1
 clear hs ht hxr hyr hx hy
 go_enter Tryz.func96, Tryz.ntmps96
 go_wp2_with fail
 refine (compare_any s t _).mono ?_
 rintro e w' ⟨rfl, rfl⟩
 go_wp2_with fail
 go_ret
 exact ⟨by rw [HV.out]; rfl, HB.out⟩

theorem tellsZone (w : World) : TellsO kZone w 96 #[] ordZone := ⟨fun args W => by kernel_rfl, fun W _ a b ha hb => cordZone a b W ha hb⟩

/-- The table of items. -/
abbrev tvZone : Value := .func (.func 96) #[] #[]
attribute [local go_sem] store_func
theorem tabZone_any (w : World) : Calls Tryz.prog 89 #[] w fun e w' => e = .returned (.agg #[tvZone]) ∧ Below w.heap.size w w' := by
 go_enter Tryz.func89, Tryz.ntmps89
 go_wp2
 refine bodyPost_ret (v := .agg #[tvZone]) ?_ rfl ⟨rfl, ?_⟩
 · simp [results, Tryz.results89, go_sem]
 · exact (Below.refl _ _).alloc (Nat.le_refl _) _

set_option maxRecDepth 100000 in
set_option maxHeartbeats 1600000 in
theorem cfindZone_any (h : Hs) (L : List (List Value)) (s : ByteArray) (w : World) (hn : h.n 2 = L.length) (hn6 : h.n 2 ≤ 1000000) (hL : Things kZone L) (hr : Rd w w.heap.size (h.A 2) L.flatten) :
 Calls Tryz.prog 81 #[h.val, .string s] w fun e w' => e = .returned (.tuple #[.agg (gotZone L s).toArray, .bool (atZone L s).isSome]) ∧ Below w.heap.size w w' := by
 obtain ⟨W0, hW0⟩ : ∃ W0, W0 = (w.alloc (.cells #[.slice (h.A 0) (h.n 0) (h.c 0), .slice (h.A 1) (h.n 1) (h.c 1), .slice (h.A 2) (h.n 2) (h.c 2), .slice (h.A 3) (h.n 3) (h.c 3), .slice (h.A 4) (h.n 4) (h.c 4), .slice (h.A 5) (h.n 5) (h.c 5), .slice (h.A 6) (h.n 6) (h.c 6), .slice (h.A 7) (h.n 7) (h.c 7), .slice (h.A 8) (h.n 8) (h.c 8), .slice (h.A 9) (h.n 9) (h.c 9), .slice (h.A 10) (h.n 10) (h.c 10), .slice (h.A 11) (h.n 11) (h.c 11), .slice (h.A 12) (h.n 12) (h.c 12), .slice (h.A 13) (h.n 13) (h.c 13), .int .i64 h.z] 37)).alloc (.cells #[.string ⟨#[]⟩, .string ⟨#[]⟩] 74) := ⟨_, rfl⟩
 have hb0 : Below w.heap.size w W0 := by rw [hW0]; exact ((Below.refl _ _).alloc (Nat.le_refl _) _).alloc (by simp) _
 have hs0 : W0.heap.size = w.heap.size + 2 := by rw [hW0]; simp
 have HBX : Hid (∀ W, Below W0.heap.size W0 W → W.cell? ⟨w.heap.size, 2, none⟩ = some (.slice (h.A 2) (h.n 2) (h.c 2))) := Lib.hid (fun W hW => (hW.cell (p := ⟨w.heap.size, 2, none⟩) (by simp; omega)).trans (by rw [hW0]; simp [go_sem]))
 have HRX : Hid (∀ W, Below W0.heap.size W0 W → W.heap[w.heap.size + 1]? = some (.cells zeroZone.toArray 74 (0, 0))) := Lib.hid (fun W hW => (hW.block _ (by omega)).trans (by
  rw [hW0]
  have := heap_alloc_new (w.alloc (.cells #[.slice (h.A 0) (h.n 0) (h.c 0), .slice (h.A 1) (h.n 1) (h.c 1), .slice (h.A 2) (h.n 2) (h.c 2), .slice (h.A 3) (h.n 3) (h.c 3), .slice (h.A 4) (h.n 4) (h.c 4), .slice (h.A 5) (h.n 5) (h.c 5), .slice (h.A 6) (h.n 6) (h.c 6), .slice (h.A 7) (h.n 7) (h.c 7), .slice (h.A 8) (h.n 8) (h.c 8), .slice (h.A 9) (h.n 9) (h.c 9), .slice (h.A 10) (h.n 10) (h.c 10), .slice (h.A 11) (h.n 11) (h.c 11), .slice (h.A 12) (h.n 12) (h.c 12), .slice (h.A 13) (h.n 13) (h.c 13), .int .i64 h.z] 37)) (.cells zeroZone.toArray 74)
  simpa [zeroZone] using this))
 have HFI : Hid (∀ W, Below W0.heap.size W0 W → Calls Tryz.prog 90 #[.agg #[tvZone], .slice (h.A 2) (h.n 2) (h.c 2), .agg #[.string s, .string ⟨#[]⟩]] W fun e w' => e = .returned (firstV (atZone L s)) ∧ Below W.heap.size W w') := Lib.hid (fun W hW =>
  findZone (h.A 2) (h.n 2) (h.c 2) 96 #[] ordZone (keyZone s) L W hn hn6 hL (keyZone_fits s) ((hr.below (hb0.trans (hW.mono (by omega)))).mono (hb0.trans (hW.mono (by omega))).size) (tellsZone W))
 have HN := Lib.hid hn
 have HL := Lib.hid hL
 have HR := Lib.hid hr
 have HB0 := Lib.hid hb0
 have HS0 := Lib.hid hs0
 have H : Hid (Below W0.heap.size W0 W0.drew) := Lib.hid (Below.refl _ _).drew
 have hu := Tryz.underlying74
 have HSZ : Hid (∀ y, Fits kZone y → (Tryz.prog.info? 74).map (·.size) = some y.toArray.size) := Lib.hid (fun y hy => by rw [show (Tryz.prog.info? 74).map (·.size) = some 2 from by kernel_rfl, List.size_toArray, hy.length]; rfl)
 clear hn hL hr hb0 hs0
 obtain ⟨o, ho⟩ : ∃ o, atZone L s = o := ⟨_, rfl⟩
 rw [ho] at HFI ⊢
 have HO := Lib.hid ho
 clear ho
 cases o with
 | none =>
  rw [firstV_none] at HFI
  unfold Hs.val
  go_enter Tryz.func81, Tryz.ntmps81
  go_wp2_with fail
  rw [← hW0]
  clear hW0
  go_region_held3 (fun w' => w'.cell? ⟨w.heap.size, 2, none⟩ = some (.slice (h.A 2) (h.n 2) (h.c 2)))
   (first | exact HBX.out _ H.out)
   (first
    | (go_at_call 89; refine (tabZone_any _).mono ?_; rintro e w' ⟨rfl, hb'⟩; have H := Lib.hid (H.out.trans (hb'.mono H.out.size)); clear hb')
    | (go_at_call 90; refine (HFI.out _ H.out).mono ?_; rintro e w' ⟨rfl, hb'⟩; have H := Lib.hid (H.out.trans (hb'.mono H.out.size)); clear hb'))
  have HRW := Lib.hid (HRX.out _ H.out)
  go_wp2_with (first
   | (refine wpList_store_row rfl 74 (.tmp 4) (.tmp 19) rfl (w.heap.size + 1) zeroZone.toArray rfl rfl _ _ HRW.out (HSZ.out _ zeroZone_fits) rfl (by simp [zeroZone, Value.oneCell']) ?_)
   | fail)
  have HBE : Hid (Below w.heap.size w (w'.setRow (w.heap.size + 1) zeroZone.toArray)) := Lib.hid (by
   have hb := HB0.out.trans (H.out.mono HB0.out.size)
   exact ⟨hb.os, hb.tape, hb.output, by simpa using hb.size, fun k hk => (setRow_other _ _ k _ (by omega)).trans (hb.block k hk)⟩)
  have HG : Hid (gotZone L s = zeroZone) := Lib.hid (by unfold gotZone; rw [HO.out])
  exact bodyPost_ret (results_row_tmp rfl _ _ (w.heap.size + 1) _ _ _ _ rfl (setRow_heap _ _ _ _ _ _ HRW.out) hu rfl (HSZ.out _ zeroZone_fits)) rfl ⟨by rw [HG.out]; rfl, HBE.out⟩
 | some i =>
  rw [firstV_some] at HFI
  have hl : i < L.length := Pl.firstG_lt HO.out
  have hin : i < h.n 2 := by rw [HN.out]; exact hl
  obtain ⟨b, off, hA, hb, hc⟩ := HR.out.thing HL.out (by decide) hl
  have HG : Hid (gotZone L s = L[i]) := Lib.hid (by unfold gotZone; rw [HO.out]; simp only []; rw [List.getD_eq_getElem?_getD, List.getElem?_eq_getElem hl]; rfl)
  have fx := HL.out _ (List.getElem_mem hl)
  have r1 := hc i hl
  rw [show kZone.length = 2 from rfl] at r1
  obtain ⟨x, hx⟩ : ∃ x, L[i] = x := ⟨_, rfl⟩
  rw [hx] at fx r1 HG
  have HF := Lib.hid fx
  have HR1 : Hid (∀ W, Below W0.heap.size W0 W → W.rangeAt b (off + i * 2) x) := Lib.hid (fun W hW => rangeAt_below r1 hb (HB0.out.trans (hW.mono HB0.out.size)))
  have hlb : b < w.heap.size := hb
  have HIX : Hid ((Tryz.prog.info? 74).map (·.size) = some x.length) := Lib.hid (by have := HSZ.out x fx; rwa [List.size_toArray] at this)
  have HOZ : Hid (zeroZone.toArray.size = x.toArray.size) := Lib.hid (by rw [List.size_toArray, List.size_toArray, fx.length]; rfl)
  have HOC : Hid (x.toArray.all (·.oneCell') = true) := Lib.hid (all_oneCell_toArray (fits_one fx))
  have h1 : (0 : Int) ≤ (i : Int) := by omega
  have h2 : (i : Int) < (h.n 2 : Int) := by omega
  rw [hA] at HBX HFI hW0
  unfold Hs.val
  rw [hA]
  clear hc r1 hx fx hb hA HR hl
  go_enter Tryz.func81, Tryz.ntmps81
  go_wp2_with fail
  rw [← hW0]
  clear hW0
  go_region_held3 (fun w' => w'.cell? ⟨w.heap.size, 2, none⟩ = some (.slice (some ⟨b, off, none⟩) (h.n 2) (h.c 2)))
   (first | exact HBX.out _ H.out)
   (first
    | (go_at_call 89; refine (tabZone_any _).mono ?_; rintro e w' ⟨rfl, hb'⟩; have H := Lib.hid (H.out.trans (hb'.mono H.out.size)); clear hb')
    | (go_at_call 90; refine (HFI.out _ H.out).mono ?_; rintro e w' ⟨rfl, hb'⟩; have H := Lib.hid (H.out.trans (hb'.mono H.out.size)); clear hb'))
  have HRW := Lib.hid (HRX.out _ H.out)
  have HRM := Lib.hid (HR1.out _ H.out)
  have c0 := HBX.out _ H.out
  go_wp2_with (first
   | (refine wpList_load_mid rfl 74 (.tmp 23) rfl b (off + i * 2) rfl x _ HRM.out hu rfl HIX.out ?_)
   | (refine wpList_store_row rfl 74 (.tmp 4) (.tmp 24) rfl (w.heap.size + 1) x.toArray rfl rfl _ _ HRW.out (HSZ.out _ HF.out) HOZ.out HOC.out ?_)
   | fail)
  have HBE : Hid (Below w.heap.size w (w'.setRow (w.heap.size + 1) x.toArray)) := Lib.hid (by
   have hb := HB0.out.trans (H.out.mono HB0.out.size)
   exact ⟨hb.os, hb.tape, hb.output, by simpa using hb.size, fun k hk => (setRow_other _ _ k _ (by omega)).trans (hb.block k hk)⟩)
  exact bodyPost_ret (results_row_tmp rfl _ _ (w.heap.size + 1) _ _ _ _ rfl (setRow_heap _ _ _ _ _ _ HRW.out) hu rfl (HSZ.out _ HF.out)) rfl ⟨by rw [HG.out]; rfl, HBE.out⟩
theorem fcZone {h : Hs} {L : Nat → List (List Value)} {w : World} (hh : HT h L w) (s : ByteArray) : Calls Tryz.prog 81 #[.agg h.cells, .string s] w fun e w' => e = .returned (.tuple #[.agg (gotZone (L 2) s).toArray, .bool (atZone (L 2) s).isSome]) ∧ Below w.heap.size w w' :=
 cfindZone_any h (L 2) s w (hh 2 (by decide)).1 (hh 2 (by decide)).2.1 (hh 2 (by decide)).2.2.1 (hh 2 (by decide)).2.2.2
set_option maxRecDepth 100000 in
set_option maxHeartbeats 1600000 in
theorem csite_any (h : Hs) (L : Nat → List (List Value)) (s : ByteArray) (w : World) (hh : HT h L w) :
 Calls Tryz.prog 68 #[.agg h.cells, .string s] w fun e w' => e = .returned (.string (siteT (L 2) (L 3) s)) ∧ Below w.heap.size w w' := by
 obtain ⟨y, hy, hyb⟩ := bin_eight hh s
 obtain ⟨ga, gb, hg, hgs⟩ := zone_two hh y.zone
 have HFB := Lib.hid (fun W (hW : Below w.heap.size w W) => fcBin (hh.below hW) s)
 have HFZ := Lib.hid (fun W (hW : Below w.heap.size w W) => fcZone (hh.below hW) y.zone)
 obtain ⟨il, hil⟩ : ∃ q, (atBin (L 3) s).isSome = q := ⟨_, rfl⟩
 obtain ⟨iz, hiz⟩ : ∃ q, (atZone (L 2) y.zone).isSome = q := ⟨_, rfl⟩
 obtain ⟨r, hr⟩ : ∃ r, siteT (L 2) (L 3) s = r := ⟨_, rfl⟩
 have HA : Hid (r = if il = true then gb else ⟨#[]⟩) := Lib.hid (by rw [← hr]; unfold siteT; rw [hil, hyb, hgs])
 rw [hy, hil] at HFB
 unfold Bn.cells at HFB
 rw [hg, hiz] at HFZ
 rw [hr]
 clear hr hil hiz hy hyb hg hgs
 obtain ⟨W0, hW0⟩ : ∃ W0, W0 = (w.alloc (.cells h.cells 37)) := ⟨_, rfl⟩
 have hb0 : Below w.heap.size w W0 := by rw [hW0]; exact (Below.refl _ _).alloc (Nat.le_refl _) _
 have hs0 : W0.heap.size = w.heap.size + 1 := by rw [hW0]; simp
 have HH : Hid (∀ W, Below W0.heap.size W0 W → W.heap[w.heap.size]? = some (.cells h.cells 37 (0, 0))) := Lib.hid (fun W hW => (hW.block _ (by omega)).trans (by
  rw [hW0]
  have hq := heap_alloc_new w (.cells h.cells 37)
  exact (by simpa using hq)))
 have HBW : Hid (∀ W, Below W0.heap.size W0 W → Below w.heap.size w W ∧ w.heap.size + 1 ≤ W.heap.size) := Lib.hid (fun W hW => ⟨hb0.trans (hW.mono (by omega)), by have := hW.size; omega⟩)
 have huh := Tryz.underlying37
 have HSH : Hid (∀ a : Hs, (Tryz.prog.info? 37).map (·.size) = some a.cells.size) := Lib.hid (fun a => by kernel_rfl)
 have H0 := Lib.hid (Below.refl W0.heap.size W0)
 clear hb0 hs0 hh
 subst hW0
 go_enter Tryz.func68, Tryz.ntmps68
 go_wp2_with (first
  | (refine wpList_load_row rfl 37 (.tmp 2) rfl w.heap.size rfl _ _ _ _ (HH.out _ H0.out) huh rfl (HSH.out _) ?_)
  | fail)
 refine (HFB.out _ (HBW.out _ H0.out).1).mono ?_
 rintro e w1 ⟨rfl, hb1⟩
 have H1 := Lib.hid (H0.out.trans (hb1.mono H0.out.size))
 clear hb1
 have H2 := Lib.hid (H1.out.alloc H1.out.size (.cells #[.string y.code, .string y.zone, .int .i64 y.kind, .int .i64 y.aisle, .int .i64 y.place, .int .i64 y.vol, .int .i64 y.wei, .bool y.frz] 77))
 cases il with
 | false =>
  have HE : Hid (r = ⟨#[]⟩) := Lib.hid (by rw [HA.out]; rfl)
  go_wp2_with fail
  go_ret
  exact ⟨by rw [HE.out]; rfl, (HBW.out _ H2.out).1⟩
 | true =>
  have HE : Hid (r = gb) := Lib.hid (by rw [HA.out]; rfl)
  go_wp2_with (first
   | (refine wpList_load_row rfl 37 (.tmp 2) rfl w.heap.size rfl _ _ _ _ (HH.out _ H2.out) huh rfl (HSH.out _) ?_)
   | fail)
  refine (HFZ.out _ (HBW.out _ H2.out).1).mono ?_
  rintro e w2 ⟨rfl, hb2⟩
  have H3 := Lib.hid (H2.out.trans (hb2.mono H2.out.size))
  clear hb2
  have H4 := Lib.hid (H3.out.alloc H3.out.size (.cells #[.string ga, .string gb] 74))
  go_wp2_with fail
  go_ret
  exact ⟨by rw [HE.out]; rfl, (HBW.out _ H4.out).1⟩

end Go.Proofs.YtnkhnbpopdmkhaaGreat
