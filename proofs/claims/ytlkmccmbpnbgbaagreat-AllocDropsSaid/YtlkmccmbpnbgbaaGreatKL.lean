/-
 CONTRACTS of the code's tables of bins and zones, of Find, findZone, Site. (By wip/tools/port15c.py.)
 CONTRACTS of the code's order of lots, of find, of Day. (By wip/tools/port15c.py.)
 (By wip/tools/merge.py.)
-/
import Derived.Test.YtlkmccmbpnbgbaaGreatKP
import Derived.Test.YtlkmccmbpnbgbaaGreatGT
import Derived.Test.YtlkmccmbpnbgbaaGreatOPl
import Derived.Test.YtlkmccmbpnbgbaaGreatHHouse
import Derived.Deep.CutRange
import Derived.BigQuiet
import Derived.Deep.RegionHeld3
namespace Go.Proofs.YtlkmccmbpnbgbaaGreat
set_option linter.unusedVariables false
open Go.RowKit
open Pl (firstG firstG_none firstG_some findG overG putG It)

attribute [local go_sem] store_func
set_option maxRecDepth 100000 in
theorem cordBin (x y : List Value) (w : World) (hx : Fits kBin x) (hy : Fits kBin y) : Calls Tryz.prog 176 #[.agg x.toArray, .agg y.toArray] w fun e w' => e = .returned (.int .i64 (ordBin x y)) ∧ Below w.heap.size w w' := by
 obtain ⟨r, hxr⟩ := code_Bin hx
 obtain ⟨q, hyr⟩ := code_Bin hy
 have HB : Hid (Below w.heap.size w ((w.alloc (.cells x.toArray 79)).alloc (.cells y.toArray 79))) := Lib.hid (((Below.refl _ _).alloc (Nat.le_refl _) _).alloc (by simp) _)
 have c0 : ((w.alloc (.cells x.toArray 79)).alloc (.cells y.toArray 79)).cell? ⟨w.heap.size, 0, none⟩ = some (.string (codeOf x)) := by
  rw [cell_of_row _ w.heap.size 0 x.toArray 79 (0, 0) ((Below.heap_alloc _ _ _ (by simp)).trans (heap_alloc_new _ _))]
  rw [List.getElem?_toArray]
  rw [hxr]; rfl
 have c1 : ((w.alloc (.cells x.toArray 79)).alloc (.cells y.toArray 79)).cell? ⟨w.heap.size + 1, 0, none⟩ = some (.string (codeOf y)) := by
  have hh := heap_alloc_new (w.alloc (.cells x.toArray 79)) (.cells y.toArray 79)
  rw [cell_of_row _ (w.heap.size + 1) 0 y.toArray 79 (0, 0) (by simpa using hh)]
  rw [List.getElem?_toArray]
  rw [hyr]; rfl
 obtain ⟨s, hs⟩ : ∃ s, codeOf x = s := ⟨_, rfl⟩
 obtain ⟨t, ht⟩ : ∃ s, codeOf y = s := ⟨_, rfl⟩
 have HV : Hid (ordBin x y = Pl.cmp s t) := Lib.hid (by unfold ordBin; rw [hs, ht])
 rw [hs] at c0
 rw [ht] at c1
 clear hs ht hxr hyr hx hy
 go_enter Tryz.func176, Tryz.ntmps176
 go_wp2_with fail
 refine (compare_any s t _).mono ?_
 rintro e w' ⟨rfl, rfl⟩
 go_wp2_with fail
 go_ret
 exact ⟨by rw [HV.out]; rfl, HB.out⟩

theorem tellsBin (w : World) : TellsO kBin w 176 #[] ordBin := ⟨fun args W => by kernel_rfl, fun W _ a b ha hb => cordBin a b W ha hb⟩

/-- The table of items. -/
abbrev tvBin : Value := .func (.func 176) #[] #[]
attribute [local go_sem] store_func
theorem tabBin_any (w : World) : Calls Tryz.prog 167 #[] w fun e w' => e = .returned (.agg #[tvBin]) ∧ Below w.heap.size w w' := by
 go_enter Tryz.func167, Tryz.ntmps167
 go_wp2
 refine bodyPost_ret (v := .agg #[tvBin]) ?_ rfl ⟨rfl, ?_⟩
 · simp [results, Tryz.results167, go_sem]
 · exact (Below.refl _ _).alloc (Nat.le_refl _) _

set_option maxRecDepth 100000 in
set_option maxHeartbeats 1600000 in
theorem cfindBin_any (h : Hs) (L : List (List Value)) (s : ByteArray) (w : World) (hn : h.n 3 = L.length) (hn6 : h.n 3 ≤ 1000000) (hL : Things kBin L) (hr : Rd w w.heap.size (h.A 3) L.flatten) :
 Calls Tryz.prog 151 #[h.val, .string s] w fun e w' => e = .returned (.tuple #[.agg (gotBin L s).toArray, .bool (atBin L s).isSome]) ∧ Below w.heap.size w w' := by
 obtain ⟨W0, hW0⟩ : ∃ W0, W0 = (w.alloc (.cells #[.slice (h.A 0) (h.n 0) (h.c 0), .slice (h.A 1) (h.n 1) (h.c 1), .slice (h.A 2) (h.n 2) (h.c 2), .slice (h.A 3) (h.n 3) (h.c 3), .slice (h.A 4) (h.n 4) (h.c 4), .slice (h.A 5) (h.n 5) (h.c 5), .slice (h.A 6) (h.n 6) (h.c 6), .slice (h.A 7) (h.n 7) (h.c 7), .slice (h.A 8) (h.n 8) (h.c 8), .slice (h.A 9) (h.n 9) (h.c 9), .slice (h.A 10) (h.n 10) (h.c 10), .slice (h.A 11) (h.n 11) (h.c 11), .slice (h.A 12) (h.n 12) (h.c 12), .slice (h.A 13) (h.n 13) (h.c 13), .int .i64 h.z] 37)).alloc (.cells #[.string ⟨#[]⟩, .string ⟨#[]⟩, .int .i64 0, .int .i64 0, .int .i64 0, .int .i64 0, .int .i64 0, .bool false] 79) := ⟨_, rfl⟩
 have hb0 : Below w.heap.size w W0 := by rw [hW0]; exact ((Below.refl _ _).alloc (Nat.le_refl _) _).alloc (by simp) _
 have hs0 : W0.heap.size = w.heap.size + 2 := by rw [hW0]; simp
 have HBX : Hid (∀ W, Below W0.heap.size W0 W → W.cell? ⟨w.heap.size, 3, none⟩ = some (.slice (h.A 3) (h.n 3) (h.c 3))) := Lib.hid (fun W hW => (hW.cell (p := ⟨w.heap.size, 3, none⟩) (by simp; omega)).trans (by rw [hW0]; simp [go_sem]))
 have HRX : Hid (∀ W, Below W0.heap.size W0 W → W.heap[w.heap.size + 1]? = some (.cells zeroBin.toArray 79 (0, 0))) := Lib.hid (fun W hW => (hW.block _ (by omega)).trans (by
  rw [hW0]
  have := heap_alloc_new (w.alloc (.cells #[.slice (h.A 0) (h.n 0) (h.c 0), .slice (h.A 1) (h.n 1) (h.c 1), .slice (h.A 2) (h.n 2) (h.c 2), .slice (h.A 3) (h.n 3) (h.c 3), .slice (h.A 4) (h.n 4) (h.c 4), .slice (h.A 5) (h.n 5) (h.c 5), .slice (h.A 6) (h.n 6) (h.c 6), .slice (h.A 7) (h.n 7) (h.c 7), .slice (h.A 8) (h.n 8) (h.c 8), .slice (h.A 9) (h.n 9) (h.c 9), .slice (h.A 10) (h.n 10) (h.c 10), .slice (h.A 11) (h.n 11) (h.c 11), .slice (h.A 12) (h.n 12) (h.c 12), .slice (h.A 13) (h.n 13) (h.c 13), .int .i64 h.z] 37)) (.cells zeroBin.toArray 79)
  simpa [zeroBin] using this))
 have HFI : Hid (∀ W, Below W0.heap.size W0 W → Calls Tryz.prog 168 #[.agg #[tvBin], .slice (h.A 3) (h.n 3) (h.c 3), .agg #[.string s, .string ⟨#[]⟩, .int .i64 0, .int .i64 0, .int .i64 0, .int .i64 0, .int .i64 0, .bool false]] W fun e w' => e = .returned (firstV (atBin L s)) ∧ Below W.heap.size W w') := Lib.hid (fun W hW =>
  findBin (h.A 3) (h.n 3) (h.c 3) 176 #[] ordBin (keyBin s) L W hn hn6 hL (keyBin_fits s) ((hr.below (hb0.trans (hW.mono (by omega)))).mono (hb0.trans (hW.mono (by omega))).size) (tellsBin W))
 have HN := Lib.hid hn
 have HL := Lib.hid hL
 have HR := Lib.hid hr
 have HB0 := Lib.hid hb0
 have HS0 := Lib.hid hs0
 have H : Hid (Below W0.heap.size W0 W0.drew) := Lib.hid (Below.refl _ _).drew
 have hu := Tryz.underlying79
 have HSZ : Hid (∀ y, Fits kBin y → (Tryz.prog.info? 79).map (·.size) = some y.toArray.size) := Lib.hid (fun y hy => by rw [show (Tryz.prog.info? 79).map (·.size) = some 8 from by kernel_rfl, List.size_toArray, hy.length]; rfl)
 clear hn hL hr hb0 hs0
 obtain ⟨o, ho⟩ : ∃ o, atBin L s = o := ⟨_, rfl⟩
 rw [ho] at HFI ⊢
 have HO := Lib.hid ho
 clear ho
 cases o with
 | none =>
  rw [firstV_none] at HFI
  unfold Hs.val
  go_enter Tryz.func151, Tryz.ntmps151
  go_wp2_with fail
  rw [← hW0]
  clear hW0
  go_region_held3 (fun w' => w'.cell? ⟨w.heap.size, 3, none⟩ = some (.slice (h.A 3) (h.n 3) (h.c 3)))
   (first | exact HBX.out _ H.out)
   (first
    | (go_at_call 167; refine (tabBin_any _).mono ?_; rintro e w' ⟨rfl, hb'⟩; have H := Lib.hid (H.out.trans (hb'.mono H.out.size)); clear hb')
    | (go_at_call 168; refine (HFI.out _ H.out).mono ?_; rintro e w' ⟨rfl, hb'⟩; have H := Lib.hid (H.out.trans (hb'.mono H.out.size)); clear hb'))
  have HRW := Lib.hid (HRX.out _ H.out)
  go_wp2_with (first
   | (refine wpList_store_row rfl 79 (.tmp 4) (.tmp 19) rfl (w.heap.size + 1) zeroBin.toArray rfl rfl _ _ HRW.out (HSZ.out _ zeroBin_fits) rfl (by simp [zeroBin, Value.oneCell']) ?_)
   | fail)
  have HBE : Hid (Below w.heap.size w (w'.setRow (w.heap.size + 1) zeroBin.toArray)) := Lib.hid (by
   have hb := HB0.out.trans (H.out.mono HB0.out.size)
   exact ⟨hb.os, hb.tape, hb.output, by simpa using hb.size, fun k hk => (setRow_other _ _ k _ (by omega)).trans (hb.block k hk)⟩)
  have HG : Hid (gotBin L s = zeroBin) := Lib.hid (by unfold gotBin; rw [HO.out])
  exact bodyPost_ret (results_row_tmp rfl _ _ (w.heap.size + 1) _ _ _ _ rfl (setRow_heap _ _ _ _ _ _ HRW.out) hu rfl (HSZ.out _ zeroBin_fits)) rfl ⟨by rw [HG.out]; rfl, HBE.out⟩
 | some i =>
  rw [firstV_some] at HFI
  have hl : i < L.length := Pl.firstG_lt HO.out
  have hin : i < h.n 3 := by rw [HN.out]; exact hl
  obtain ⟨b, off, hA, hb, hc⟩ := HR.out.thing HL.out (by decide) hl
  have HG : Hid (gotBin L s = L[i]) := Lib.hid (by unfold gotBin; rw [HO.out]; simp only []; rw [List.getD_eq_getElem?_getD, List.getElem?_eq_getElem hl]; rfl)
  have fx := HL.out _ (List.getElem_mem hl)
  have r1 := hc i hl
  rw [show kBin.length = 8 from rfl] at r1
  obtain ⟨x, hx⟩ : ∃ x, L[i] = x := ⟨_, rfl⟩
  rw [hx] at fx r1 HG
  have HF := Lib.hid fx
  have HR1 : Hid (∀ W, Below W0.heap.size W0 W → W.rangeAt b (off + i * 8) x) := Lib.hid (fun W hW => rangeAt_below r1 hb (HB0.out.trans (hW.mono HB0.out.size)))
  have hlb : b < w.heap.size := hb
  have HIX : Hid ((Tryz.prog.info? 79).map (·.size) = some x.length) := Lib.hid (by have := HSZ.out x fx; rwa [List.size_toArray] at this)
  have HOZ : Hid (zeroBin.toArray.size = x.toArray.size) := Lib.hid (by rw [List.size_toArray, List.size_toArray, fx.length]; rfl)
  have HOC : Hid (x.toArray.all (·.oneCell') = true) := Lib.hid (all_oneCell_toArray (fits_one fx))
  have h1 : (0 : Int) ≤ (i : Int) := by omega
  have h2 : (i : Int) < (h.n 3 : Int) := by omega
  rw [hA] at HBX HFI hW0
  unfold Hs.val
  rw [hA]
  clear hc r1 hx fx hb hA HR hl
  go_enter Tryz.func151, Tryz.ntmps151
  go_wp2_with fail
  rw [← hW0]
  clear hW0
  go_region_held3 (fun w' => w'.cell? ⟨w.heap.size, 3, none⟩ = some (.slice (some ⟨b, off, none⟩) (h.n 3) (h.c 3)))
   (first | exact HBX.out _ H.out)
   (first
    | (go_at_call 167; refine (tabBin_any _).mono ?_; rintro e w' ⟨rfl, hb'⟩; have H := Lib.hid (H.out.trans (hb'.mono H.out.size)); clear hb')
    | (go_at_call 168; refine (HFI.out _ H.out).mono ?_; rintro e w' ⟨rfl, hb'⟩; have H := Lib.hid (H.out.trans (hb'.mono H.out.size)); clear hb'))
  have HRW := Lib.hid (HRX.out _ H.out)
  have HRM := Lib.hid (HR1.out _ H.out)
  have c0 := HBX.out _ H.out
  go_wp2_with (first
   | (refine wpList_load_mid rfl 79 (.tmp 23) rfl b (off + i * 8) rfl x _ HRM.out hu rfl HIX.out ?_)
   | (refine wpList_store_row rfl 79 (.tmp 4) (.tmp 24) rfl (w.heap.size + 1) x.toArray rfl rfl _ _ HRW.out (HSZ.out _ HF.out) HOZ.out HOC.out ?_)
   | fail)
  have HBE : Hid (Below w.heap.size w (w'.setRow (w.heap.size + 1) x.toArray)) := Lib.hid (by
   have hb := HB0.out.trans (H.out.mono HB0.out.size)
   exact ⟨hb.os, hb.tape, hb.output, by simpa using hb.size, fun k hk => (setRow_other _ _ k _ (by omega)).trans (hb.block k hk)⟩)
  exact bodyPost_ret (results_row_tmp rfl _ _ (w.heap.size + 1) _ _ _ _ rfl (setRow_heap _ _ _ _ _ _ HRW.out) hu rfl (HSZ.out _ HF.out)) rfl ⟨by rw [HG.out]; rfl, HBE.out⟩
theorem fcBin {h : Hs} {L : Nat → List (List Value)} {w : World} (hh : HT h L w) (s : ByteArray) : Calls Tryz.prog 151 #[.agg h.cells, .string s] w fun e w' => e = .returned (.tuple #[.agg (gotBin (L 3) s).toArray, .bool (atBin (L 3) s).isSome]) ∧ Below w.heap.size w w' :=
 cfindBin_any h (L 3) s w (hh 3 (by decide)).1 (hh 3 (by decide)).2.1 (hh 3 (by decide)).2.2.1 (hh 3 (by decide)).2.2.2
set_option maxRecDepth 100000 in
theorem cordZone (x y : List Value) (w : World) (hx : Fits kZone x) (hy : Fits kZone y) : Calls Tryz.prog 187 #[.agg x.toArray, .agg y.toArray] w fun e w' => e = .returned (.int .i64 (ordZone x y)) ∧ Below w.heap.size w w' := by
 obtain ⟨r, hxr⟩ := code_Zone hx
 obtain ⟨q, hyr⟩ := code_Zone hy
 have HB : Hid (Below w.heap.size w ((w.alloc (.cells x.toArray 76)).alloc (.cells y.toArray 76))) := Lib.hid (((Below.refl _ _).alloc (Nat.le_refl _) _).alloc (by simp) _)
 have c0 : ((w.alloc (.cells x.toArray 76)).alloc (.cells y.toArray 76)).cell? ⟨w.heap.size, 0, none⟩ = some (.string (codeOf x)) := by
  rw [cell_of_row _ w.heap.size 0 x.toArray 76 (0, 0) ((Below.heap_alloc _ _ _ (by simp)).trans (heap_alloc_new _ _))]
  rw [List.getElem?_toArray]
  rw [hxr]; rfl
 have c1 : ((w.alloc (.cells x.toArray 76)).alloc (.cells y.toArray 76)).cell? ⟨w.heap.size + 1, 0, none⟩ = some (.string (codeOf y)) := by
  have hh := heap_alloc_new (w.alloc (.cells x.toArray 76)) (.cells y.toArray 76)
  rw [cell_of_row _ (w.heap.size + 1) 0 y.toArray 76 (0, 0) (by simpa using hh)]
  rw [List.getElem?_toArray]
  rw [hyr]; rfl
 obtain ⟨s, hs⟩ : ∃ s, codeOf x = s := ⟨_, rfl⟩
 obtain ⟨t, ht⟩ : ∃ s, codeOf y = s := ⟨_, rfl⟩
 have HV : Hid (ordZone x y = Pl.cmp s t) := Lib.hid (by unfold ordZone; rw [hs, ht])
 rw [hs] at c0
 rw [ht] at c1
 clear hs ht hxr hyr hx hy
 go_enter Tryz.func187, Tryz.ntmps187
 go_wp2_with fail
 refine (compare_any s t _).mono ?_
 rintro e w' ⟨rfl, rfl⟩
 go_wp2_with fail
 go_ret
 exact ⟨by rw [HV.out]; rfl, HB.out⟩

theorem tellsZone (w : World) : TellsO kZone w 187 #[] ordZone := ⟨fun args W => by kernel_rfl, fun W _ a b ha hb => cordZone a b W ha hb⟩

/-- The table of items. -/
abbrev tvZone : Value := .func (.func 187) #[] #[]
attribute [local go_sem] store_func
theorem tabZone_any (w : World) : Calls Tryz.prog 179 #[] w fun e w' => e = .returned (.agg #[tvZone]) ∧ Below w.heap.size w w' := by
 go_enter Tryz.func179, Tryz.ntmps179
 go_wp2
 refine bodyPost_ret (v := .agg #[tvZone]) ?_ rfl ⟨rfl, ?_⟩
 · simp [results, Tryz.results179, go_sem]
 · exact (Below.refl _ _).alloc (Nat.le_refl _) _

set_option maxRecDepth 100000 in
set_option maxHeartbeats 1600000 in
theorem cfindZone_any (h : Hs) (L : List (List Value)) (s : ByteArray) (w : World) (hn : h.n 2 = L.length) (hn6 : h.n 2 ≤ 1000000) (hL : Things kZone L) (hr : Rd w w.heap.size (h.A 2) L.flatten) :
 Calls Tryz.prog 169 #[h.val, .string s] w fun e w' => e = .returned (.tuple #[.agg (gotZone L s).toArray, .bool (atZone L s).isSome]) ∧ Below w.heap.size w w' := by
 obtain ⟨W0, hW0⟩ : ∃ W0, W0 = (w.alloc (.cells #[.slice (h.A 0) (h.n 0) (h.c 0), .slice (h.A 1) (h.n 1) (h.c 1), .slice (h.A 2) (h.n 2) (h.c 2), .slice (h.A 3) (h.n 3) (h.c 3), .slice (h.A 4) (h.n 4) (h.c 4), .slice (h.A 5) (h.n 5) (h.c 5), .slice (h.A 6) (h.n 6) (h.c 6), .slice (h.A 7) (h.n 7) (h.c 7), .slice (h.A 8) (h.n 8) (h.c 8), .slice (h.A 9) (h.n 9) (h.c 9), .slice (h.A 10) (h.n 10) (h.c 10), .slice (h.A 11) (h.n 11) (h.c 11), .slice (h.A 12) (h.n 12) (h.c 12), .slice (h.A 13) (h.n 13) (h.c 13), .int .i64 h.z] 37)).alloc (.cells #[.string ⟨#[]⟩, .string ⟨#[]⟩] 76) := ⟨_, rfl⟩
 have hb0 : Below w.heap.size w W0 := by rw [hW0]; exact ((Below.refl _ _).alloc (Nat.le_refl _) _).alloc (by simp) _
 have hs0 : W0.heap.size = w.heap.size + 2 := by rw [hW0]; simp
 have HBX : Hid (∀ W, Below W0.heap.size W0 W → W.cell? ⟨w.heap.size, 2, none⟩ = some (.slice (h.A 2) (h.n 2) (h.c 2))) := Lib.hid (fun W hW => (hW.cell (p := ⟨w.heap.size, 2, none⟩) (by simp; omega)).trans (by rw [hW0]; simp [go_sem]))
 have HRX : Hid (∀ W, Below W0.heap.size W0 W → W.heap[w.heap.size + 1]? = some (.cells zeroZone.toArray 76 (0, 0))) := Lib.hid (fun W hW => (hW.block _ (by omega)).trans (by
  rw [hW0]
  have := heap_alloc_new (w.alloc (.cells #[.slice (h.A 0) (h.n 0) (h.c 0), .slice (h.A 1) (h.n 1) (h.c 1), .slice (h.A 2) (h.n 2) (h.c 2), .slice (h.A 3) (h.n 3) (h.c 3), .slice (h.A 4) (h.n 4) (h.c 4), .slice (h.A 5) (h.n 5) (h.c 5), .slice (h.A 6) (h.n 6) (h.c 6), .slice (h.A 7) (h.n 7) (h.c 7), .slice (h.A 8) (h.n 8) (h.c 8), .slice (h.A 9) (h.n 9) (h.c 9), .slice (h.A 10) (h.n 10) (h.c 10), .slice (h.A 11) (h.n 11) (h.c 11), .slice (h.A 12) (h.n 12) (h.c 12), .slice (h.A 13) (h.n 13) (h.c 13), .int .i64 h.z] 37)) (.cells zeroZone.toArray 76)
  simpa [zeroZone] using this))
 have HFI : Hid (∀ W, Below W0.heap.size W0 W → Calls Tryz.prog 180 #[.agg #[tvZone], .slice (h.A 2) (h.n 2) (h.c 2), .agg #[.string s, .string ⟨#[]⟩]] W fun e w' => e = .returned (firstV (atZone L s)) ∧ Below W.heap.size W w') := Lib.hid (fun W hW =>
  findZone (h.A 2) (h.n 2) (h.c 2) 187 #[] ordZone (keyZone s) L W hn hn6 hL (keyZone_fits s) ((hr.below (hb0.trans (hW.mono (by omega)))).mono (hb0.trans (hW.mono (by omega))).size) (tellsZone W))
 have HN := Lib.hid hn
 have HL := Lib.hid hL
 have HR := Lib.hid hr
 have HB0 := Lib.hid hb0
 have HS0 := Lib.hid hs0
 have H : Hid (Below W0.heap.size W0 W0.drew) := Lib.hid (Below.refl _ _).drew
 have hu := Tryz.underlying76
 have HSZ : Hid (∀ y, Fits kZone y → (Tryz.prog.info? 76).map (·.size) = some y.toArray.size) := Lib.hid (fun y hy => by rw [show (Tryz.prog.info? 76).map (·.size) = some 2 from by kernel_rfl, List.size_toArray, hy.length]; rfl)
 clear hn hL hr hb0 hs0
 obtain ⟨o, ho⟩ : ∃ o, atZone L s = o := ⟨_, rfl⟩
 rw [ho] at HFI ⊢
 have HO := Lib.hid ho
 clear ho
 cases o with
 | none =>
  rw [firstV_none] at HFI
  unfold Hs.val
  go_enter Tryz.func169, Tryz.ntmps169
  go_wp2_with fail
  rw [← hW0]
  clear hW0
  go_region_held3 (fun w' => w'.cell? ⟨w.heap.size, 2, none⟩ = some (.slice (h.A 2) (h.n 2) (h.c 2)))
   (first | exact HBX.out _ H.out)
   (first
    | (go_at_call 179; refine (tabZone_any _).mono ?_; rintro e w' ⟨rfl, hb'⟩; have H := Lib.hid (H.out.trans (hb'.mono H.out.size)); clear hb')
    | (go_at_call 180; refine (HFI.out _ H.out).mono ?_; rintro e w' ⟨rfl, hb'⟩; have H := Lib.hid (H.out.trans (hb'.mono H.out.size)); clear hb'))
  have HRW := Lib.hid (HRX.out _ H.out)
  go_wp2_with (first
   | (refine wpList_store_row rfl 76 (.tmp 4) (.tmp 19) rfl (w.heap.size + 1) zeroZone.toArray rfl rfl _ _ HRW.out (HSZ.out _ zeroZone_fits) rfl (by simp [zeroZone, Value.oneCell']) ?_)
   | fail)
  have HBE : Hid (Below w.heap.size w (w'.setRow (w.heap.size + 1) zeroZone.toArray)) := Lib.hid (by
   have hb := HB0.out.trans (H.out.mono HB0.out.size)
   exact ⟨hb.os, hb.tape, hb.output, by simpa using hb.size, fun k hk => (setRow_other _ _ k _ (by omega)).trans (hb.block k hk)⟩)
  have HG : Hid (gotZone L s = zeroZone) := Lib.hid (by unfold gotZone; rw [HO.out])
  exact bodyPost_ret (results_row_tmp rfl _ _ (w.heap.size + 1) _ _ _ _ rfl (setRow_heap _ _ _ _ _ _ HRW.out) hu rfl (HSZ.out _ zeroZone_fits)) rfl ⟨by rw [HG.out]; rfl, HBE.out⟩
 | some i =>
  rw [firstV_some] at HFI
  have hl : i < L.length := Pl.firstG_lt HO.out
  have hin : i < h.n 2 := by rw [HN.out]; exact hl
  obtain ⟨b, off, hA, hb, hc⟩ := HR.out.thing HL.out (by decide) hl
  have HG : Hid (gotZone L s = L[i]) := Lib.hid (by unfold gotZone; rw [HO.out]; simp only []; rw [List.getD_eq_getElem?_getD, List.getElem?_eq_getElem hl]; rfl)
  have fx := HL.out _ (List.getElem_mem hl)
  have r1 := hc i hl
  rw [show kZone.length = 2 from rfl] at r1
  obtain ⟨x, hx⟩ : ∃ x, L[i] = x := ⟨_, rfl⟩
  rw [hx] at fx r1 HG
  have HF := Lib.hid fx
  have HR1 : Hid (∀ W, Below W0.heap.size W0 W → W.rangeAt b (off + i * 2) x) := Lib.hid (fun W hW => rangeAt_below r1 hb (HB0.out.trans (hW.mono HB0.out.size)))
  have hlb : b < w.heap.size := hb
  have HIX : Hid ((Tryz.prog.info? 76).map (·.size) = some x.length) := Lib.hid (by have := HSZ.out x fx; rwa [List.size_toArray] at this)
  have HOZ : Hid (zeroZone.toArray.size = x.toArray.size) := Lib.hid (by rw [List.size_toArray, List.size_toArray, fx.length]; rfl)
  have HOC : Hid (x.toArray.all (·.oneCell') = true) := Lib.hid (all_oneCell_toArray (fits_one fx))
  have h1 : (0 : Int) ≤ (i : Int) := by omega
  have h2 : (i : Int) < (h.n 2 : Int) := by omega
  rw [hA] at HBX HFI hW0
  unfold Hs.val
  rw [hA]
  clear hc r1 hx fx hb hA HR hl
  go_enter Tryz.func169, Tryz.ntmps169
  go_wp2_with fail
  rw [← hW0]
  clear hW0
  go_region_held3 (fun w' => w'.cell? ⟨w.heap.size, 2, none⟩ = some (.slice (some ⟨b, off, none⟩) (h.n 2) (h.c 2)))
   (first | exact HBX.out _ H.out)
   (first
    | (go_at_call 179; refine (tabZone_any _).mono ?_; rintro e w' ⟨rfl, hb'⟩; have H := Lib.hid (H.out.trans (hb'.mono H.out.size)); clear hb')
    | (go_at_call 180; refine (HFI.out _ H.out).mono ?_; rintro e w' ⟨rfl, hb'⟩; have H := Lib.hid (H.out.trans (hb'.mono H.out.size)); clear hb'))
  have HRW := Lib.hid (HRX.out _ H.out)
  have HRM := Lib.hid (HR1.out _ H.out)
  have c0 := HBX.out _ H.out
  go_wp2_with (first
   | (refine wpList_load_mid rfl 76 (.tmp 23) rfl b (off + i * 2) rfl x _ HRM.out hu rfl HIX.out ?_)
   | (refine wpList_store_row rfl 76 (.tmp 4) (.tmp 24) rfl (w.heap.size + 1) x.toArray rfl rfl _ _ HRW.out (HSZ.out _ HF.out) HOZ.out HOC.out ?_)
   | fail)
  have HBE : Hid (Below w.heap.size w (w'.setRow (w.heap.size + 1) x.toArray)) := Lib.hid (by
   have hb := HB0.out.trans (H.out.mono HB0.out.size)
   exact ⟨hb.os, hb.tape, hb.output, by simpa using hb.size, fun k hk => (setRow_other _ _ k _ (by omega)).trans (hb.block k hk)⟩)
  exact bodyPost_ret (results_row_tmp rfl _ _ (w.heap.size + 1) _ _ _ _ rfl (setRow_heap _ _ _ _ _ _ HRW.out) hu rfl (HSZ.out _ HF.out)) rfl ⟨by rw [HG.out]; rfl, HBE.out⟩
theorem fcZone {h : Hs} {L : Nat → List (List Value)} {w : World} (hh : HT h L w) (s : ByteArray) : Calls Tryz.prog 169 #[.agg h.cells, .string s] w fun e w' => e = .returned (.tuple #[.agg (gotZone (L 2) s).toArray, .bool (atZone (L 2) s).isSome]) ∧ Below w.heap.size w w' :=
 cfindZone_any h (L 2) s w (hh 2 (by decide)).1 (hh 2 (by decide)).2.1 (hh 2 (by decide)).2.2.1 (hh 2 (by decide)).2.2.2
set_option maxRecDepth 100000 in
set_option maxHeartbeats 1600000 in
theorem csite_any (h : Hs) (L : Nat → List (List Value)) (s : ByteArray) (w : World) (hh : HT h L w) :
 Calls Tryz.prog 152 #[.agg h.cells, .string s] w fun e w' => e = .returned (.string (siteT (L 2) (L 3) s)) ∧ Below w.heap.size w w' := by
 obtain ⟨y, hy, hyb⟩ := bin_eight hh s
 obtain ⟨ga, gb, hg, hgs⟩ := zone_two hh y.zone
 have HFB := Lib.hid (fun W (hW : Below w.heap.size w W) => fcBin (hh.below hW) s)
 have HFZ := Lib.hid (fun W (hW : Below w.heap.size w W) => fcZone (hh.below hW) y.zone)
 obtain ⟨il, hil⟩ : ∃ q, (atBin (L 3) s).isSome = q := ⟨_, rfl⟩
 obtain ⟨iz, hiz⟩ : ∃ q, (atZone (L 2) y.zone).isSome = q := ⟨_, rfl⟩
 obtain ⟨r, hr⟩ : ∃ r, siteT (L 2) (L 3) s = r := ⟨_, rfl⟩
 have HA : Hid (r = if il = true then gb else ⟨#[]⟩) := Lib.hid (by rw [← hr]; unfold siteT; rw [hil, hyb, hgs])
 rw [hy, hil] at HFB
 unfold Bn.cells at HFB
 rw [hg, hiz] at HFZ
 rw [hr]
 clear hr hil hiz hy hyb hg hgs
 obtain ⟨W0, hW0⟩ : ∃ W0, W0 = (w.alloc (.cells h.cells 37)) := ⟨_, rfl⟩
 have hb0 : Below w.heap.size w W0 := by rw [hW0]; exact (Below.refl _ _).alloc (Nat.le_refl _) _
 have hs0 : W0.heap.size = w.heap.size + 1 := by rw [hW0]; simp
 have HH : Hid (∀ W, Below W0.heap.size W0 W → W.heap[w.heap.size]? = some (.cells h.cells 37 (0, 0))) := Lib.hid (fun W hW => (hW.block _ (by omega)).trans (by
  rw [hW0]
  have hq := heap_alloc_new w (.cells h.cells 37)
  exact (by simpa using hq)))
 have HBW : Hid (∀ W, Below W0.heap.size W0 W → Below w.heap.size w W ∧ w.heap.size + 1 ≤ W.heap.size) := Lib.hid (fun W hW => ⟨hb0.trans (hW.mono (by omega)), by have := hW.size; omega⟩)
 have huh := Tryz.underlying37
 have HSH : Hid (∀ a : Hs, (Tryz.prog.info? 37).map (·.size) = some a.cells.size) := Lib.hid (fun a => by kernel_rfl)
 have H0 := Lib.hid (Below.refl W0.heap.size W0)
 clear hb0 hs0 hh
 subst hW0
 go_enter Tryz.func152, Tryz.ntmps152
 go_wp2_with (first
  | (refine wpList_load_row rfl 37 (.tmp 2) rfl w.heap.size rfl _ _ _ _ (HH.out _ H0.out) huh rfl (HSH.out _) ?_)
  | fail)
 refine (HFB.out _ (HBW.out _ H0.out).1).mono ?_
 rintro e w1 ⟨rfl, hb1⟩
 have H1 := Lib.hid (H0.out.trans (hb1.mono H0.out.size))
 clear hb1
 have H2 := Lib.hid (H1.out.alloc H1.out.size (.cells #[.string y.code, .string y.zone, .int .i64 y.kind, .int .i64 y.aisle, .int .i64 y.place, .int .i64 y.vol, .int .i64 y.wei, .bool y.frz] 79))
 cases il with
 | false =>
  have HE : Hid (r = ⟨#[]⟩) := Lib.hid (by rw [HA.out]; rfl)
  go_wp2_with fail
  go_ret
  exact ⟨by rw [HE.out]; rfl, (HBW.out _ H2.out).1⟩
 | true =>
  have HE : Hid (r = gb) := Lib.hid (by rw [HA.out]; rfl)
  go_wp2_with (first
   | (refine wpList_load_row rfl 37 (.tmp 2) rfl w.heap.size rfl _ _ _ _ (HH.out _ H2.out) huh rfl (HSH.out _) ?_)
   | fail)
  refine (HFZ.out _ (HBW.out _ H2.out).1).mono ?_
  rintro e w2 ⟨rfl, hb2⟩
  have H3 := Lib.hid (H2.out.trans (hb2.mono H2.out.size))
  clear hb2
  have H4 := Lib.hid (H3.out.alloc H3.out.size (.cells #[.string ga, .string gb] 76))
  go_wp2_with fail
  go_ret
  exact ⟨by rw [HE.out]; rfl, (HBW.out _ H4.out).1⟩

set_option maxRecDepth 100000 in
theorem cordItem (x y : List Value) (w : World) (hx : Fits kItem x) (hy : Fits kItem y) : Calls Tryz.prog 172 #[.agg x.toArray, .agg y.toArray] w fun e w' => e = .returned (.int .i64 (ordItem x y)) ∧ Below w.heap.size w w' := by
 obtain ⟨r, hxr⟩ := code_Item hx
 obtain ⟨q, hyr⟩ := code_Item hy
 have HB : Hid (Below w.heap.size w ((w.alloc (.cells x.toArray 70)).alloc (.cells y.toArray 70))) := Lib.hid (((Below.refl _ _).alloc (Nat.le_refl _) _).alloc (by simp) _)
 have c0 : ((w.alloc (.cells x.toArray 70)).alloc (.cells y.toArray 70)).cell? ⟨w.heap.size, 0, none⟩ = some (.string (codeOf x)) := by
  rw [cell_of_row _ w.heap.size 0 x.toArray 70 (0, 0) ((Below.heap_alloc _ _ _ (by simp)).trans (heap_alloc_new _ _))]
  rw [List.getElem?_toArray]
  rw [hxr]; rfl
 have c1 : ((w.alloc (.cells x.toArray 70)).alloc (.cells y.toArray 70)).cell? ⟨w.heap.size + 1, 0, none⟩ = some (.string (codeOf y)) := by
  have hh := heap_alloc_new (w.alloc (.cells x.toArray 70)) (.cells y.toArray 70)
  rw [cell_of_row _ (w.heap.size + 1) 0 y.toArray 70 (0, 0) (by simpa using hh)]
  rw [List.getElem?_toArray]
  rw [hyr]; rfl
 obtain ⟨s, hs⟩ : ∃ s, codeOf x = s := ⟨_, rfl⟩
 obtain ⟨t, ht⟩ : ∃ s, codeOf y = s := ⟨_, rfl⟩
 have HV : Hid (ordItem x y = Pl.cmp s t) := Lib.hid (by unfold ordItem; rw [hs, ht])
 rw [hs] at c0
 rw [ht] at c1
 clear hs ht hxr hyr hx hy
 go_enter Tryz.func172, Tryz.ntmps172
 go_wp2_with fail
 refine (compare_any s t _).mono ?_
 rintro e w' ⟨rfl, rfl⟩
 go_wp2_with fail
 go_ret
 exact ⟨by rw [HV.out]; rfl, HB.out⟩

theorem tellsItem (w : World) : TellsO kItem w 172 #[] ordItem := ⟨fun args W => by kernel_rfl, fun W _ a b ha hb => cordItem a b W ha hb⟩

/-- The table of items. -/
abbrev tvItem : Value := .func (.func 172) #[] #[]
theorem tabItem_any (w : World) : Calls Tryz.prog 158 #[] w fun e w' => e = .returned (.agg #[tvItem]) ∧ Below w.heap.size w w' := by
 go_enter Tryz.func158, Tryz.ntmps158
 go_wp2
 refine bodyPost_ret (v := .agg #[tvItem]) ?_ rfl ⟨rfl, ?_⟩
 · simp [results, Tryz.results158, go_sem]
 · exact (Below.refl _ _).alloc (Nat.le_refl _) _

set_option maxRecDepth 100000 in
set_option maxHeartbeats 1600000 in
theorem cfindItem_any (h : Hs) (L : List (List Value)) (s : ByteArray) (w : World) (hn : h.n 0 = L.length) (hn6 : h.n 0 ≤ 1000000) (hL : Things kItem L) (hr : Rd w w.heap.size (h.A 0) L.flatten) :
 Calls Tryz.prog 142 #[h.val, .string s] w fun e w' => e = .returned (.tuple #[.agg (gotItem L s).toArray, .bool (atItem L s).isSome]) ∧ Below w.heap.size w w' := by
 obtain ⟨W0, hW0⟩ : ∃ W0, W0 = (w.alloc (.cells #[.slice (h.A 0) (h.n 0) (h.c 0), .slice (h.A 1) (h.n 1) (h.c 1), .slice (h.A 2) (h.n 2) (h.c 2), .slice (h.A 3) (h.n 3) (h.c 3), .slice (h.A 4) (h.n 4) (h.c 4), .slice (h.A 5) (h.n 5) (h.c 5), .slice (h.A 6) (h.n 6) (h.c 6), .slice (h.A 7) (h.n 7) (h.c 7), .slice (h.A 8) (h.n 8) (h.c 8), .slice (h.A 9) (h.n 9) (h.c 9), .slice (h.A 10) (h.n 10) (h.c 10), .slice (h.A 11) (h.n 11) (h.c 11), .slice (h.A 12) (h.n 12) (h.c 12), .slice (h.A 13) (h.n 13) (h.c 13), .int .i64 h.z] 37)).alloc (.cells #[.string ⟨#[]⟩, .string ⟨#[]⟩, .int .i64 0, .string ⟨#[]⟩, .int .i64 0, .string ⟨#[]⟩, .int .i64 0, .string ⟨#[]⟩, .int .i64 0, .int .i64 0, .int .i64 0, .bool false, .bool false, .bool false] 70) := ⟨_, rfl⟩
 have hb0 : Below w.heap.size w W0 := by rw [hW0]; exact ((Below.refl _ _).alloc (Nat.le_refl _) _).alloc (by simp) _
 have hs0 : W0.heap.size = w.heap.size + 2 := by rw [hW0]; simp
 have HBX : Hid (∀ W, Below W0.heap.size W0 W → W.cell? ⟨w.heap.size, 0, none⟩ = some (.slice (h.A 0) (h.n 0) (h.c 0))) := Lib.hid (fun W hW => (hW.cell (p := ⟨w.heap.size, 0, none⟩) (by simp; omega)).trans (by rw [hW0]; simp [go_sem]))
 have HRX : Hid (∀ W, Below W0.heap.size W0 W → W.heap[w.heap.size + 1]? = some (.cells zeroItem.toArray 70 (0, 0))) := Lib.hid (fun W hW => (hW.block _ (by omega)).trans (by
  rw [hW0]
  have := heap_alloc_new (w.alloc (.cells #[.slice (h.A 0) (h.n 0) (h.c 0), .slice (h.A 1) (h.n 1) (h.c 1), .slice (h.A 2) (h.n 2) (h.c 2), .slice (h.A 3) (h.n 3) (h.c 3), .slice (h.A 4) (h.n 4) (h.c 4), .slice (h.A 5) (h.n 5) (h.c 5), .slice (h.A 6) (h.n 6) (h.c 6), .slice (h.A 7) (h.n 7) (h.c 7), .slice (h.A 8) (h.n 8) (h.c 8), .slice (h.A 9) (h.n 9) (h.c 9), .slice (h.A 10) (h.n 10) (h.c 10), .slice (h.A 11) (h.n 11) (h.c 11), .slice (h.A 12) (h.n 12) (h.c 12), .slice (h.A 13) (h.n 13) (h.c 13), .int .i64 h.z] 37)) (.cells zeroItem.toArray 70)
  simpa [zeroItem] using this))
 have HFI : Hid (∀ W, Below W0.heap.size W0 W → Calls Tryz.prog 159 #[.agg #[tvItem], .slice (h.A 0) (h.n 0) (h.c 0), .agg #[.string s, .string ⟨#[]⟩, .int .i64 0, .string ⟨#[]⟩, .int .i64 0, .string ⟨#[]⟩, .int .i64 0, .string ⟨#[]⟩, .int .i64 0, .int .i64 0, .int .i64 0, .bool false, .bool false, .bool false]] W fun e w' => e = .returned (firstV (atItem L s)) ∧ Below W.heap.size W w') := Lib.hid (fun W hW =>
  findItem (h.A 0) (h.n 0) (h.c 0) 172 #[] ordItem (keyItem s) L W hn hn6 hL (keyItem_fits s) ((hr.below (hb0.trans (hW.mono (by omega)))).mono (hb0.trans (hW.mono (by omega))).size) (tellsItem W))
 have HN := Lib.hid hn
 have HL := Lib.hid hL
 have HR := Lib.hid hr
 have HB0 := Lib.hid hb0
 have HS0 := Lib.hid hs0
 have H : Hid (Below W0.heap.size W0 W0.drew) := Lib.hid (Below.refl _ _).drew
 have hu := Tryz.underlying70
 have HSZ : Hid (∀ y, Fits kItem y → (Tryz.prog.info? 70).map (·.size) = some y.toArray.size) := Lib.hid (fun y hy => by rw [show (Tryz.prog.info? 70).map (·.size) = some 14 from by kernel_rfl, List.size_toArray, hy.length]; rfl)
 clear hn hL hr hb0 hs0
 obtain ⟨o, ho⟩ : ∃ o, atItem L s = o := ⟨_, rfl⟩
 rw [ho] at HFI ⊢
 have HO := Lib.hid ho
 clear ho
 cases o with
 | none =>
  rw [firstV_none] at HFI
  unfold Hs.val
  go_enter Tryz.func142, Tryz.ntmps142
  go_wp2_with fail
  rw [← hW0]
  clear hW0
  go_region_held3 (fun w' => w'.cell? ⟨w.heap.size, 0, none⟩ = some (.slice (h.A 0) (h.n 0) (h.c 0)))
   (first | exact HBX.out _ H.out)
   (first
    | (go_at_call 158; refine (tabItem_any _).mono ?_; rintro e w' ⟨rfl, hb'⟩; have H := Lib.hid (H.out.trans (hb'.mono H.out.size)); clear hb')
    | (go_at_call 159; refine (HFI.out _ H.out).mono ?_; rintro e w' ⟨rfl, hb'⟩; have H := Lib.hid (H.out.trans (hb'.mono H.out.size)); clear hb'))
  have HRW := Lib.hid (HRX.out _ H.out)
  go_wp2_with (first
   | (refine wpList_store_row rfl 70 (.tmp 4) (.tmp 19) rfl (w.heap.size + 1) zeroItem.toArray rfl rfl _ _ HRW.out (HSZ.out _ zeroItem_fits) rfl (by simp [zeroItem, Value.oneCell']) ?_)
   | fail)
  have HBE : Hid (Below w.heap.size w (w'.setRow (w.heap.size + 1) zeroItem.toArray)) := Lib.hid (by
   have hb := HB0.out.trans (H.out.mono HB0.out.size)
   exact ⟨hb.os, hb.tape, hb.output, by simpa using hb.size, fun k hk => (setRow_other _ _ k _ (by omega)).trans (hb.block k hk)⟩)
  have HG : Hid (gotItem L s = zeroItem) := Lib.hid (by unfold gotItem; rw [HO.out])
  exact bodyPost_ret (results_row_tmp rfl _ _ (w.heap.size + 1) _ _ _ _ rfl (setRow_heap _ _ _ _ _ _ HRW.out) hu rfl (HSZ.out _ zeroItem_fits)) rfl ⟨by rw [HG.out]; rfl, HBE.out⟩
 | some i =>
  rw [firstV_some] at HFI
  have hl : i < L.length := Pl.firstG_lt HO.out
  have hin : i < h.n 0 := by rw [HN.out]; exact hl
  obtain ⟨b, off, hA, hb, hc⟩ := HR.out.thing HL.out (by decide) hl
  have HG : Hid (gotItem L s = L[i]) := Lib.hid (by unfold gotItem; rw [HO.out]; simp only []; rw [List.getD_eq_getElem?_getD, List.getElem?_eq_getElem hl]; rfl)
  have fx := HL.out _ (List.getElem_mem hl)
  have r1 := hc i hl
  rw [show kItem.length = 14 from rfl] at r1
  obtain ⟨x, hx⟩ : ∃ x, L[i] = x := ⟨_, rfl⟩
  rw [hx] at fx r1 HG
  have HF := Lib.hid fx
  have HR1 : Hid (∀ W, Below W0.heap.size W0 W → W.rangeAt b (off + i * 14) x) := Lib.hid (fun W hW => rangeAt_below r1 hb (HB0.out.trans (hW.mono HB0.out.size)))
  have hlb : b < w.heap.size := hb
  have HIX : Hid ((Tryz.prog.info? 70).map (·.size) = some x.length) := Lib.hid (by have := HSZ.out x fx; rwa [List.size_toArray] at this)
  have HOZ : Hid (zeroItem.toArray.size = x.toArray.size) := Lib.hid (by rw [List.size_toArray, List.size_toArray, fx.length]; rfl)
  have HOC : Hid (x.toArray.all (·.oneCell') = true) := Lib.hid (all_oneCell_toArray (fits_one fx))
  have h1 : (0 : Int) ≤ (i : Int) := by omega
  have h2 : (i : Int) < (h.n 0 : Int) := by omega
  rw [hA] at HBX HFI hW0
  unfold Hs.val
  rw [hA]
  clear hc r1 hx fx hb hA HR hl
  go_enter Tryz.func142, Tryz.ntmps142
  go_wp2_with fail
  rw [← hW0]
  clear hW0
  go_region_held3 (fun w' => w'.cell? ⟨w.heap.size, 0, none⟩ = some (.slice (some ⟨b, off, none⟩) (h.n 0) (h.c 0)))
   (first | exact HBX.out _ H.out)
   (first
    | (go_at_call 158; refine (tabItem_any _).mono ?_; rintro e w' ⟨rfl, hb'⟩; have H := Lib.hid (H.out.trans (hb'.mono H.out.size)); clear hb')
    | (go_at_call 159; refine (HFI.out _ H.out).mono ?_; rintro e w' ⟨rfl, hb'⟩; have H := Lib.hid (H.out.trans (hb'.mono H.out.size)); clear hb'))
  have HRW := Lib.hid (HRX.out _ H.out)
  have HRM := Lib.hid (HR1.out _ H.out)
  have c0 := HBX.out _ H.out
  go_wp2_with (first
   | (refine wpList_load_mid rfl 70 (.tmp 23) rfl b (off + i * 14) rfl x _ HRM.out hu rfl HIX.out ?_)
   | (refine wpList_store_row rfl 70 (.tmp 4) (.tmp 24) rfl (w.heap.size + 1) x.toArray rfl rfl _ _ HRW.out (HSZ.out _ HF.out) HOZ.out HOC.out ?_)
   | fail)
  have HBE : Hid (Below w.heap.size w (w'.setRow (w.heap.size + 1) x.toArray)) := Lib.hid (by
   have hb := HB0.out.trans (H.out.mono HB0.out.size)
   exact ⟨hb.os, hb.tape, hb.output, by simpa using hb.size, fun k hk => (setRow_other _ _ k _ (by omega)).trans (hb.block k hk)⟩)
  exact bodyPost_ret (results_row_tmp rfl _ _ (w.heap.size + 1) _ _ _ _ rfl (setRow_heap _ _ _ _ _ _ HRW.out) hu rfl (HSZ.out _ HF.out)) rfl ⟨by rw [HG.out]; rfl, HBE.out⟩
theorem fcItem {h : Hs} {L : Nat → List (List Value)} {w : World} (hh : HT h L w) (s : ByteArray) : Calls Tryz.prog 142 #[.agg h.cells, .string s] w fun e w' => e = .returned (.tuple #[.agg (gotItem (L 0) s).toArray, .bool (atItem (L 0) s).isSome]) ∧ Below w.heap.size w w' :=
 cfindItem_any h (L 0) s w (hh 0 (by decide)).1 (hh 0 (by decide)).2.1 (hh 0 (by decide)).2.2.1 (hh 0 (by decide)).2.2.2
end Go.Proofs.YtlkmccmbpnbgbaaGreat

namespace Go.Proofs.YtlkmccmbpnbgbaaGreat
set_option linter.unusedVariables false
open Go.RowKit
open Pl (firstG firstG_none firstG_some findG overG putG It)

theorem lor_any (A : Option Addr) (y z : Int) (c : Nat) (w : World) (hA : ∃ b, A = some ⟨b, 0, none⟩ ∧ w.heap[b]? = some (.cells #[.int .i64 y, .int .i64 z] 3 (0, 0))) : Calls Tryz.prog 87 #[.slice A 2 c] w fun e w' => e = .returned (.int .i64 (if y = 0 then z else y)) ∧ w' = w := by
 obtain ⟨b, rfl, hb⟩ := hA
 have c0 : w.cell? ⟨b, 0, none⟩ = some (.int .i64 y) := by rw [cell_of_block hb]; rfl
 have c1 : w.cell? ⟨b, 1, none⟩ = some (.int .i64 z) := by rw [cell_of_block hb]; rfl
 have hl : b < w.heap.size := lt_of_block hb
 clear hb
 go_enter Tryz.func87, Tryz.ntmps87
 obtain ⟨r, hr⟩ : ∃ r, (if y = 0 then z else y) = r := ⟨_, rfl⟩
 rw [hr]
 have HR := Lib.hid hr
 clear hr
 go_wp2_with fail
 go_loopw [8] (fun kv wr => ∃ k : Nat, k ≤ 2 ∧ kv = .int .i64 (k : Int) ∧ Hid (1 ≤ k → y = 0) ∧ Hid (2 ≤ k → z = 0) ∧ Hid (wr = w)) (fun kv _ => 2 - (intOf kv).toNat)
 case atStart => exact ⟨0, by omega, rfl, Lib.hid (by omega), Lib.hid (by omega), Lib.hid (by first | rfl | trivial)⟩
 case round =>
  obtain ⟨k, hk, rfl, h1, h2, hw⟩ := hrel
  obtain rfl := hw.out
  have hk3 : k = 0 ∨ k = 1 ∨ k = 2 := by omega
  rcases hk3 with rfl | rfl | rfl
  · by_cases hy : y = 0
    · have HY0 := Lib.hid hy
      go_wp2_with fail
      go_roundw
      case rel => exact ⟨1, by omega, rfl, Lib.hid (fun _ => HY0.out), Lib.hid (by omega), Lib.hid (by first | rfl | trivial)⟩
      case measure => simp [intOf]
    · have hy' : (y != 0) = true := by simpa using hy
      have HV : Hid (r = y) := Lib.hid (by rw [← HR.out, if_neg hy])
      clear hy
      go_wp2_with fail
      go_ret
      exact ⟨by rw [HV.out]; rfl, rfl⟩
  · have HY0 := Lib.hid (h1.out (by omega))
    by_cases hz : z = 0
    · have HZ0 := Lib.hid hz
      go_wp2_with fail
      go_roundw
      case rel => exact ⟨2, by omega, rfl, Lib.hid (fun _ => HY0.out), Lib.hid (fun _ => HZ0.out), Lib.hid (by first | rfl | trivial)⟩
      case measure => simp [intOf]
    · have hz' : (z != 0) = true := by simpa using hz
      have HV : Hid (r = z) := Lib.hid (by rw [← HR.out, if_pos HY0.out])
      clear hz
      go_wp2_with fail
      go_ret
      exact ⟨by rw [HV.out]; rfl, rfl⟩
  · have HV : Hid (r = 0) := Lib.hid (by rw [← HR.out, if_pos (h1.out (by omega)), h2.out (by omega)])
    go_wp2_with fail
    go_ret
    exact ⟨by rw [HV.out]; rfl, rfl⟩
set_option maxRecDepth 100000 in
theorem orderL_any (x y : List Value) (w : World) (hx : Fits kLot x) (hy : Fits kLot y) : Calls Tryz.prog 190 #[.agg x.toArray, .agg y.toArray] w fun e w' => e = .returned (.int .i64 (ordL x y)) ∧ Below w.heap.size w w' := by
 have hxr := lot_cells hx
 have hyr := lot_cells hy
 have HV : Hid (ordL x y = if Pl.cmp (itemL x) (itemL y) = 0 then Pl.cmp (codeL x) (codeL y) else Pl.cmp (itemL x) (itemL y)) := Lib.hid rfl
 obtain ⟨a, ha⟩ : ∃ s, itemL x = s := ⟨_, rfl⟩
 obtain ⟨b, hb⟩ : ∃ s, codeL x = s := ⟨_, rfl⟩
 obtain ⟨c, hc⟩ : ∃ s, itemL y = s := ⟨_, rfl⟩
 obtain ⟨d, hd⟩ : ∃ s, codeL y = s := ⟨_, rfl⟩
 obtain ⟨z, hz⟩ : ∃ s, expL x = s := ⟨_, rfl⟩
 obtain ⟨u, hu⟩ : ∃ s, expL y = s := ⟨_, rfl⟩
 rw [ha, hb, hc, hd] at HV
 rw [ha, hb, hz] at hxr
 rw [hc, hd, hu] at hyr
 clear ha hb hc hd hz hu hx hy
 obtain ⟨v, hv⟩ : ∃ v, ordL x y = v := ⟨_, rfl⟩
 rw [hv] at HV ⊢
 clear hv
 subst hxr hyr
 go_enter Tryz.func190, Tryz.ntmps190
 obtain ⟨W0, hW0⟩ : ∃ W0, W0 = (w.alloc (.cells #[.string a, .string b, .int .i64 z] 73)).alloc (.cells #[.string c, .string d, .int .i64 u] 73) := ⟨_, rfl⟩
 have hb0 : Below w.heap.size w W0 := by rw [hW0]; exact ((Below.refl _ _).alloc (Nat.le_refl _) _).alloc (by simp) _
 have hs0 : W0.heap.size = w.heap.size + 2 := by rw [hW0]; simp
 have HST : Hid (∀ W, Below W0.heap.size W0 W → W.cell? ⟨w.heap.size, 0, none⟩ = some (.string a) ∧ W.cell? ⟨w.heap.size, 1, none⟩ = some (.string b) ∧ W.cell? ⟨w.heap.size + 1, 0, none⟩ = some (.string c) ∧ W.cell? ⟨w.heap.size + 1, 1, none⟩ = some (.string d)) := Lib.hid (fun W hW => by
  have h1 : W.heap[w.heap.size]? = some (.cells #[.string a, .string b, .int .i64 z] 73 (0, 0)) := (hW.block _ (by omega)).trans (by rw [hW0]; exact (Below.heap_alloc _ _ _ (by simp)).trans (heap_alloc_new _ _))
  have h2 : W.heap[w.heap.size + 1]? = some (.cells #[.string c, .string d, .int .i64 u] 73 (0, 0)) := (hW.block _ (by omega)).trans (by
   rw [hW0]
   have := heap_alloc_new (w.alloc (.cells #[.string a, .string b, .int .i64 z] 73)) (.cells #[.string c, .string d, .int .i64 u] 73)
   simpa using this)
  exact ⟨by rw [cell_of_block h1]; rfl, by rw [cell_of_block h1]; rfl, by rw [cell_of_block h2]; rfl, by rw [cell_of_block h2]; rfl⟩)
 have HB0 := Lib.hid hb0
 have BN := Lib.hid ((Below.refl W0.heap.size W0).drew)
 clear hb0
 go_wp2_with fail
 rw [← hW0]
 clear hW0 hs0
 have ST0 := HST.out _ BN.out
 refine wp_region_noPanic ?_
 refine wp_region_held_drew (S := (fun W => W.cell? ⟨w.heap.size, 0, none⟩ = some (.string a) ∧ W.cell? ⟨w.heap.size, 1, none⟩ = some (.string b) ∧ W.cell? ⟨w.heap.size + 1, 0, none⟩ = some (.string c) ∧ W.cell? ⟨w.heap.size + 1, 1, none⟩ = some (.string d))) (by kernel_rfl) ST0 (fun dd0 => ?_)
 refine tkE 0 (.pointer (some ⟨w.heap.size, 0, none⟩)) rfl ?_
 (try simp only [ax])
 refine tkF 1 (.string a) rfl (.inl ⟨by kernel_rfl, fun w hw => by obtain ⟨hc0, hc1, hc2, hc3⟩ := hw; go_simp⟩) ?_
 (try simp only [ax])
 refine tkE 2 (.pointer (some ⟨w.heap.size + 1, 0, none⟩)) rfl ?_
 (try simp only [ax])
 refine tkF 3 (.string c) rfl (.inl ⟨by kernel_rfl, fun w hw => by obtain ⟨hc0, hc1, hc2, hc3⟩ := hw; go_simp⟩) ?_
 (try simp only [ax])
 refine tkE 5 (.pointer (some ⟨w.heap.size, 1, none⟩)) rfl ?_
 (try simp only [ax])
 refine tkF 6 (.string b) rfl (.inl ⟨by kernel_rfl, fun w hw => by obtain ⟨hc0, hc1, hc2, hc3⟩ := hw; go_simp⟩) ?_
 (try simp only [ax])
 refine tkE 7 (.pointer (some ⟨w.heap.size + 1, 1, none⟩)) rfl ?_
 (try simp only [ax])
 refine tkF 8 (.string d) rfl (.inl ⟨by kernel_rfl, fun w hw => by obtain ⟨hc0, hc1, hc2, hc3⟩ := hw; go_simp⟩) ?_
 (try simp only [ax])
 refine wpAnyH_ready (rs := [4]) (by kernel_rfl) (by simp) ?_
 refine AllReadyH.cons rfl (fun K' hK => ?_) AllReadyH.nil
 go_simp
 refine (compare_any a c _).mono ?_
 rintro e wn ⟨rfl, rfl⟩
 refine hK.out _ _ (HST.out _ BN.out) (fun _ => ?_)
 clear hK K'
 (try simp only [ax])
 refine wpAnyH_ready (rs := [9]) (by kernel_rfl) (by simp) ?_
 refine AllReadyH.cons rfl (fun K' hK => ?_) AllReadyH.nil
 go_simp
 refine (compare_any b d _).mono ?_
 rintro e wn ⟨rfl, rfl⟩
 refine hK.out _ _ (HST.out _ BN.out) (fun _ => ?_)
 clear hK K'
 (try simp only [ax])
 obtain ⟨p1, hp1⟩ : ∃ p, Pl.cmp a c = p := ⟨_, rfl⟩
 obtain ⟨p2, hp2⟩ : ∃ p, Pl.cmp b d = p := ⟨_, rfl⟩
 rw [hp1, hp2] at HV ⊢
 clear hp1 hp2
 refine wpAnyH_ready (rs := [10]) (by kernel_rfl) (by simp) ?_
 refine AllReadyH.cons rfl (fun K' hK => ?_) AllReadyH.nil
 go_simp
 have hnew := heap_alloc_new W0 (.cells #[.int .i64 p1, .int .i64 p2] 3)
 have BA : Hid (Below W0.heap.size W0 (W0.alloc (.cells #[.int .i64 p1, .int .i64 p2] 3)).drew) := Lib.hid (((Below.refl _ _).alloc (Nat.le_refl _) _).drew)
 have HNEW : Hid ((W0.alloc (.cells #[.int .i64 p1, .int .i64 p2] 3)).drew.heap[W0.heap.size]? = some (.cells #[.int .i64 p1, .int .i64 p2] 3 (0, 0))) := Lib.hid hnew
 clear hnew
 refine hK.out _ _ (HST.out _ BA.out) (fun _ => ?_)
 clear hK K'
 (try simp only [ax])
 refine wpAnyH_ready (rs := [11]) (by kernel_rfl) (by simp) ?_
 refine AllReadyH.cons rfl (fun K' hK => ?_) AllReadyH.nil
 go_simp
 refine (lor_any (some ⟨W0.heap.size, 0, none⟩) p1 p2 2 _ ⟨_, rfl, HNEW.out⟩).mono ?_
 rintro e wn ⟨rfl, rfl⟩
 refine hK.out _ _ (HST.out _ BA.out) (fun _ => ?_)
 clear hK K'
 (try simp only [ax])
 rw [← HV.out]
 refine tkE 12 (.int .i64 v) rfl ?_
 (try simp only [ax])
 refine wpAnyH_done (by kernel_rfl) ?_ _
 refine NoPanic.normal ?_
 clear ST0
 go_wp2_with fail
 go_ret
 exact ⟨rfl, HB0.out.trans (BA.out.mono HB0.out.size)⟩
theorem tellsL (w : World) : TellsO kLot w 190 #[] ordL := ⟨fun args W => by kernel_rfl, fun W _ a b ha hb => orderL_any a b W ha hb⟩
abbrev tvL : Value := .func (.func 190) #[] #[]
attribute [local go_sem] store_func
theorem bykey_any (w : World) : Calls Tryz.prog 181 #[] w fun e w' => e = .returned (.agg #[tvL]) ∧ Below w.heap.size w w' := by
 go_enter Tryz.func181, Tryz.ntmps181
 go_wp2
 refine bodyPost_ret (v := .agg #[tvL]) ?_ rfl ⟨rfl, ?_⟩
 · simp [results, Tryz.results181, go_sem]
 · exact (Below.refl _ _).alloc (Nat.le_refl _) _

set_option maxRecDepth 100000 in
set_option maxHeartbeats 1600000 in
theorem findl_any (h : Hs) (L : List (List Value)) (s t : ByteArray) (w : World) (hn : h.n 1 = L.length) (hn6 : h.n 1 ≤ 1000000) (hL : Things kLot L) (hr : Rd w w.heap.size (h.A 1) L.flatten) :
 Calls Tryz.prog 170 #[h.val, .string s, .string t] w fun e w' => e = .returned (.tuple #[.agg (gotL L s t).toArray, .bool (atL L s t).isSome]) ∧ Below w.heap.size w w' := by
 obtain ⟨W0, hW0⟩ : ∃ W0, W0 = (w.alloc (.cells #[.slice (h.A 0) (h.n 0) (h.c 0), .slice (h.A 1) (h.n 1) (h.c 1), .slice (h.A 2) (h.n 2) (h.c 2), .slice (h.A 3) (h.n 3) (h.c 3), .slice (h.A 4) (h.n 4) (h.c 4), .slice (h.A 5) (h.n 5) (h.c 5), .slice (h.A 6) (h.n 6) (h.c 6), .slice (h.A 7) (h.n 7) (h.c 7), .slice (h.A 8) (h.n 8) (h.c 8), .slice (h.A 9) (h.n 9) (h.c 9), .slice (h.A 10) (h.n 10) (h.c 10), .slice (h.A 11) (h.n 11) (h.c 11), .slice (h.A 12) (h.n 12) (h.c 12), .slice (h.A 13) (h.n 13) (h.c 13), .int .i64 h.z] 37)).alloc (.cells #[.string ⟨#[]⟩, .string ⟨#[]⟩, .int .i64 0] 73) := ⟨_, rfl⟩
 have hb0 : Below w.heap.size w W0 := by rw [hW0]; exact ((Below.refl _ _).alloc (Nat.le_refl _) _).alloc (by simp) _
 have hs0 : W0.heap.size = w.heap.size + 2 := by rw [hW0]; simp
 have HBX : Hid (∀ W, Below W0.heap.size W0 W → W.cell? ⟨w.heap.size, 1, none⟩ = some (.slice (h.A 1) (h.n 1) (h.c 1))) := Lib.hid (fun W hW => (hW.cell (p := ⟨w.heap.size, 1, none⟩) (by simp; omega)).trans (by rw [hW0]; simp [go_sem]))
 have HRX : Hid (∀ W, Below W0.heap.size W0 W → W.heap[w.heap.size + 1]? = some (.cells zeroL.toArray 73 (0, 0))) := Lib.hid (fun W hW => (hW.block _ (by omega)).trans (by
  rw [hW0]
  have := heap_alloc_new (w.alloc (.cells #[.slice (h.A 0) (h.n 0) (h.c 0), .slice (h.A 1) (h.n 1) (h.c 1), .slice (h.A 2) (h.n 2) (h.c 2), .slice (h.A 3) (h.n 3) (h.c 3), .slice (h.A 4) (h.n 4) (h.c 4), .slice (h.A 5) (h.n 5) (h.c 5), .slice (h.A 6) (h.n 6) (h.c 6), .slice (h.A 7) (h.n 7) (h.c 7), .slice (h.A 8) (h.n 8) (h.c 8), .slice (h.A 9) (h.n 9) (h.c 9), .slice (h.A 10) (h.n 10) (h.c 10), .slice (h.A 11) (h.n 11) (h.c 11), .slice (h.A 12) (h.n 12) (h.c 12), .slice (h.A 13) (h.n 13) (h.c 13), .int .i64 h.z] 37)) (.cells zeroL.toArray 73)
  simpa [zeroL] using this))
 have HFI : Hid (∀ W, Below W0.heap.size W0 W → Calls Tryz.prog 182 #[.agg #[tvL], .slice (h.A 1) (h.n 1) (h.c 1), .agg #[.string s, .string t, .int .i64 0]] W fun e w' => e = .returned (firstV (atL L s t)) ∧ Below W.heap.size W w') := Lib.hid (fun W hW =>
  findLot (h.A 1) (h.n 1) (h.c 1) 190 #[] ordL (keyL s t) L W hn hn6 hL (keyL_fits s t) ((hr.below (hb0.trans (hW.mono (by omega)))).mono (hb0.trans (hW.mono (by omega))).size) (tellsL W))
 have HN := Lib.hid hn
 have HL := Lib.hid hL
 have HR := Lib.hid hr
 have HB0 := Lib.hid hb0
 have HS0 := Lib.hid hs0
 have H : Hid (Below W0.heap.size W0 W0.drew) := Lib.hid (Below.refl _ _).drew
 have hu := Tryz.underlying73
 have HSZ : Hid (∀ y, Fits kLot y → (Tryz.prog.info? 73).map (·.size) = some y.toArray.size) := Lib.hid (fun y hy => by rw [show (Tryz.prog.info? 73).map (·.size) = some 3 from by kernel_rfl, List.size_toArray, hy.length]; rfl)
 clear hn hL hr hb0 hs0
 obtain ⟨o, ho⟩ : ∃ o, atL L s t = o := ⟨_, rfl⟩
 rw [ho] at HFI ⊢
 have HO := Lib.hid ho
 clear ho
 cases o with
 | none =>
  rw [firstV_none] at HFI
  unfold Hs.val
  go_enter Tryz.func170, Tryz.ntmps170
  go_wp2_with fail
  rw [← hW0]
  clear hW0
  go_region_held3 (fun w' => w'.cell? ⟨w.heap.size, 1, none⟩ = some (.slice (h.A 1) (h.n 1) (h.c 1)))
   (first | exact HBX.out _ H.out)
   (first
    | (go_at_call 181; refine (bykey_any _).mono ?_; rintro e w' ⟨rfl, hb'⟩; have H := Lib.hid (H.out.trans (hb'.mono H.out.size)); clear hb')
    | (go_at_call 182; refine (HFI.out _ H.out).mono ?_; rintro e w' ⟨rfl, hb'⟩; have H := Lib.hid (H.out.trans (hb'.mono H.out.size)); clear hb'))
  have HRW := Lib.hid (HRX.out _ H.out)
  go_wp2_with (first
   | (refine wpList_store_row rfl 73 (.tmp 6) (.tmp 22) rfl (w.heap.size + 1) zeroL.toArray rfl rfl _ _ HRW.out (HSZ.out _ zeroL_fits) rfl (by simp [zeroL, Value.oneCell']) ?_)
   | fail)
  have HBE : Hid (Below w.heap.size w (w'.setRow (w.heap.size + 1) zeroL.toArray)) := Lib.hid (by
   have hb := HB0.out.trans (H.out.mono HB0.out.size)
   exact ⟨hb.os, hb.tape, hb.output, by simpa using hb.size, fun k hk => (setRow_other _ _ k _ (by omega)).trans (hb.block k hk)⟩)
  have HG : Hid (gotL L s t = zeroL) := Lib.hid (by unfold gotL; rw [HO.out])
  exact bodyPost_ret (results_row_tmp rfl _ _ (w.heap.size + 1) _ _ _ _ rfl (setRow_heap _ _ _ _ _ _ HRW.out) hu rfl (HSZ.out _ zeroL_fits)) rfl ⟨by rw [HG.out]; rfl, HBE.out⟩
 | some i =>
  rw [firstV_some] at HFI
  have hl : i < L.length := Pl.firstG_lt HO.out
  have hin : i < h.n 1 := by rw [HN.out]; exact hl
  obtain ⟨b, off, hA, hb, hc⟩ := HR.out.thing HL.out (by decide) hl
  have HG : Hid (gotL L s t = L[i]) := Lib.hid (by unfold gotL; rw [HO.out]; simp only []; rw [List.getD_eq_getElem?_getD, List.getElem?_eq_getElem hl]; rfl)
  have fx := HL.out _ (List.getElem_mem hl)
  have r1 := hc i hl
  rw [show kLot.length = 3 from rfl] at r1
  obtain ⟨x, hx⟩ : ∃ x, L[i] = x := ⟨_, rfl⟩
  rw [hx] at fx r1 HG
  have HF := Lib.hid fx
  have HR1 : Hid (∀ W, Below W0.heap.size W0 W → W.rangeAt b (off + i * 3) x) := Lib.hid (fun W hW => rangeAt_below r1 hb (HB0.out.trans (hW.mono HB0.out.size)))
  have hlb : b < w.heap.size := hb
  have HIX : Hid ((Tryz.prog.info? 73).map (·.size) = some x.length) := Lib.hid (by have := HSZ.out x fx; rwa [List.size_toArray] at this)
  have HOZ : Hid (zeroL.toArray.size = x.toArray.size) := Lib.hid (by rw [List.size_toArray, List.size_toArray, fx.length]; rfl)
  have HOC : Hid (x.toArray.all (·.oneCell') = true) := Lib.hid (all_oneCell_toArray (fits_one fx))
  have h1 : (0 : Int) ≤ (i : Int) := by omega
  have h2 : (i : Int) < (h.n 1 : Int) := by omega
  rw [hA] at HBX HFI hW0
  unfold Hs.val
  rw [hA]
  clear hc r1 hx fx hb hA HR hl
  go_enter Tryz.func170, Tryz.ntmps170
  go_wp2_with fail
  rw [← hW0]
  clear hW0
  go_region_held3 (fun w' => w'.cell? ⟨w.heap.size, 1, none⟩ = some (.slice (some ⟨b, off, none⟩) (h.n 1) (h.c 1)))
   (first | exact HBX.out _ H.out)
   (first
    | (go_at_call 181; refine (bykey_any _).mono ?_; rintro e w' ⟨rfl, hb'⟩; have H := Lib.hid (H.out.trans (hb'.mono H.out.size)); clear hb')
    | (go_at_call 182; refine (HFI.out _ H.out).mono ?_; rintro e w' ⟨rfl, hb'⟩; have H := Lib.hid (H.out.trans (hb'.mono H.out.size)); clear hb'))
  have HRW := Lib.hid (HRX.out _ H.out)
  have HRM := Lib.hid (HR1.out _ H.out)
  have c0 := HBX.out _ H.out
  go_wp2_with (first
   | (refine wpList_load_mid rfl 73 (.tmp 26) rfl b (off + i * 3) rfl x _ HRM.out hu rfl HIX.out ?_)
   | (refine wpList_store_row rfl 73 (.tmp 6) (.tmp 27) rfl (w.heap.size + 1) x.toArray rfl rfl _ _ HRW.out (HSZ.out _ HF.out) HOZ.out HOC.out ?_)
   | fail)
  have HBE : Hid (Below w.heap.size w (w'.setRow (w.heap.size + 1) x.toArray)) := Lib.hid (by
   have hb := HB0.out.trans (H.out.mono HB0.out.size)
   exact ⟨hb.os, hb.tape, hb.output, by simpa using hb.size, fun k hk => (setRow_other _ _ k _ (by omega)).trans (hb.block k hk)⟩)
  exact bodyPost_ret (results_row_tmp rfl _ _ (w.heap.size + 1) _ _ _ _ rfl (setRow_heap _ _ _ _ _ _ HRW.out) hu rfl (HSZ.out _ HF.out)) rfl ⟨by rw [HG.out]; rfl, HBE.out⟩
/-- A lot's three cells, an item's fourteen. -/
theorem lot_threeK {h : Hs} {L : Nat → List (List Value)} {w : World} (hh : HT h L w) (s t : ByteArray) : ∃ a c z, gotL (L 1) s t = [.string a, .string c, .int .i64 z] ∧ expL (gotL (L 1) s t) = z :=
 ⟨_, _, _, lot_cells (gotL_fits (hh 1 (by decide)).2.2.1 s t), rfl⟩
theorem cfindL {h : Hs} {L : Nat → List (List Value)} {w : World} (hh : HT h L w) (s t : ByteArray) : Calls Tryz.prog 170 #[.agg h.cells, .string s, .string t] w fun e w' => e = .returned (.tuple #[.agg (gotL (L 1) s t).toArray, .bool (atL (L 1) s t).isSome]) ∧ Below w.heap.size w w' :=
 findl_any h (L 1) s t w (hh 1 (by decide)).1 (hh 1 (by decide)).2.1 (hh 1 (by decide)).2.2.1 (hh 1 (by decide)).2.2.2

theorem got_none {LL : List (List Value)} {s t : ByteArray} (h : (atL LL s t).isSome = false) : gotL LL s t = zeroL := by
 unfold gotL
 cases hc : atL LL s t with
 | none => rfl
 | some i => rw [hc] at h; cases h
set_option maxRecDepth 100000 in
theorem cday_any (h : Hs) (L : Nat → List (List Value)) (s t : ByteArray) (w : World) (hh : HT h L w) : Calls Tryz.prog 153 #[.agg h.cells, .string s, .string t] w fun e w' => e = .returned (.int .i64 (dayZ (L 1) s t)) ∧ Below w.heap.size w w' := by
 obtain ⟨a, c, z, hg, hz⟩ := lot_threeK hh s t
 have HFL := Lib.hid (fun W (hW : Below w.heap.size w W) => cfindL (hh.below hW) s t)
 have HDZ : Hid (dayZ (L 1) s t = if z = 0 then 100001 else z) := Lib.hid (by unfold dayZ; rw [hz])
 have hgn := fun hf => (congrArg expL (got_none (LL := L 1) (s := s) (t := t) hf)).symm.trans hz
 rw [hg] at HFL
 obtain ⟨b, hb⟩ : ∃ b, (atL (L 1) s t).isSome = b := ⟨_, rfl⟩
 rw [hb] at HFL hgn
 obtain ⟨d, hd⟩ : ∃ d, dayZ (L 1) s t = d := ⟨_, rfl⟩
 rw [hd] at HDZ ⊢
 clear hb hd hg hz hh
 have huh := Tryz.underlying37
 have HSH : Hid (∀ a : Hs, (Tryz.prog.info? 37).map (·.size) = some a.cells.size) := Lib.hid (fun a => by kernel_rfl)
 have HB0 : Hid (Below w.heap.size w (w.alloc (.cells h.cells 37))) := Lib.hid ((Below.refl _ _).alloc (Nat.le_refl _) _)
 have HH0 : Hid ((w.alloc (.cells h.cells 37)).heap[w.heap.size]? = some (.cells h.cells 37 (0, 0))) := Lib.hid (heap_alloc_new _ _)
 go_enter Tryz.func153, Tryz.ntmps153
 go_wp2_with (first
  | (refine wpList_load_row rfl 37 (.tmp 3) rfl w.heap.size rfl _ _ _ _ HH0.out huh rfl (HSH.out _) ?_)
  | fail)
 refine (HFL.out _ HB0.out).mono ?_
 rintro e w1 ⟨rfl, hb1⟩
 have B1 : Hid (Below w.heap.size w (w1.alloc (.cells #[.string a, .string c, .int .i64 z] 73))) := Lib.hid ((HB0.out.trans (hb1.mono HB0.out.size)).alloc (HB0.out.trans (hb1.mono HB0.out.size)).size _)
 clear hb1
 cases b with
 | false =>
  have hz : z = 0 := (hgn rfl).symm
  have HE : Hid (d = 100001) := Lib.hid (by rw [HDZ.out, if_pos hz])
  clear hgn
  subst hz
  go_wp2_with fail
  go_ret
  exact ⟨by rw [HE.out]; rfl, B1.out⟩
 | true =>
  clear hgn
  by_cases hz : z = 0
  · have HE : Hid (d = 100001) := Lib.hid (by rw [HDZ.out, if_pos hz])
    subst hz
    go_wp2_with fail
    go_ret
    exact ⟨by rw [HE.out]; rfl, B1.out⟩
  · have HE : Hid (d = z) := Lib.hid (by rw [HDZ.out, if_neg hz])
    go_wp2_with fail
    go_ret
    exact ⟨by rw [HE.out]; rfl, B1.out⟩

end Go.Proofs.YtlkmccmbpnbgbaaGreat
