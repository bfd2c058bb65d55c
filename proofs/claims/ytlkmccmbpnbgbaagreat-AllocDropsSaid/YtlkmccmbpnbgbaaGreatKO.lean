/-
 CONTRACTS of the code's table of orders, and of findOrder. (By wip/tools/port16b.py.)
-/
import Derived.Test.YtlkmccmbpnbgbaaGreatKP
import Derived.Test.YtlkmccmbpnbgbaaGreatOOrd
import Derived.Test.YtlkmccmbpnbgbaaGreatHHouse
import Derived.Test.YtlkmccmbpnbgbaaGreatGT
import Derived.Deep.CutRange
namespace Go.Proofs.YtlkmccmbpnbgbaaGreat
set_option linter.unusedVariables false
open Go.RowKit
open Pl (firstG firstG_none firstG_some findG overG putG dropG It)

set_option maxRecDepth 100000 in
theorem cordOrder (x y : List Value) (w : World) (hx : Fits kOrder x) (hy : Fits kOrder y) : Calls Tryz.prog 111 #[.agg x.toArray, .agg y.toArray] w fun e w' => e = .returned (.int .i64 (ordOrder x y)) ∧ Below w.heap.size w w' := by
 obtain ⟨r, hxr⟩ := code_Order hx
 obtain ⟨q, hyr⟩ := code_Order hy
 have HB : Hid (Below w.heap.size w ((w.alloc (.cells x.toArray 42)).alloc (.cells y.toArray 42))) := Lib.hid (((Below.refl _ _).alloc (Nat.le_refl _) _).alloc (by simp) _)
 have c0 : ((w.alloc (.cells x.toArray 42)).alloc (.cells y.toArray 42)).cell? ⟨w.heap.size, 0, none⟩ = some (.string (codeOf x)) := by
  rw [cell_of_row _ w.heap.size 0 x.toArray 42 (0, 0) ((Below.heap_alloc _ _ _ (by simp)).trans (heap_alloc_new _ _))]
  rw [List.getElem?_toArray]
  rw [hxr]; rfl
 have c1 : ((w.alloc (.cells x.toArray 42)).alloc (.cells y.toArray 42)).cell? ⟨w.heap.size + 1, 0, none⟩ = some (.string (codeOf y)) := by
  have hh := heap_alloc_new (w.alloc (.cells x.toArray 42)) (.cells y.toArray 42)
  rw [cell_of_row _ (w.heap.size + 1) 0 y.toArray 42 (0, 0) (by simpa using hh)]
  rw [List.getElem?_toArray]
  rw [hyr]; rfl
 obtain ⟨s, hs⟩ : ∃ s, codeOf x = s := ⟨_, rfl⟩
 obtain ⟨t, ht⟩ : ∃ s, codeOf y = s := ⟨_, rfl⟩
 have HV : Hid (ordOrder x y = Pl.cmp s t) := Lib.hid (by unfold ordOrder; rw [hs, ht])
 rw [hs] at c0
 rw [ht] at c1
 clear hs ht hxr hyr hx hy
 go_enter Tryz.func111, Tryz.ntmps111
 go_wp2_with fail
 refine (compare_any s t _).mono ?_
 rintro e w' ⟨rfl, rfl⟩
 go_wp2_with fail
 go_ret
 exact ⟨by rw [HV.out]; rfl, HB.out⟩

theorem tellsOrder (w : World) : TellsO kOrder w 111 #[] ordOrder := ⟨fun args W => by kernel_rfl, fun W _ a b ha hb => cordOrder a b W ha hb⟩

/-- The table of items. -/
abbrev tvOrder : Value := .func (.func 111) #[] #[]
attribute [local go_sem] store_func
theorem tabOrder_any (w : World) : Calls Tryz.prog 77 #[] w fun e w' => e = .returned (.agg #[tvOrder]) ∧ Below w.heap.size w w' := by
 go_enter Tryz.func77, Tryz.ntmps77
 go_wp2
 refine bodyPost_ret (v := .agg #[tvOrder]) ?_ rfl ⟨rfl, ?_⟩
 · simp [results, Tryz.results77, go_sem]
 · exact (Below.refl _ _).alloc (Nat.le_refl _) _

set_option maxRecDepth 100000 in
set_option maxHeartbeats 1600000 in
theorem cfindOrder_any (h : Hs) (L : List (List Value)) (s : ByteArray) (w : World) (hn : h.n 7 = L.length) (hn6 : h.n 7 ≤ 1000000) (hL : Things kOrder L) (hr : Rd w w.heap.size (h.A 7) L.flatten) :
 Calls Tryz.prog 65 #[h.val, .string s] w fun e w' => e = .returned (.tuple #[.agg (gotOrder L s).toArray, .bool (atOrder L s).isSome]) ∧ Below w.heap.size w w' := by
 obtain ⟨W0, hW0⟩ : ∃ W0, W0 = (w.alloc (.cells #[.slice (h.A 0) (h.n 0) (h.c 0), .slice (h.A 1) (h.n 1) (h.c 1), .slice (h.A 2) (h.n 2) (h.c 2), .slice (h.A 3) (h.n 3) (h.c 3), .slice (h.A 4) (h.n 4) (h.c 4), .slice (h.A 5) (h.n 5) (h.c 5), .slice (h.A 6) (h.n 6) (h.c 6), .slice (h.A 7) (h.n 7) (h.c 7), .slice (h.A 8) (h.n 8) (h.c 8), .slice (h.A 9) (h.n 9) (h.c 9), .slice (h.A 10) (h.n 10) (h.c 10), .slice (h.A 11) (h.n 11) (h.c 11), .slice (h.A 12) (h.n 12) (h.c 12), .slice (h.A 13) (h.n 13) (h.c 13), .int .i64 h.z] 37)).alloc (.cells #[.string ⟨#[]⟩, .string ⟨#[]⟩, .string ⟨#[]⟩, .int .i64 0, .int .i64 0, .int .i64 0, .int .i64 0, .int .i64 0, .string ⟨#[]⟩, .int .i64 0, .int .i64 0, .int .i64 0, .int .i64 0, .int .i64 0, .string ⟨#[]⟩, .int .i64 0, .int .i64 0, .int .i64 0, .int .i64 0, .int .i64 0, .string ⟨#[]⟩, .int .i64 0, .int .i64 0, .int .i64 0, .int .i64 0, .int .i64 0, .string ⟨#[]⟩, .int .i64 0, .int .i64 0, .int .i64 0, .int .i64 0, .int .i64 0, .string ⟨#[]⟩, .int .i64 0, .int .i64 0, .int .i64 0, .int .i64 0, .int .i64 0, .string ⟨#[]⟩, .int .i64 0, .int .i64 0, .int .i64 0, .int .i64 0, .int .i64 0, .string ⟨#[]⟩, .int .i64 0, .int .i64 0, .int .i64 0, .int .i64 0, .int .i64 0] 42) := ⟨_, rfl⟩
 have hb0 : Below w.heap.size w W0 := by rw [hW0]; exact ((Below.refl _ _).alloc (Nat.le_refl _) _).alloc (by simp) _
 have hs0 : W0.heap.size = w.heap.size + 2 := by rw [hW0]; simp
 have HBX : Hid (∀ W, Below W0.heap.size W0 W → W.cell? ⟨w.heap.size, 7, none⟩ = some (.slice (h.A 7) (h.n 7) (h.c 7))) := Lib.hid (fun W hW => (hW.cell (p := ⟨w.heap.size, 7, none⟩) (by simp; omega)).trans (by rw [hW0]; simp [go_sem]))
 have HRX : Hid (∀ W, Below W0.heap.size W0 W → W.heap[w.heap.size + 1]? = some (.cells zeroOrder.toArray 42 (0, 0))) := Lib.hid (fun W hW => (hW.block _ (by omega)).trans (by
  rw [hW0]
  have := heap_alloc_new (w.alloc (.cells #[.slice (h.A 0) (h.n 0) (h.c 0), .slice (h.A 1) (h.n 1) (h.c 1), .slice (h.A 2) (h.n 2) (h.c 2), .slice (h.A 3) (h.n 3) (h.c 3), .slice (h.A 4) (h.n 4) (h.c 4), .slice (h.A 5) (h.n 5) (h.c 5), .slice (h.A 6) (h.n 6) (h.c 6), .slice (h.A 7) (h.n 7) (h.c 7), .slice (h.A 8) (h.n 8) (h.c 8), .slice (h.A 9) (h.n 9) (h.c 9), .slice (h.A 10) (h.n 10) (h.c 10), .slice (h.A 11) (h.n 11) (h.c 11), .slice (h.A 12) (h.n 12) (h.c 12), .slice (h.A 13) (h.n 13) (h.c 13), .int .i64 h.z] 37)) (.cells zeroOrder.toArray 42)
  simpa [zeroOrder] using this))
 have HFI : Hid (∀ W, Below W0.heap.size W0 W → Calls Tryz.prog 97 #[.agg #[tvOrder], .slice (h.A 7) (h.n 7) (h.c 7), .agg #[.string s, .string ⟨#[]⟩, .string ⟨#[]⟩, .int .i64 0, .int .i64 0, .int .i64 0, .int .i64 0, .int .i64 0, .string ⟨#[]⟩, .int .i64 0, .int .i64 0, .int .i64 0, .int .i64 0, .int .i64 0, .string ⟨#[]⟩, .int .i64 0, .int .i64 0, .int .i64 0, .int .i64 0, .int .i64 0, .string ⟨#[]⟩, .int .i64 0, .int .i64 0, .int .i64 0, .int .i64 0, .int .i64 0, .string ⟨#[]⟩, .int .i64 0, .int .i64 0, .int .i64 0, .int .i64 0, .int .i64 0, .string ⟨#[]⟩, .int .i64 0, .int .i64 0, .int .i64 0, .int .i64 0, .int .i64 0, .string ⟨#[]⟩, .int .i64 0, .int .i64 0, .int .i64 0, .int .i64 0, .int .i64 0, .string ⟨#[]⟩, .int .i64 0, .int .i64 0, .int .i64 0, .int .i64 0, .int .i64 0]] W fun e w' => e = .returned (firstV (atOrder L s)) ∧ Below W.heap.size W w') := Lib.hid (fun W hW =>
  findOrder (h.A 7) (h.n 7) (h.c 7) 111 #[] ordOrder (keyOrder s) L W hn hn6 hL (keyOrder_fits s) ((hr.below (hb0.trans (hW.mono (by omega)))).mono (hb0.trans (hW.mono (by omega))).size) (tellsOrder W))
 have HN := Lib.hid hn
 have HL := Lib.hid hL
 have HR := Lib.hid hr
 have HB0 := Lib.hid hb0
 have HS0 := Lib.hid hs0
 have H : Hid (Below W0.heap.size W0 W0.drew) := Lib.hid (Below.refl _ _).drew
 have hu := Tryz.underlying42
 have HSZ : Hid (∀ y, Fits kOrder y → (Tryz.prog.info? 42).map (·.size) = some y.toArray.size) := Lib.hid (fun y hy => by rw [show (Tryz.prog.info? 42).map (·.size) = some 50 from by kernel_rfl, List.size_toArray, hy.length]; rfl)
 clear hn hL hr hb0 hs0
 obtain ⟨o, ho⟩ : ∃ o, atOrder L s = o := ⟨_, rfl⟩
 rw [ho] at HFI ⊢
 have HO := Lib.hid ho
 clear ho
 cases o with
 | none =>
  rw [firstV_none] at HFI
  unfold Hs.val
  go_enter Tryz.func65, Tryz.ntmps65
  go_wp2_with fail
  rw [← hW0]
  clear hW0
  go_region_held3 (fun w' => w'.cell? ⟨w.heap.size, 7, none⟩ = some (.slice (h.A 7) (h.n 7) (h.c 7)))
   (first | exact HBX.out _ H.out)
   (first
    | (go_at_call 77; refine (tabOrder_any _).mono ?_; rintro e w' ⟨rfl, hb'⟩; have H := Lib.hid (H.out.trans (hb'.mono H.out.size)); clear hb')
    | (go_at_call 97; refine (HFI.out _ H.out).mono ?_; rintro e w' ⟨rfl, hb'⟩; have H := Lib.hid (H.out.trans (hb'.mono H.out.size)); clear hb'))
  have HRW := Lib.hid (HRX.out _ H.out)
  go_wp2_with (first
   | (refine wpList_store_row rfl 42 (.tmp 4) (.tmp 19) rfl (w.heap.size + 1) zeroOrder.toArray rfl rfl _ _ HRW.out (HSZ.out _ zeroOrder_fits) rfl (by simp [zeroOrder, Value.oneCell']) ?_)
   | fail)
  have HBE : Hid (Below w.heap.size w (w'.setRow (w.heap.size + 1) zeroOrder.toArray)) := Lib.hid (by
   have hb := HB0.out.trans (H.out.mono HB0.out.size)
   exact ⟨hb.os, hb.tape, hb.output, by simpa using hb.size, fun k hk => (setRow_other _ _ k _ (by omega)).trans (hb.block k hk)⟩)
  have HG : Hid (gotOrder L s = zeroOrder) := Lib.hid (by unfold gotOrder; rw [HO.out])
  exact bodyPost_ret (results_row_tmp rfl _ _ (w.heap.size + 1) _ _ _ _ rfl (setRow_heap _ _ _ _ _ _ HRW.out) hu rfl (HSZ.out _ zeroOrder_fits)) rfl ⟨by rw [HG.out]; rfl, HBE.out⟩
 | some i =>
  rw [firstV_some] at HFI
  have hl : i < L.length := Pl.firstG_lt HO.out
  have hin : i < h.n 7 := by rw [HN.out]; exact hl
  obtain ⟨b, off, hA, hb, hc⟩ := HR.out.thing HL.out (by decide) hl
  have HG : Hid (gotOrder L s = L[i]) := Lib.hid (by unfold gotOrder; rw [HO.out]; simp only []; rw [List.getD_eq_getElem?_getD, List.getElem?_eq_getElem hl]; rfl)
  have fx := HL.out _ (List.getElem_mem hl)
  have r1 := hc i hl
  rw [show kOrder.length = 50 from rfl] at r1
  obtain ⟨x, hx⟩ : ∃ x, L[i] = x := ⟨_, rfl⟩
  rw [hx] at fx r1 HG
  have HF := Lib.hid fx
  have HR1 : Hid (∀ W, Below W0.heap.size W0 W → W.rangeAt b (off + i * 50) x) := Lib.hid (fun W hW => rangeAt_below r1 hb (HB0.out.trans (hW.mono HB0.out.size)))
  have hlb : b < w.heap.size := hb
  have HIX : Hid ((Tryz.prog.info? 42).map (·.size) = some x.length) := Lib.hid (by have := HSZ.out x fx; rwa [List.size_toArray] at this)
  have HOZ : Hid (zeroOrder.toArray.size = x.toArray.size) := Lib.hid (by rw [List.size_toArray, List.size_toArray, fx.length]; rfl)
  have HOC : Hid (x.toArray.all (·.oneCell') = true) := Lib.hid (all_oneCell_toArray (fits_one fx))
  have h1 : (0 : Int) ≤ (i : Int) := by omega
  have h2 : (i : Int) < (h.n 7 : Int) := by omega
  rw [hA] at HBX HFI hW0
  unfold Hs.val
  rw [hA]
  clear hc r1 hx fx hb hA HR hl
  go_enter Tryz.func65, Tryz.ntmps65
  go_wp2_with fail
  rw [← hW0]
  clear hW0
  go_region_held3 (fun w' => w'.cell? ⟨w.heap.size, 7, none⟩ = some (.slice (some ⟨b, off, none⟩) (h.n 7) (h.c 7)))
   (first | exact HBX.out _ H.out)
   (first
    | (go_at_call 77; refine (tabOrder_any _).mono ?_; rintro e w' ⟨rfl, hb'⟩; have H := Lib.hid (H.out.trans (hb'.mono H.out.size)); clear hb')
    | (go_at_call 97; refine (HFI.out _ H.out).mono ?_; rintro e w' ⟨rfl, hb'⟩; have H := Lib.hid (H.out.trans (hb'.mono H.out.size)); clear hb'))
  have HRW := Lib.hid (HRX.out _ H.out)
  have HRM := Lib.hid (HR1.out _ H.out)
  have c0 := HBX.out _ H.out
  go_wp2_with (first
   | (refine wpList_load_mid rfl 42 (.tmp 23) rfl b (off + i * 50) rfl x _ HRM.out hu rfl HIX.out ?_)
   | (refine wpList_store_row rfl 42 (.tmp 4) (.tmp 24) rfl (w.heap.size + 1) x.toArray rfl rfl _ _ HRW.out (HSZ.out _ HF.out) HOZ.out HOC.out ?_)
   | fail)
  have HBE : Hid (Below w.heap.size w (w'.setRow (w.heap.size + 1) x.toArray)) := Lib.hid (by
   have hb := HB0.out.trans (H.out.mono HB0.out.size)
   exact ⟨hb.os, hb.tape, hb.output, by simpa using hb.size, fun k hk => (setRow_other _ _ k _ (by omega)).trans (hb.block k hk)⟩)
  exact bodyPost_ret (results_row_tmp rfl _ _ (w.heap.size + 1) _ _ _ _ rfl (setRow_heap _ _ _ _ _ _ HRW.out) hu rfl (HSZ.out _ HF.out)) rfl ⟨by rw [HG.out]; rfl, HBE.out⟩
theorem fcOrder {h : Hs} {L : Nat → List (List Value)} {w : World} (hh : HT h L w) (s : ByteArray) : Calls Tryz.prog 65 #[.agg h.cells, .string s] w fun e w' => e = .returned (.tuple #[.agg (gotOrder (L 7) s).toArray, .bool (atOrder (L 7) s).isSome]) ∧ Below w.heap.size w w' :=
 cfindOrder_any h (L 7) s w (hh 7 (by decide)).1 (hh 7 (by decide)).2.1 (hh 7 (by decide)).2.2.1 (hh 7 (by decide)).2.2.2
end Go.Proofs.YtlkmccmbpnbgbaaGreat
