/-
 CONTRACT of the table's Drop, for things of one kind. (By wip/tools/gen_table.py.)
 CONTRACTS of the code's table of api.Item, and of its Find. (By wip/tools/gen_onecode.py.) CONTRACTS of the code's table of api.Bin, and of its Find. (By wip/tools/gen_onecode.py.) CONTRACTS of the code's Load and Fits. (By wip/tools/gen_zcode.py; laid here by gen_vfit.py.) (By wip/tools/merge.py.) CONTRACTS of the code's findZone and Site. (Out of wip/layout, by wip/tools/gen_vfit.py.) CONTRACTS of slices.IndexFunc and slices.ContainsFunc over things. (By wip/tools/gen_has.py.) (By wip/tools/merge.py.)
 CONTRACT of the code's units.Base. (By wip/tools/port14c.py.)
-/
import Derived.Test.YtgbilfkjfeheaaaGreatKP
import Derived.Test.YtgbilfkjfeheaaaGreatGT
import Derived.Test.YtgbilfkjfeheaaaGreatOPl
import Derived.Test.YtgbilfkjfeheaaaGreatHHouse
import Derived.Deep.CutRange
import Derived.BigQuiet
namespace Go.Proofs.YtgbilfkjfeheaaaGreat
set_option linter.unusedVariables false
open Go.RowKit
open Pl (firstG firstG_none firstG_some findG overG putG dropG)

set_option maxRecDepth 100000 in
set_option maxHeartbeats 1600000 in
theorem dropQuant (A : Option Addr) (n c K : Nat) (cap : Array Value) (ord : List Value → List Value → Int) (x : List Value) (L : List (List Value)) (w : World) (hn : n = L.length) (hnc : n ≤ c) (hc : c ≤ 9223372036854775807) (hsz : n ≤ 1000000) (hL : Things kQuant L) (hx : Fits kQuant x)
 (hr : Rd w w.heap.size A L.flatten) (hO : TellsO kQuant w K cap ord) :
 Calls Tryz.prog 153 #[.agg #[.func (.func K) #[] cap], .slice A n c, .agg x.toArray] w (NewQuant w (dropG ord L x)) := by
 have hmf : ∀ (fn : Fn) (first cap : Array Value) (w : World), (Instr.makeFunc fn first cap).run Tryz.prog w = .ok (.func fn first cap) w := fun _ _ _ _ => rfl
 obtain ⟨i0, z0, hi0, hz0, hz1, hz2, hz3⟩ := info_thing (P := Tryz.prog) (T := 71) (sz := 6) (by kernel_rfl)
 have hu := Tryz.underlying71
 have HSZ : Hid ((Tryz.prog.info? 71).map (·.size) = some x.toArray.size) := Lib.hid (by rw [show (Tryz.prog.info? 71).map (·.size) = some 6 from by kernel_rfl, List.size_toArray, hx.length]; rfl)
 have HLN : Hid (x.length = 6) := Lib.hid (by rw [hx.length]; rfl)
 have HB := Lib.hid (tabW_below w K cap x 224 71)
 have HSB : Hid ((tabW w K cap x 224 71).heap.size = w.heap.size + 2) := Lib.hid (by simp)
 have hfind := findQuant A n c K cap ord x L _ hn (by omega) hL hx ((hr.below HB.out).mono HB.out.size) (hO.later HB.out)
 have HBX : Hid (∀ W, Below (w.heap.size + 2) (tabW w K cap x 224 71) W → W.heap[w.heap.size + 1]? = some (.cells x.toArray 71 (0, 0))) := Lib.hid (fun W h => tabW_row h)
 have HBX0 := Lib.hid (HBX.out _ (Below.refl _ _))
 have HN := Lib.hid hn
 have HR := Lib.hid hr
 have HL := Lib.hid hL
 have HX1 := Lib.hid (Things.one hx)
 have HBD : Hid (∀ W, Below (w.heap.size + 2) (tabW w K cap x 224 71) W → Below w.heap.size w W ∧ w.heap.size + 2 ≤ W.heap.size) := Lib.hid (fun W h => ⟨HB.out.trans (h.mono (by omega)), by have := h.size; rw [HSB.out] at this; exact this⟩)
 cases hF : findG ord L x with
 | some i =>
  have hi : i < L.length := Pl.firstG_lt hF
  rw [hF, firstV_some] at hfind
  have HP := Lib.hid (show dropG ord L x = L.take i ++ L.drop (i + 1) from by unfold dropG; rw [hF])
  have HF := Lib.hid hfind
  have hin : i < n := by omega
  clear hn hr hF hfind hL hx hO hz2 hz3
  go_enter Tryz.func153, Tryz.ntmps153
  go_wp2_with (first
   | (refine wpList_load_row rfl 71 (.tmp 5) rfl (w.heap.size + 1) rfl _ _ _ _ HBX0.out hu rfl HSZ.out ?_)
   | fail)
  refine HF.out.mono ?_
  rintro e w1 ⟨rfl, hb1⟩
  rw [HSB.out] at hb1
  have HX := Lib.hid (HBX.out _ hb1)
  obtain ⟨hb2, hs1⟩ := HBD.out _ hb1
  have B1 := Lib.hid hb2
  clear hb1 hb2
  have HSP : Hid (Calls Tryz.prog 188 #[.slice A n c, .int .i64 (i : Int), .int .i64 ((i + 1 : Nat) : Int), .slice none 0 0] w1 (NewQuant w (dropG ord L x))) := Lib.hid (by
   have B2 := B1.out
   refine (spliceQuant A none n c 0 0 i (i + 1) L [] _ HN.out rfl hnc hc (by omega) (by omega) hsz HL.out (fun e he => by simp at he) ((HR.out.below B2).mono B2.size) Rd.none_).mono ?_
   rintro e w2 ⟨A', c', rfl, hown, hb2⟩
   have hpe : L.take i ++ [] ++ L.drop (i + 1) = L.take i ++ L.drop (i + 1) := by simp
   refine ⟨A', _, c', ?_, rfl, ?_, B2.trans (hb2.mono B2.size)⟩
   · rw [HP.out]; simp only [List.length_append, List.length_take, List.length_drop]
     have := HN.out
     omega
   · rw [HP.out, ← hpe]; exact own_down hown B2.size)
  rw [show ((i + 1 : Nat) : Int) = (i : Int) + 1 from by omega] at HSP
  go_wp2_with fail
  refine HSP.out.mono ?_
  rintro e w2 ⟨A', n', c', hl, rfl, hown, hb2⟩
  have HO := Lib.hid hown
  have HLE := Lib.hid hl
  have B3 := Lib.hid hb2
  clear hb2 hown hl
  go_wp2_with fail
  go_ret
  exact ⟨A', n', c', HLE.out, rfl, HO.out, B3.out⟩
 | none =>
  rw [hF, firstV_none] at hfind
  have HP := Lib.hid (show dropG ord L x = L from by unfold dropG; rw [hF])
  have HF := Lib.hid hfind
  clear hn hr hF hfind hL hx hO hz2 hz3
  go_enter Tryz.func153, Tryz.ntmps153
  go_wp2_with (first
   | (refine wpList_load_row rfl 71 (.tmp 5) rfl (w.heap.size + 1) rfl _ _ _ _ HBX0.out hu rfl HSZ.out ?_)
   | fail)
  refine HF.out.mono ?_
  rintro e w1 ⟨rfl, hb1⟩
  rw [HSB.out] at hb1
  have HX := Lib.hid (HBX.out _ hb1)
  obtain ⟨hb2, hs1⟩ := HBD.out _ hb1
  have B1 := Lib.hid hb2
  clear hb1 hb2
  have HSP : Hid (Calls Tryz.prog 188 #[.slice A n c, .int .i64 0, .int .i64 0, .slice none 0 0] w1 (NewQuant w (dropG ord L x))) := Lib.hid (by
   have B2 := B1.out
   refine (spliceQuant A none n c 0 0 0 0 L [] _ HN.out rfl hnc hc (by omega) (by omega) hsz HL.out (fun e he => by simp at he) ((HR.out.below B2).mono B2.size) Rd.none_).mono ?_
   rintro e w2 ⟨A', c', rfl, hown, hb2⟩
   have hpe : L.take 0 ++ [] ++ L.drop 0 = L := by simp
   refine ⟨A', _, c', ?_, rfl, ?_, B2.trans (hb2.mono B2.size)⟩
   · rw [HP.out]; have := HN.out; omega
   · rw [HP.out, ← hpe]; exact own_down hown B2.size)
  go_wp2_with fail
  refine HSP.out.mono ?_
  rintro e w2 ⟨A', n', c', hl, rfl, hown, hb2⟩
  have HO := Lib.hid hown
  have HLE := Lib.hid hl
  have B3 := Lib.hid hb2
  clear hb2 hown hl
  go_wp2_with fail
  go_ret
  exact ⟨A', n', c', HLE.out, rfl, HO.out, B3.out⟩
end Go.Proofs.YtgbilfkjfeheaaaGreat

namespace Go.Proofs.YtgbilfkjfeheaaaGreat
set_option linter.unusedVariables false
open Go.RowKit
open Pl (firstG findG)

set_option maxRecDepth 100000 in
theorem cordItem (x y : List Value) (w : World) (hx : Fits kItem x) (hy : Fits kItem y) : Calls Tryz.prog 142 #[.agg x.toArray, .agg y.toArray] w fun e w' => e = .returned (.int .i64 (ordItem x y)) ∧ Below w.heap.size w w' := by
 obtain ⟨r, hxr⟩ := code_Item hx
 obtain ⟨q, hyr⟩ := code_Item hy
 have HB : Hid (Below w.heap.size w ((w.alloc (.cells x.toArray 87)).alloc (.cells y.toArray 87))) := Lib.hid (((Below.refl _ _).alloc (Nat.le_refl _) _).alloc (by simp) _)
 have c0 : ((w.alloc (.cells x.toArray 87)).alloc (.cells y.toArray 87)).cell? ⟨w.heap.size, 0, none⟩ = some (.string (codeOf x)) := by
  rw [cell_of_row _ w.heap.size 0 x.toArray 87 (0, 0) ((Below.heap_alloc _ _ _ (by simp)).trans (heap_alloc_new _ _))]
  rw [List.getElem?_toArray]
  rw [hxr]; rfl
 have c1 : ((w.alloc (.cells x.toArray 87)).alloc (.cells y.toArray 87)).cell? ⟨w.heap.size + 1, 0, none⟩ = some (.string (codeOf y)) := by
  have hh := heap_alloc_new (w.alloc (.cells x.toArray 87)) (.cells y.toArray 87)
  rw [cell_of_row _ (w.heap.size + 1) 0 y.toArray 87 (0, 0) (by simpa using hh)]
  rw [List.getElem?_toArray]
  rw [hyr]; rfl
 obtain ⟨s, hs⟩ : ∃ s, codeOf x = s := ⟨_, rfl⟩
 obtain ⟨t, ht⟩ : ∃ s, codeOf y = s := ⟨_, rfl⟩
 have HV : Hid (ordItem x y = Pl.cmp s t) := Lib.hid (by unfold ordItem; rw [hs, ht])
 rw [hs] at c0
 rw [ht] at c1
 clear hs ht hxr hyr hx hy
 go_enter Tryz.func142, Tryz.ntmps142
 go_wp2_with fail
 refine (compare_any s t _).mono ?_
 rintro e w' ⟨rfl, rfl⟩
 go_wp2_with fail
 go_ret
 exact ⟨by rw [HV.out]; rfl, HB.out⟩

theorem tellsItem (w : World) : TellsO kItem w 142 #[] ordItem := ⟨fun args W => by kernel_rfl, fun W _ a b ha hb => cordItem a b W ha hb⟩

/-- The table of items. -/
abbrev tvItem : Value := .func (.func 142) #[] #[]
attribute [local go_sem] store_func
theorem tabItem_any (w : World) : Calls Tryz.prog 100 #[] w fun e w' => e = .returned (.agg #[tvItem]) ∧ Below w.heap.size w w' := by
 go_enter Tryz.func100, Tryz.ntmps100
 go_wp2
 refine bodyPost_ret (v := .agg #[tvItem]) ?_ rfl ⟨rfl, ?_⟩
 · simp [results, Tryz.results100, go_sem]
 · exact (Below.refl _ _).alloc (Nat.le_refl _) _

set_option maxRecDepth 100000 in
set_option maxHeartbeats 1600000 in
theorem cfindItem_any (h : Hs) (L : List (List Value)) (s : ByteArray) (w : World) (hn : h.n 0 = L.length) (hn6 : h.n 0 ≤ 1000000) (hL : Things kItem L) (hr : Rd w w.heap.size (h.A 0) L.flatten) :
 Calls Tryz.prog 68 #[h.val, .string s] w fun e w' => e = .returned (.tuple #[.agg (gotItem L s).toArray, .bool (atItem L s).isSome]) ∧ Below w.heap.size w w' := by
 obtain ⟨W0, hW0⟩ : ∃ W0, W0 = (w.alloc (.cells #[.slice (h.A 0) (h.n 0) (h.c 0), .slice (h.A 1) (h.n 1) (h.c 1), .slice (h.A 2) (h.n 2) (h.c 2), .slice (h.A 3) (h.n 3) (h.c 3), .slice (h.A 4) (h.n 4) (h.c 4), .slice (h.A 5) (h.n 5) (h.c 5), .slice (h.A 6) (h.n 6) (h.c 6), .slice (h.A 7) (h.n 7) (h.c 7), .slice (h.A 8) (h.n 8) (h.c 8), .slice (h.A 9) (h.n 9) (h.c 9), .slice (h.A 10) (h.n 10) (h.c 10), .slice (h.A 11) (h.n 11) (h.c 11), .slice (h.A 12) (h.n 12) (h.c 12), .slice (h.A 13) (h.n 13) (h.c 13), .int .i64 h.z] 37)).alloc (.cells #[.string ⟨#[]⟩, .string ⟨#[]⟩, .int .i64 0, .string ⟨#[]⟩, .int .i64 0, .string ⟨#[]⟩, .int .i64 0, .string ⟨#[]⟩, .int .i64 0, .int .i64 0, .int .i64 0, .bool false, .bool false, .bool false] 87) := ⟨_, rfl⟩
 have hb0 : Below w.heap.size w W0 := by rw [hW0]; exact ((Below.refl _ _).alloc (Nat.le_refl _) _).alloc (by simp) _
 have hs0 : W0.heap.size = w.heap.size + 2 := by rw [hW0]; simp
 have HBX : Hid (∀ W, Below W0.heap.size W0 W → W.cell? ⟨w.heap.size, 0, none⟩ = some (.slice (h.A 0) (h.n 0) (h.c 0))) := Lib.hid (fun W hW => (hW.cell (p := ⟨w.heap.size, 0, none⟩) (by simp; omega)).trans (by rw [hW0]; simp [go_sem]))
 have HRX : Hid (∀ W, Below W0.heap.size W0 W → W.heap[w.heap.size + 1]? = some (.cells zeroItem.toArray 87 (0, 0))) := Lib.hid (fun W hW => (hW.block _ (by omega)).trans (by
  rw [hW0]
  have := heap_alloc_new (w.alloc (.cells #[.slice (h.A 0) (h.n 0) (h.c 0), .slice (h.A 1) (h.n 1) (h.c 1), .slice (h.A 2) (h.n 2) (h.c 2), .slice (h.A 3) (h.n 3) (h.c 3), .slice (h.A 4) (h.n 4) (h.c 4), .slice (h.A 5) (h.n 5) (h.c 5), .slice (h.A 6) (h.n 6) (h.c 6), .slice (h.A 7) (h.n 7) (h.c 7), .slice (h.A 8) (h.n 8) (h.c 8), .slice (h.A 9) (h.n 9) (h.c 9), .slice (h.A 10) (h.n 10) (h.c 10), .slice (h.A 11) (h.n 11) (h.c 11), .slice (h.A 12) (h.n 12) (h.c 12), .slice (h.A 13) (h.n 13) (h.c 13), .int .i64 h.z] 37)) (.cells zeroItem.toArray 87)
  simpa [zeroItem] using this))
 have HFI : Hid (∀ W, Below W0.heap.size W0 W → Calls Tryz.prog 101 #[.agg #[tvItem], .slice (h.A 0) (h.n 0) (h.c 0), .agg #[.string s, .string ⟨#[]⟩, .int .i64 0, .string ⟨#[]⟩, .int .i64 0, .string ⟨#[]⟩, .int .i64 0, .string ⟨#[]⟩, .int .i64 0, .int .i64 0, .int .i64 0, .bool false, .bool false, .bool false]] W fun e w' => e = .returned (firstV (atItem L s)) ∧ Below W.heap.size W w') := Lib.hid (fun W hW =>
  findItem (h.A 0) (h.n 0) (h.c 0) 142 #[] ordItem (keyItem s) L W hn hn6 hL (keyItem_fits s) ((hr.below (hb0.trans (hW.mono (by omega)))).mono (hb0.trans (hW.mono (by omega))).size) (tellsItem W))
 have HN := Lib.hid hn
 have HL := Lib.hid hL
 have HR := Lib.hid hr
 have HB0 := Lib.hid hb0
 have HS0 := Lib.hid hs0
 have H : Hid (Below W0.heap.size W0 W0.drew) := Lib.hid (Below.refl _ _).drew
 have hu := Tryz.underlying87
 have HSZ : Hid (∀ y, Fits kItem y → (Tryz.prog.info? 87).map (·.size) = some y.toArray.size) := Lib.hid (fun y hy => by rw [show (Tryz.prog.info? 87).map (·.size) = some 14 from by kernel_rfl, List.size_toArray, hy.length]; rfl)
 clear hn hL hr hb0 hs0
 obtain ⟨o, ho⟩ : ∃ o, atItem L s = o := ⟨_, rfl⟩
 rw [ho] at HFI ⊢
 have HO := Lib.hid ho
 clear ho
 cases o with
 | none =>
  rw [firstV_none] at HFI
  unfold Hs.val
  go_enter Tryz.func68, Tryz.ntmps68
  go_wp2_with fail
  rw [← hW0]
  clear hW0
  go_region_held3 (fun w' => w'.cell? ⟨w.heap.size, 0, none⟩ = some (.slice (h.A 0) (h.n 0) (h.c 0)))
   (first | exact HBX.out _ H.out)
   (first
    | (go_at_call 100; refine (tabItem_any _).mono ?_; rintro e w' ⟨rfl, hb'⟩; have H := Lib.hid (H.out.trans (hb'.mono H.out.size)); clear hb')
    | (go_at_call 101; refine (HFI.out _ H.out).mono ?_; rintro e w' ⟨rfl, hb'⟩; have H := Lib.hid (H.out.trans (hb'.mono H.out.size)); clear hb'))
  have HRW := Lib.hid (HRX.out _ H.out)
  go_wp2_with (first
   | (refine wpList_store_row rfl 87 (.tmp 4) (.tmp 19) rfl (w.heap.size + 1) zeroItem.toArray rfl rfl _ _ HRW.out (HSZ.out _ zeroItem_fits) rfl (by simp [zeroItem, Value.oneCell']) ?_)
   | fail)
  have HBE : Hid (Below w.heap.size w (w'.setRow (w.heap.size + 1) zeroItem.toArray)) := Lib.hid (by
   have hb := HB0.out.trans (H.out.mono HB0.out.size)
   exact ⟨hb.os, hb.tape, hb.output, by simpa using hb.size, fun k hk => (setRow_other _ _ k _ (by omega)).trans (hb.block k hk)⟩)
  have HG : Hid (gotItem L s = zeroItem) := Lib.hid (by unfold gotItem; rw [HO.out])
  exact bodyPost_ret (results_row_tmp rfl _ _ (w.heap.size + 1) _ _ _ _ rfl (setRow_heap _ _ _ _ _ _ HRW.out) hu rfl (HSZ.out _ zeroItem_fits)) rfl ⟨by rw [HG.out]; rfl, HBE.out⟩
 | some i =>
  rw [firstV_some] at HFI
  have hl : i < L.length := Pl.firstG_lt HO.out
  have hin : i < h.n 0 := by rw [HN.out]; exact hl
  obtain ⟨b, off, hA, hb, hc⟩ := HR.out.thing HL.out (by decide) hl
  have HG : Hid (gotItem L s = L[i]) := Lib.hid (by unfold gotItem; rw [HO.out]; simp only []; rw [List.getD_eq_getElem?_getD, List.getElem?_eq_getElem hl]; rfl)
  have fx := HL.out _ (List.getElem_mem hl)
  have r1 := hc i hl
  rw [show kItem.length = 14 from rfl] at r1
  obtain ⟨x, hx⟩ : ∃ x, L[i] = x := ⟨_, rfl⟩
  rw [hx] at fx r1 HG
  have HF := Lib.hid fx
  have HR1 : Hid (∀ W, Below W0.heap.size W0 W → W.rangeAt b (off + i * 14) x) := Lib.hid (fun W hW => rangeAt_below r1 hb (HB0.out.trans (hW.mono HB0.out.size)))
  have hlb : b < w.heap.size := hb
  have HIX : Hid ((Tryz.prog.info? 87).map (·.size) = some x.length) := Lib.hid (by have := HSZ.out x fx; rwa [List.size_toArray] at this)
  have HOZ : Hid (zeroItem.toArray.size = x.toArray.size) := Lib.hid (by rw [List.size_toArray, List.size_toArray, fx.length]; rfl)
  have HOC : Hid (x.toArray.all (·.oneCell') = true) := Lib.hid (all_oneCell_toArray (fits_one fx))
  have h1 : (0 : Int) ≤ (i : Int) := by omega
  have h2 : (i : Int) < (h.n 0 : Int) := by omega
  rw [hA] at HBX HFI hW0
  unfold Hs.val
  rw [hA]
  clear hc r1 hx fx hb hA HR hl
  go_enter Tryz.func68, Tryz.ntmps68
  go_wp2_with fail
  rw [← hW0]
  clear hW0
  go_region_held3 (fun w' => w'.cell? ⟨w.heap.size, 0, none⟩ = some (.slice (some ⟨b, off, none⟩) (h.n 0) (h.c 0)))
   (first | exact HBX.out _ H.out)
   (first
    | (go_at_call 100; refine (tabItem_any _).mono ?_; rintro e w' ⟨rfl, hb'⟩; have H := Lib.hid (H.out.trans (hb'.mono H.out.size)); clear hb')
    | (go_at_call 101; refine (HFI.out _ H.out).mono ?_; rintro e w' ⟨rfl, hb'⟩; have H := Lib.hid (H.out.trans (hb'.mono H.out.size)); clear hb'))
  have HRW := Lib.hid (HRX.out _ H.out)
  have HRM := Lib.hid (HR1.out _ H.out)
  have c0 := HBX.out _ H.out
  go_wp2_with (first
   | (refine wpList_load_mid rfl 87 (.tmp 23) rfl b (off + i * 14) rfl x _ HRM.out hu rfl HIX.out ?_)
   | (refine wpList_store_row rfl 87 (.tmp 4) (.tmp 24) rfl (w.heap.size + 1) x.toArray rfl rfl _ _ HRW.out (HSZ.out _ HF.out) HOZ.out HOC.out ?_)
   | fail)
  have HBE : Hid (Below w.heap.size w (w'.setRow (w.heap.size + 1) x.toArray)) := Lib.hid (by
   have hb := HB0.out.trans (H.out.mono HB0.out.size)
   exact ⟨hb.os, hb.tape, hb.output, by simpa using hb.size, fun k hk => (setRow_other _ _ k _ (by omega)).trans (hb.block k hk)⟩)
  exact bodyPost_ret (results_row_tmp rfl _ _ (w.heap.size + 1) _ _ _ _ rfl (setRow_heap _ _ _ _ _ _ HRW.out) hu rfl (HSZ.out _ HF.out)) rfl ⟨by rw [HG.out]; rfl, HBE.out⟩
end Go.Proofs.YtgbilfkjfeheaaaGreat

namespace Go.Proofs.YtgbilfkjfeheaaaGreat
set_option linter.unusedVariables false
open Go.RowKit
open Pl (firstG findG)

set_option maxRecDepth 100000 in
theorem cordBin (x y : List Value) (w : World) (hx : Fits kBin x) (hy : Fits kBin y) : Calls Tryz.prog 130 #[.agg x.toArray, .agg y.toArray] w fun e w' => e = .returned (.int .i64 (ordBin x y)) ∧ Below w.heap.size w w' := by
 obtain ⟨r, hxr⟩ := code_Bin hx
 obtain ⟨q, hyr⟩ := code_Bin hy
 have HB : Hid (Below w.heap.size w ((w.alloc (.cells x.toArray 64)).alloc (.cells y.toArray 64))) := Lib.hid (((Below.refl _ _).alloc (Nat.le_refl _) _).alloc (by simp) _)
 have c0 : ((w.alloc (.cells x.toArray 64)).alloc (.cells y.toArray 64)).cell? ⟨w.heap.size, 0, none⟩ = some (.string (codeOf x)) := by
  rw [cell_of_row _ w.heap.size 0 x.toArray 64 (0, 0) ((Below.heap_alloc _ _ _ (by simp)).trans (heap_alloc_new _ _))]
  rw [List.getElem?_toArray]
  rw [hxr]; rfl
 have c1 : ((w.alloc (.cells x.toArray 64)).alloc (.cells y.toArray 64)).cell? ⟨w.heap.size + 1, 0, none⟩ = some (.string (codeOf y)) := by
  have hh := heap_alloc_new (w.alloc (.cells x.toArray 64)) (.cells y.toArray 64)
  rw [cell_of_row _ (w.heap.size + 1) 0 y.toArray 64 (0, 0) (by simpa using hh)]
  rw [List.getElem?_toArray]
  rw [hyr]; rfl
 obtain ⟨s, hs⟩ : ∃ s, codeOf x = s := ⟨_, rfl⟩
 obtain ⟨t, ht⟩ : ∃ s, codeOf y = s := ⟨_, rfl⟩
 have HV : Hid (ordBin x y = Pl.cmp s t) := Lib.hid (by unfold ordBin; rw [hs, ht])
 rw [hs] at c0
 rw [ht] at c1
 clear hs ht hxr hyr hx hy
 go_enter Tryz.func130, Tryz.ntmps130
 go_wp2_with fail
 refine (compare_any s t _).mono ?_
 rintro e w' ⟨rfl, rfl⟩
 go_wp2_with fail
 go_ret
 exact ⟨by rw [HV.out]; rfl, HB.out⟩

theorem tellsBin (w : World) : TellsO kBin w 130 #[] ordBin := ⟨fun args W => by kernel_rfl, fun W _ a b ha hb => cordBin a b W ha hb⟩

/-- The table of items. -/
abbrev tvBin : Value := .func (.func 130) #[] #[]
attribute [local go_sem] store_func
theorem tabBin_any (w : World) : Calls Tryz.prog 88 #[] w fun e w' => e = .returned (.agg #[tvBin]) ∧ Below w.heap.size w w' := by
 go_enter Tryz.func88, Tryz.ntmps88
 go_wp2
 refine bodyPost_ret (v := .agg #[tvBin]) ?_ rfl ⟨rfl, ?_⟩
 · simp [results, Tryz.results88, go_sem]
 · exact (Below.refl _ _).alloc (Nat.le_refl _) _

set_option maxRecDepth 100000 in
set_option maxHeartbeats 1600000 in
theorem cfindBin_any (h : Hs) (L : List (List Value)) (s : ByteArray) (w : World) (hn : h.n 3 = L.length) (hn6 : h.n 3 ≤ 1000000) (hL : Things kBin L) (hr : Rd w w.heap.size (h.A 3) L.flatten) :
 Calls Tryz.prog 24 #[h.val, .string s] w fun e w' => e = .returned (.tuple #[.agg (gotBin L s).toArray, .bool (atBin L s).isSome]) ∧ Below w.heap.size w w' := by
 obtain ⟨W0, hW0⟩ : ∃ W0, W0 = (w.alloc (.cells #[.slice (h.A 0) (h.n 0) (h.c 0), .slice (h.A 1) (h.n 1) (h.c 1), .slice (h.A 2) (h.n 2) (h.c 2), .slice (h.A 3) (h.n 3) (h.c 3), .slice (h.A 4) (h.n 4) (h.c 4), .slice (h.A 5) (h.n 5) (h.c 5), .slice (h.A 6) (h.n 6) (h.c 6), .slice (h.A 7) (h.n 7) (h.c 7), .slice (h.A 8) (h.n 8) (h.c 8), .slice (h.A 9) (h.n 9) (h.c 9), .slice (h.A 10) (h.n 10) (h.c 10), .slice (h.A 11) (h.n 11) (h.c 11), .slice (h.A 12) (h.n 12) (h.c 12), .slice (h.A 13) (h.n 13) (h.c 13), .int .i64 h.z] 37)).alloc (.cells #[.string ⟨#[]⟩, .string ⟨#[]⟩, .int .i64 0, .int .i64 0, .int .i64 0, .int .i64 0, .int .i64 0, .bool false] 64) := ⟨_, rfl⟩
 have hb0 : Below w.heap.size w W0 := by rw [hW0]; exact ((Below.refl _ _).alloc (Nat.le_refl _) _).alloc (by simp) _
 have hs0 : W0.heap.size = w.heap.size + 2 := by rw [hW0]; simp
 have HBX : Hid (∀ W, Below W0.heap.size W0 W → W.cell? ⟨w.heap.size, 3, none⟩ = some (.slice (h.A 3) (h.n 3) (h.c 3))) := Lib.hid (fun W hW => (hW.cell (p := ⟨w.heap.size, 3, none⟩) (by simp; omega)).trans (by rw [hW0]; simp [go_sem]))
 have HRX : Hid (∀ W, Below W0.heap.size W0 W → W.heap[w.heap.size + 1]? = some (.cells zeroBin.toArray 64 (0, 0))) := Lib.hid (fun W hW => (hW.block _ (by omega)).trans (by
  rw [hW0]
  have := heap_alloc_new (w.alloc (.cells #[.slice (h.A 0) (h.n 0) (h.c 0), .slice (h.A 1) (h.n 1) (h.c 1), .slice (h.A 2) (h.n 2) (h.c 2), .slice (h.A 3) (h.n 3) (h.c 3), .slice (h.A 4) (h.n 4) (h.c 4), .slice (h.A 5) (h.n 5) (h.c 5), .slice (h.A 6) (h.n 6) (h.c 6), .slice (h.A 7) (h.n 7) (h.c 7), .slice (h.A 8) (h.n 8) (h.c 8), .slice (h.A 9) (h.n 9) (h.c 9), .slice (h.A 10) (h.n 10) (h.c 10), .slice (h.A 11) (h.n 11) (h.c 11), .slice (h.A 12) (h.n 12) (h.c 12), .slice (h.A 13) (h.n 13) (h.c 13), .int .i64 h.z] 37)) (.cells zeroBin.toArray 64)
  simpa [zeroBin] using this))
 have HFI : Hid (∀ W, Below W0.heap.size W0 W → Calls Tryz.prog 89 #[.agg #[tvBin], .slice (h.A 3) (h.n 3) (h.c 3), .agg #[.string s, .string ⟨#[]⟩, .int .i64 0, .int .i64 0, .int .i64 0, .int .i64 0, .int .i64 0, .bool false]] W fun e w' => e = .returned (firstV (atBin L s)) ∧ Below W.heap.size W w') := Lib.hid (fun W hW =>
  findBin (h.A 3) (h.n 3) (h.c 3) 130 #[] ordBin (keyBin s) L W hn hn6 hL (keyBin_fits s) ((hr.below (hb0.trans (hW.mono (by omega)))).mono (hb0.trans (hW.mono (by omega))).size) (tellsBin W))
 have HN := Lib.hid hn
 have HL := Lib.hid hL
 have HR := Lib.hid hr
 have HB0 := Lib.hid hb0
 have HS0 := Lib.hid hs0
 have H : Hid (Below W0.heap.size W0 W0.drew) := Lib.hid (Below.refl _ _).drew
 have hu := Tryz.underlying64
 have HSZ : Hid (∀ y, Fits kBin y → (Tryz.prog.info? 64).map (·.size) = some y.toArray.size) := Lib.hid (fun y hy => by rw [show (Tryz.prog.info? 64).map (·.size) = some 8 from by kernel_rfl, List.size_toArray, hy.length]; rfl)
 clear hn hL hr hb0 hs0
 obtain ⟨o, ho⟩ : ∃ o, atBin L s = o := ⟨_, rfl⟩
 rw [ho] at HFI ⊢
 have HO := Lib.hid ho
 clear ho
 cases o with
 | none =>
  rw [firstV_none] at HFI
  unfold Hs.val
  go_enter Tryz.func24, Tryz.ntmps24
  go_wp2_with fail
  rw [← hW0]
  clear hW0
  go_region_held3 (fun w' => w'.cell? ⟨w.heap.size, 3, none⟩ = some (.slice (h.A 3) (h.n 3) (h.c 3)))
   (first | exact HBX.out _ H.out)
   (first
    | (go_at_call 88; refine (tabBin_any _).mono ?_; rintro e w' ⟨rfl, hb'⟩; have H := Lib.hid (H.out.trans (hb'.mono H.out.size)); clear hb')
    | (go_at_call 89; refine (HFI.out _ H.out).mono ?_; rintro e w' ⟨rfl, hb'⟩; have H := Lib.hid (H.out.trans (hb'.mono H.out.size)); clear hb'))
  have HRW := Lib.hid (HRX.out _ H.out)
  go_wp2_with (first
   | (refine wpList_store_row rfl 64 (.tmp 4) (.tmp 19) rfl (w.heap.size + 1) zeroBin.toArray rfl rfl _ _ HRW.out (HSZ.out _ zeroBin_fits) rfl (by simp [zeroBin, Value.oneCell']) ?_)
   | fail)
  have HBE : Hid (Below w.heap.size w (w'.setRow (w.heap.size + 1) zeroBin.toArray)) := Lib.hid (by
   have hb := HB0.out.trans (H.out.mono HB0.out.size)
   exact ⟨hb.os, hb.tape, hb.output, by simpa using hb.size, fun k hk => (setRow_other _ _ k _ (by omega)).trans (hb.block k hk)⟩)
  have HG : Hid (gotBin L s = zeroBin) := Lib.hid (by unfold gotBin; rw [HO.out])
  exact bodyPost_ret (results_row_tmp rfl _ _ (w.heap.size + 1) _ _ _ _ rfl (setRow_heap _ _ _ _ _ _ HRW.out) hu rfl (HSZ.out _ zeroBin_fits)) rfl ⟨by rw [HG.out]; rfl, HBE.out⟩
 | some i =>
  rw [firstV_some] at HFI
  have hl : i < L.length := Pl.firstG_lt HO.out
  have hin : i < h.n 3 := by rw [HN.out]; exact hl
  obtain ⟨b, off, hA, hb, hc⟩ := HR.out.thing HL.out (by decide) hl
  have HG : Hid (gotBin L s = L[i]) := Lib.hid (by unfold gotBin; rw [HO.out]; simp only []; rw [List.getD_eq_getElem?_getD, List.getElem?_eq_getElem hl]; rfl)
  have fx := HL.out _ (List.getElem_mem hl)
  have r1 := hc i hl
  rw [show kBin.length = 8 from rfl] at r1
  obtain ⟨x, hx⟩ : ∃ x, L[i] = x := ⟨_, rfl⟩
  rw [hx] at fx r1 HG
  have HF := Lib.hid fx
  have HR1 : Hid (∀ W, Below W0.heap.size W0 W → W.rangeAt b (off + i * 8) x) := Lib.hid (fun W hW => rangeAt_below r1 hb (HB0.out.trans (hW.mono HB0.out.size)))
  have hlb : b < w.heap.size := hb
  have HIX : Hid ((Tryz.prog.info? 64).map (·.size) = some x.length) := Lib.hid (by have := HSZ.out x fx; rwa [List.size_toArray] at this)
  have HOZ : Hid (zeroBin.toArray.size = x.toArray.size) := Lib.hid (by rw [List.size_toArray, List.size_toArray, fx.length]; rfl)
  have HOC : Hid (x.toArray.all (·.oneCell') = true) := Lib.hid (all_oneCell_toArray (fits_one fx))
  have h1 : (0 : Int) ≤ (i : Int) := by omega
  have h2 : (i : Int) < (h.n 3 : Int) := by omega
  rw [hA] at HBX HFI hW0
  unfold Hs.val
  rw [hA]
  clear hc r1 hx fx hb hA HR hl
  go_enter Tryz.func24, Tryz.ntmps24
  go_wp2_with fail
  rw [← hW0]
  clear hW0
  go_region_held3 (fun w' => w'.cell? ⟨w.heap.size, 3, none⟩ = some (.slice (some ⟨b, off, none⟩) (h.n 3) (h.c 3)))
   (first | exact HBX.out _ H.out)
   (first
    | (go_at_call 88; refine (tabBin_any _).mono ?_; rintro e w' ⟨rfl, hb'⟩; have H := Lib.hid (H.out.trans (hb'.mono H.out.size)); clear hb')
    | (go_at_call 89; refine (HFI.out _ H.out).mono ?_; rintro e w' ⟨rfl, hb'⟩; have H := Lib.hid (H.out.trans (hb'.mono H.out.size)); clear hb'))
  have HRW := Lib.hid (HRX.out _ H.out)
  have HRM := Lib.hid (HR1.out _ H.out)
  have c0 := HBX.out _ H.out
  go_wp2_with (first
   | (refine wpList_load_mid rfl 64 (.tmp 23) rfl b (off + i * 8) rfl x _ HRM.out hu rfl HIX.out ?_)
   | (refine wpList_store_row rfl 64 (.tmp 4) (.tmp 24) rfl (w.heap.size + 1) x.toArray rfl rfl _ _ HRW.out (HSZ.out _ HF.out) HOZ.out HOC.out ?_)
   | fail)
  have HBE : Hid (Below w.heap.size w (w'.setRow (w.heap.size + 1) x.toArray)) := Lib.hid (by
   have hb := HB0.out.trans (H.out.mono HB0.out.size)
   exact ⟨hb.os, hb.tape, hb.output, by simpa using hb.size, fun k hk => (setRow_other _ _ k _ (by omega)).trans (hb.block k hk)⟩)
  exact bodyPost_ret (results_row_tmp rfl _ _ (w.heap.size + 1) _ _ _ _ rfl (setRow_heap _ _ _ _ _ _ HRW.out) hu rfl (HSZ.out _ HF.out)) rfl ⟨by rw [HG.out]; rfl, HBE.out⟩
end Go.Proofs.YtgbilfkjfeheaaaGreat

namespace Go.Proofs.YtgbilfkjfeheaaaGreat
set_option linter.unusedVariables false
open Go.RowKit
open Pl (firstG findG putG It)

theorem fcItem {h : Hs} {L : Nat → List (List Value)} {w : World} (hh : HT h L w) (s : ByteArray) : Calls Tryz.prog 68 #[.agg h.cells, .string s] w fun e w' => e = .returned (.tuple #[.agg (gotItem (L 0) s).toArray, .bool (atItem (L 0) s).isSome]) ∧ Below w.heap.size w w' :=
 cfindItem_any h (L 0) s w (hh 0 (by decide)).1 (hh 0 (by decide)).2.1 (hh 0 (by decide)).2.2.1 (hh 0 (by decide)).2.2.2
theorem fcBin {h : Hs} {L : Nat → List (List Value)} {w : World} (hh : HT h L w) (s : ByteArray) : Calls Tryz.prog 24 #[.agg h.cells, .string s] w fun e w' => e = .returned (.tuple #[.agg (gotBin (L 3) s).toArray, .bool (atBin (L 3) s).isSome]) ∧ Below w.heap.size w w' :=
 cfindBin_any h (L 3) s w (hh 3 (by decide)).1 (hh 3 (by decide)).2.1 (hh 3 (by decide)).2.2.1 (hh 3 (by decide)).2.2.2
theorem wrap0 : wrap64 0 = 0 := by unfold wrap64; omega
theorem wrap_wrap (z : Int) : wrap64 (wrap64 z) = wrap64 z := by unfold wrap64; omega
theorem loadP_wf (LI LQ : List (List Value)) (s : ByteArray) : wrap64 (loadP LI LQ s).1 = (loadP LI LQ s).1 ∧ wrap64 (loadP LI LQ s).2 = (loadP LI LQ s).2 := by
 unfold loadP
 have : ∀ (l : List (List Value)) (p : Int × Int), (wrap64 p.1 = p.1 ∧ wrap64 p.2 = p.2) → (wrap64 (l.foldl (loadQ LI s) p).1 = (l.foldl (loadQ LI s) p).1 ∧ wrap64 (l.foldl (loadQ LI s) p).2 = (l.foldl (loadQ LI s) p).2) := by
  intro l
  induction l with
  | nil => exact fun p h => h
  | cons q l ih =>
   intro p h
   rw [List.foldl_cons]
   refine ih _ ?_
   unfold loadQ
   split
   · exact ⟨wrap_wrap _, wrap_wrap _⟩
   · exact h
 exact this LQ (0, 0) ⟨wrap0, wrap0⟩
/-- One quant more: what the house knows no measures of has none. -/
theorem loadC_snoc (LI LQ : List (List Value)) (s : ByteArray) (k : Nat) (hk : k < LQ.length) : loadP LI (LQ.take (k + 1)) s =
 if Pl.eqv (qnOf LQ[k]).bin s = true then (wrap64 ((loadP LI (LQ.take k) s).1 + wrap64 ((qnOf LQ[k]).qty * (itOf (gotItem LI (qnOf LQ[k]).item)).vol)), wrap64 ((loadP LI (LQ.take k) s).2 + wrap64 ((qnOf LQ[k]).qty * (itOf (gotItem LI (qnOf LQ[k]).item)).wei))) else loadP LI (LQ.take k) s := by
 rw [loadP_snoc _ _ _ _ hk]
 unfold loadQ
 cases he : Pl.eqv (qnOf LQ[k]).bin s with
 | false => simp
 | true =>
  cases hi : (atItem LI (qnOf LQ[k]).item).isSome with
  | true => simp
  | false =>
   rw [gotItem_none hi]
   have h0 := loadP_wf LI (LQ.take k) s
   have hz : (itOf zeroItem).vol = 0 ∧ (itOf zeroItem).wei = 0 := ⟨rfl, rfl⟩
   rw [hz.1, hz.2, Int.mul_zero, show wrap64 0 = 0 from wrap0, Int.add_zero, Int.add_zero, h0.1, h0.2]
   simp
/-- A quant at its place. -/
theorem cquant_at {h : Hs} {L : Nat → List (List Value)} {w : World} (hh : HT h L w) {k : Nat} (hk : k < (L 4).length) : ∃ b off, h.A 4 = some ⟨b, off, none⟩ ∧ b < w.heap.size ∧ w.rangeAt b (off + k * 6) (qnOf (L 4)[k]).cells := by
 obtain ⟨b, off, hA, hb, hc⟩ := (hh 4 (by decide)).2.2.2.thing (hh 4 (by decide)).2.2.1 (by decide) hk
 have := hc k hk
 rw [show (kOf 4).length = 6 from rfl] at this
 exact ⟨b, off, hA, hb, by rw [← qn_cells ((hh 4 (by decide)).2.2.1 _ (List.getElem_mem hk))]; exact this⟩
set_option maxRecDepth 100000 in
set_option maxHeartbeats 3200000 in
theorem cload_any (h : Hs) (L : Nat → List (List Value)) (s : ByteArray) (w : World) (hh : HT h L w) :
 Calls Tryz.prog 149 #[.agg h.cells, .string s] w fun e w' => e = .returned (.tuple #[.int .i64 (loadP (L 0) (L 4) s).1, .int .i64 (loadP (L 0) (L 4) s).2]) ∧ Below w.heap.size w w' := by
 have HHT := Lib.hid hh
 have hn9 := (hh 4 (by decide)).2.1
 obtain ⟨m, hmm⟩ : ∃ m, h.n 4 = m := ⟨_, rfl⟩
 have HNM : Hid (m = (L 4).length) := Lib.hid (by rw [← hmm]; exact (hh 4 (by decide)).1)
 rw [hmm] at hn9
 have HMM := Lib.hid hmm
 obtain ⟨r, hr⟩ : ∃ r, loadP (L 0) (L 4) s = r := ⟨_, rfl⟩
 rw [hr]
 have HR := Lib.hid hr
 clear hr hmm
 obtain ⟨W0, hW0⟩ : ∃ W0, W0 = (w.alloc (.cells h.cells 37)) := ⟨_, rfl⟩
 have hb0 : Below w.heap.size w W0 := by rw [hW0]; exact (Below.refl _ _).alloc (Nat.le_refl _) _
 have hs0 : W0.heap.size = w.heap.size + 1 := by rw [hW0]; simp
 have HH : Hid (∀ W, Below W0.heap.size W0 W → W.heap[w.heap.size]? = some (.cells h.cells 37 (0, 0))) := Lib.hid (fun W hW => (hW.block _ (by omega)).trans (by
  rw [hW0]
  have hq := heap_alloc_new w (.cells h.cells 37)
  exact (by simpa using hq)))
 have HBW : Hid (∀ W, Below W0.heap.size W0 W → Below w.heap.size w W ∧ w.heap.size + 1 ≤ W.heap.size) := Lib.hid (fun W hW => ⟨hb0.trans (hW.mono (by omega)), by have := hW.size; omega⟩)
 have huh := Tryz.underlying37
 have HSH : Hid (∀ a : Hs, (Tryz.prog.info? 37).map (·.size) = some a.cells.size) := Lib.hid (fun a => by kernel_rfl)
 have HL4 : Hid (∀ W, Below W0.heap.size W0 W → W.cell? ⟨w.heap.size, 4, none⟩ = some (.slice (h.A 4) m (h.c 4)) ∧ w.heap.size < W.heap.size) := Lib.hid (fun W hW => ⟨by rw [cell_of_block (HH.out W hW), ← HMM.out]; rfl, by have := hW.size; omega⟩)
 have HSQ6 : Hid ((Tryz.prog.info? 71).map (·.size) = some 6) := Lib.hid (by kernel_rfl)
 have huq := Tryz.underlying71
 have H0 := Lib.hid (Below.refl W0.heap.size W0)
 clear hb0 hs0 hh
 subst hW0
 go_enter Tryz.func149, Tryz.ntmps149
 obtain ⟨d4, dlt⟩ := HL4.out _ H0.out
 go_wp2_with fail
 clear d4 dlt
 go_loopw [6, 7, 15] (fun v u i wr => ∃ (k : Nat) (va vb : Int), k ≤ m ∧ v = .int .i64 va ∧ u = .int .i64 vb ∧ i = .int .i64 (k : Int) ∧ Hid (loadP (L 0) ((L 4).take k) s = (va, vb)) ∧ Hid (Below (w.alloc (.cells h.cells 37)).heap.size (w.alloc (.cells h.cells 37)) wr)) (fun _ _ i _ => m - (intOf i).toNat)
 case atStart => exact ⟨0, 0, 0, by omega, rfl, rfl, rfl, Lib.hid rfl, H0⟩
 case round =>
  obtain ⟨k, va, vb, hk, rfl, rfl, rfl, hv, hw⟩ := hrel
  by_cases hlt : k < m
  · have hkl : k < (L 4).length := by rw [← HNM.out]; exact hlt
    have HTR : HT h L wr := HHT.out.below (HBW.out _ hw.out).1
    obtain ⟨b, off, hA, hb, r1⟩ := cquant_at HTR hkl
    have hsn := loadC_snoc (L 0) (L 4) s k hkl
    rw [hv.out] at hsn
    obtain ⟨q, hq⟩ : ∃ q, qnOf (L 4)[k] = q := ⟨_, rfl⟩
    rw [hq] at r1 hsn
    obtain ⟨qb, qi, ql, qs, qq, qh⟩ := q
    simp only [] at hsn
    have HRE : Hid (wr.rangeAt b (off + k * 6) [.string qb, .string qi, .string ql, .int .i64 qs, .int .i64 qq, .int .i64 qh]) := Lib.hid r1
    obtain ⟨x, hx, hxo⟩ := item_it HTR qi
    obtain ⟨is, his⟩ : ∃ z, (atItem (L 0) qi).isSome = z := ⟨_, rfl⟩
    rw [hxo] at hsn
    have HSN := Lib.hid hsn
    have CF : Hid (∀ W, HT h L W → Calls Tryz.prog 68 #[.agg h.cells, .string qi] W fun e w' => e = .returned (.tuple #[.agg #[.string x.code, .string (x.nm 0), .int .i64 (x.fc 0), .string (x.nm 1), .int .i64 (x.fc 1), .string (x.nm 2), .int .i64 (x.fc 2), .string (x.nm 3), .int .i64 (x.fc 3), .int .i64 x.vol, .int .i64 x.wei, .bool x.lots, .bool x.serial, .bool x.chk], .bool is]) ∧ Below W.heap.size W w') := Lib.hid (fun W hW => by have := fcItem hW qi; rw [hx, his] at this; exact this)
    obtain ⟨w1, hw1⟩ : ∃ w1, w1 = wr.alloc (.cells #[.string qb, .string qi, .string ql, .int .i64 qs, .int .i64 qq, .int .i64 qh] 71) := ⟨_, rfl⟩
    have hb1 : Below wr.heap.size wr w1 := by rw [hw1]; exact (Below.refl _ _).alloc (Nat.le_refl _) _
    have HX1 : Hid (w1.heap[wr.heap.size]? = some (.cells #[.string qb, .string qi, .string ql, .int .i64 qs, .int .i64 qq, .int .i64 qh] 71 (0, 0))) := Lib.hid (by rw [hw1]; exact heap_alloc_new _ _)
    have HW1 := Lib.hid hw1
    have HB1 := Lib.hid (hw.out.trans (hb1.mono hw.out.size))
    have HT1 := Lib.hid (HTR.below hb1)
    have h1 : (0 : Int) ≤ (k : Int) := by omega
    have h2 : (k : Int) < (m : Int) := by omega
    rw [hA]
    clear hw1 hb1 r1 hq hx hxo his hsn hkl HTR hA hb
    have hbx := HW1.out ▸ HH.out _ HB1.out
    have e0 : w1.cell? ⟨wr.heap.size, 0, none⟩ = some (.string qb) := by rw [cell_of_block HX1.out]; rfl
    have e1 : w1.cell? ⟨wr.heap.size, 1, none⟩ = some (.string qi) := by rw [cell_of_block HX1.out]; rfl
    have elt : wr.heap.size < w1.heap.size := lt_of_block HX1.out
    rw [HW1.out] at e0 e1 elt
    cases he : Pl.eqv qb s with
    | false =>
     have he' : (qb.toList == s.toList) = false := he
     have HV : Hid (loadP (L 0) ((L 4).take (k + 1)) s = (va, vb)) := Lib.hid (by rw [HSN.out, he]; rfl)
     clear he
     go_wp2_with (first
      | (refine wpList_load_mid rfl 71 (.tmp 17) rfl b (off + k * 6) rfl [.string qb, .string qi, .string ql, .int .i64 qs, .int .i64 qq, .int .i64 qh] _ HRE.out huq rfl HSQ6.out ?_)
      | fail)
     go_roundw
     case rel => rw [← HW1.out]; exact ⟨k + 1, va, vb, by omega, rfl, rfl, by go_num, HV, HB1⟩
     case measure => simp [intOf]; omega
    | true =>
     have he' : (qb.toList == s.toList) = true := he
     have HV : Hid (loadP (L 0) ((L 4).take (k + 1)) s = ((wrap64 (va + wrap64 (qq * x.vol))), (wrap64 (vb + wrap64 (qq * x.wei))))) := Lib.hid (by rw [HSN.out, he]; rfl)
     clear he
     go_wp2_with (first
      | (refine wpList_load_mid rfl 71 (.tmp 17) rfl b (off + k * 6) rfl [.string qb, .string qi, .string ql, .int .i64 qs, .int .i64 qq, .int .i64 qh] _ HRE.out huq rfl HSQ6.out ?_)
      | (refine wpList_load_row rfl 37 (.tmp 2) rfl w.heap.size rfl _ _ _ _ hbx huh rfl (HSH.out _) ?_)
      | fail)
     rw [← HW1.out]
     refine (CF.out _ HT1.out).mono ?_
     rintro e w2 ⟨rfl, hb2⟩
     have HB2 := Lib.hid (HB1.out.trans (hb2.mono HB1.out.size))
     have HX2 := Lib.hid ((hb2.block _ (lt_of_block HX1.out)).trans HX1.out)
     obtain ⟨w3, hw3⟩ : ∃ w3, w3 = w2.alloc (.cells #[.string x.code, .string (x.nm 0), .int .i64 (x.fc 0), .string (x.nm 1), .int .i64 (x.fc 1), .string (x.nm 2), .int .i64 (x.fc 2), .string (x.nm 3), .int .i64 (x.fc 3), .int .i64 x.vol, .int .i64 x.wei, .bool x.lots, .bool x.serial, .bool x.chk] 87) := ⟨_, rfl⟩
     have HB3 : Hid (Below _ _ w3) := Lib.hid (hw3 ▸ HB2.out.alloc HB2.out.size _)
     have HX3 : Hid (w3.heap[wr.heap.size]? = some (.cells #[.string qb, .string qi, .string ql, .int .i64 qs, .int .i64 qq, .int .i64 qh] 71 (0, 0))) := Lib.hid (by rw [hw3]; exact (Below.heap_alloc _ _ _ (lt_of_block HX2.out)).trans HX2.out)
     have HY3 : Hid (w3.heap[w2.heap.size]? = some (.cells #[.string x.code, .string (x.nm 0), .int .i64 (x.fc 0), .string (x.nm 1), .int .i64 (x.fc 1), .string (x.nm 2), .int .i64 (x.fc 2), .string (x.nm 3), .int .i64 (x.fc 3), .int .i64 x.vol, .int .i64 x.wei, .bool x.lots, .bool x.serial, .bool x.chk] 87 (0, 0))) := Lib.hid (by rw [hw3]; exact heap_alloc_new _ _)
     have HW3 := Lib.hid hw3
     clear hw3 hb2 hbx e0 e1 elt
     go_upto_region 7 with fail
     rw [← HW3.out]
     have y0 : w3.cell? ⟨wr.heap.size, 0, none⟩ = some (.string qb) := by rw [cell_of_block HX3.out]; rfl
     have y4 : w3.cell? ⟨wr.heap.size, 4, none⟩ = some (.int .i64 qq) := by rw [cell_of_block HX3.out]; rfl
     have ylt : wr.heap.size < w3.heap.size := lt_of_block HX3.out
     have z9 : w3.cell? ⟨w2.heap.size, 9, none⟩ = some (.int .i64 x.vol) := by rw [cell_of_block HY3.out]; rfl
     have z10 : w3.cell? ⟨w2.heap.size, 10, none⟩ = some (.int .i64 x.wei) := by rw [cell_of_block HY3.out]; rfl
     have zlt : w2.heap.size < w3.heap.size := lt_of_block HY3.out
     go_wp2_with fail
     go_roundw
     case rel => exact ⟨k + 1, (wrap64 (va + wrap64 (qq * x.vol))), (wrap64 (vb + wrap64 (qq * x.wei))), by omega, rfl, rfl, by go_num, HV, HB3⟩
     case measure => simp [intOf]; omega
  · have hkm : k = m := by omega
    have HV : Hid ((va, vb) = r) := Lib.hid (by rw [← hv.out, ← HR.out, List.take_of_length_le (by rw [← HNM.out]; omega)])
    go_wp2_with fail
    go_ret2
    exact ⟨by rw [← HV.out]; rfl, (HBW.out _ hw.out).1⟩

set_option maxRecDepth 100000 in
set_option maxHeartbeats 3200000 in
theorem cholds_any (xc xz : ByteArray) (kd ai pl vo we : Int) (fz : Bool) (v u : Int) (w : World) :
 Calls Tryz.prog 150 #[.agg #[.string xc, .string xz, .int .i64 kd, .int .i64 ai, .int .i64 pl, .int .i64 vo, .int .i64 we, .bool fz], .int .i64 v, .int .i64 u] w fun e w' => e = .returned (.bool (decide (v ≤ vo) && decide (u ≤ we))) ∧ Below w.heap.size w w' := by
 have HB := Lib.hid ((Below.refl _ w).alloc (Nat.le_refl _) (.cells #[.string xc, .string xz, .int .i64 kd, .int .i64 ai, .int .i64 pl, .int .i64 vo, .int .i64 we, .bool fz] 64))
 by_cases q1 : v ≤ vo
 · by_cases q2 : u ≤ we
   · go_enter Tryz.func150, Tryz.ntmps150
     go_wp2_with fail
     go_ret
     exact ⟨by simp [q2]; omega, HB.out⟩
   · go_enter Tryz.func150, Tryz.ntmps150
     go_wp2_with fail
     go_ret
     exact ⟨by simp; omega, HB.out⟩
 · go_enter Tryz.func150, Tryz.ntmps150
   go_wp2_with fail
   go_ret
   exact ⟨by simp; omega, HB.out⟩

set_option maxRecDepth 100000 in
set_option maxHeartbeats 3200000 in
theorem cfits_any (h : Hs) (L : Nat → List (List Value)) (s t : ByteArray) (n : Int) (w : World) (hh : HT h L w) :
 Calls Tryz.prog 106 #[.agg h.cells, .string s, .string t, .int .i64 n] w fun e w' => e = .returned (.int .i64 (roomE (L 0) (L 3) (L 4) s t n : Nat)) ∧ Below w.heap.size w w' := by
 obtain ⟨y, hy, hyb⟩ := bin_eight hh s
 obtain ⟨x, hx, hxo⟩ := item_it hh t
 obtain ⟨ib, hib⟩ : ∃ z, (atBin (L 3) s).isSome = z := ⟨_, rfl⟩
 obtain ⟨ii, hii⟩ : ∃ z, (atItem (L 0) t).isSome = z := ⟨_, rfl⟩
 obtain ⟨lv, hlv⟩ : ∃ z, (loadP (L 0) (L 4) s).1 = z := ⟨_, rfl⟩
 obtain ⟨lw, hlw⟩ : ∃ z, (loadP (L 0) (L 4) s).2 = z := ⟨_, rfl⟩
 obtain ⟨r, hr⟩ : ∃ r, roomE (L 0) (L 3) (L 4) s t n = r := ⟨_, rfl⟩
 have HA : Hid (r = if (ib && ii) = false then 12 else if y.vol < wrap64 (lv + wrap64 (n * x.vol)) ∨ y.wei < wrap64 (lw + wrap64 (n * x.wei)) then 26 else 0) := Lib.hid (by rw [← hr]; unfold roomE; rw [hib, hii, hyb, hxo, hlv, hlw])
 have CB : Hid (∀ W, Below w.heap.size w W → Calls Tryz.prog 24 #[.agg h.cells, .string s] W fun e w' => e = .returned (.tuple #[.agg #[.string y.code, .string y.zone, .int .i64 y.kind, .int .i64 y.aisle, .int .i64 y.place, .int .i64 y.vol, .int .i64 y.wei, .bool y.frz], .bool ib]) ∧ Below W.heap.size W w') := Lib.hid (fun W hW => by have := fcBin (hh.below hW) s; rw [hy, hib] at this; exact this)
 have CI : Hid (∀ W, Below w.heap.size w W → Calls Tryz.prog 68 #[.agg h.cells, .string t] W fun e w' => e = .returned (.tuple #[.agg #[.string x.code, .string (x.nm 0), .int .i64 (x.fc 0), .string (x.nm 1), .int .i64 (x.fc 1), .string (x.nm 2), .int .i64 (x.fc 2), .string (x.nm 3), .int .i64 (x.fc 3), .int .i64 x.vol, .int .i64 x.wei, .bool x.lots, .bool x.serial, .bool x.chk], .bool ii]) ∧ Below W.heap.size W w') := Lib.hid (fun W hW => by have := fcItem (hh.below hW) t; rw [hx, hii] at this; exact this)
 have CL : Hid (∀ W, Below w.heap.size w W → Calls Tryz.prog 149 #[.agg h.cells, .string s] W fun e w' => e = .returned (.tuple #[.int .i64 lv, .int .i64 lw]) ∧ Below W.heap.size W w') := Lib.hid (fun W hW => by have := cload_any h L s W (hh.below hW); rwa [hlv, hlw] at this)
 rw [hr]
 clear hr hib hii hlv hlw hy hyb hx hxo
 obtain ⟨W0, hW0⟩ : ∃ W0, W0 = (w.alloc (.cells h.cells 37)) := ⟨_, rfl⟩
 have hb0 : Below w.heap.size w W0 := by rw [hW0]; exact (Below.refl _ _).alloc (Nat.le_refl _) _
 have hs0 : W0.heap.size = w.heap.size + 1 := by rw [hW0]; simp
 have HH : Hid (∀ W, Below W0.heap.size W0 W → W.heap[w.heap.size]? = some (.cells h.cells 37 (0, 0))) := Lib.hid (fun W hW => (hW.block _ (by omega)).trans (by
  rw [hW0]
  have hq := heap_alloc_new w (.cells h.cells 37)
  exact (by simpa using hq)))
 have HBW : Hid (∀ W, Below W0.heap.size W0 W → Below w.heap.size w W ∧ w.heap.size + 1 ≤ W.heap.size) := Lib.hid (fun W hW => ⟨hb0.trans (hW.mono (by omega)), by have := hW.size; omega⟩)
 have huh := Tryz.underlying37
 have HSH : Hid (∀ a : Hs, (Tryz.prog.info? 37).map (·.size) = some a.cells.size) := Lib.hid (fun a => by kernel_rfl)
 have H0 := Lib.hid (Below.refl W0.heap.size W0)
 clear hb0 hs0 hh
 subst hW0
 go_enter Tryz.func106, Tryz.ntmps106
 go_wp2_with (first
  | (refine wpList_load_row rfl 37 (.tmp 4) rfl w.heap.size rfl _ _ _ _ (HH.out _ H0.out) huh rfl (HSH.out _) ?_)
  | fail)
 refine (CB.out _ (HBW.out _ H0.out).1).mono ?_
 rintro e w1 ⟨rfl, hb1⟩
 have H1 := Lib.hid (H0.out.trans (hb1.mono H0.out.size))
 clear hb1
 have H2 := Lib.hid (H1.out.alloc H1.out.size (.cells #[.string y.code, .string y.zone, .int .i64 y.kind, .int .i64 y.aisle, .int .i64 y.place, .int .i64 y.vol, .int .i64 y.wei, .bool y.frz] 64))
 cases ib with
 | false =>
  have HE : Hid (r = 12) := Lib.hid (by rw [HA.out]; rfl)
  go_wp2_with fail
  go_ret
  exact ⟨by rw [HE.out]; rfl, (HBW.out _ H2.out).1⟩
 | true =>
  go_wp2_with (first
   | (refine wpList_load_row rfl 37 (.tmp 4) rfl w.heap.size rfl _ _ _ _ (HH.out _ H2.out) huh rfl (HSH.out _) ?_)
   | fail)
  refine (CI.out _ (HBW.out _ H2.out).1).mono ?_
  rintro e w2 ⟨rfl, hb2⟩
  have HBQ : Hid (Below (w1.alloc (.cells #[.string y.code, .string y.zone, .int .i64 y.kind, .int .i64 y.aisle, .int .i64 y.place, .int .i64 y.vol, .int .i64 y.wei, .bool y.frz] 64)).heap.size (w1.alloc (.cells #[.string y.code, .string y.zone, .int .i64 y.kind, .int .i64 y.aisle, .int .i64 y.place, .int .i64 y.vol, .int .i64 y.wei, .bool y.frz] 64)) w2) := Lib.hid hb2
  have H3 := Lib.hid (H2.out.trans (hb2.mono H2.out.size))
  clear hb2
  have H4 := Lib.hid (H3.out.alloc H3.out.size (.cells #[.string x.code, .string (x.nm 0), .int .i64 (x.fc 0), .string (x.nm 1), .int .i64 (x.fc 1), .string (x.nm 2), .int .i64 (x.fc 2), .string (x.nm 3), .int .i64 (x.fc 3), .int .i64 x.vol, .int .i64 x.wei, .bool x.lots, .bool x.serial, .bool x.chk] 87))
  cases ii with
  | false =>
   have HE : Hid (r = 12) := Lib.hid (by rw [HA.out]; rfl)
   go_wp2_with fail
   go_ret
   exact ⟨by rw [HE.out]; rfl, (HBW.out _ H4.out).1⟩
  | true =>
   obtain ⟨w3, hw3⟩ : ∃ w3, w3 = w2.alloc (.cells #[.string x.code, .string (x.nm 0), .int .i64 (x.fc 0), .string (x.nm 1), .int .i64 (x.fc 1), .string (x.nm 2), .int .i64 (x.fc 2), .string (x.nm 3), .int .i64 (x.fc 3), .int .i64 x.vol, .int .i64 x.wei, .bool x.lots, .bool x.serial, .bool x.chk] 87) := ⟨_, rfl⟩
   have HX : Hid (∀ W, Below w3.heap.size w3 W → W.cell? ⟨w2.heap.size, 9, none⟩ = some (.int .i64 x.vol) ∧ W.cell? ⟨w2.heap.size, 10, none⟩ = some (.int .i64 x.wei) ∧ W.heap[w1.heap.size]? = some (.cells #[.string y.code, .string y.zone, .int .i64 y.kind, .int .i64 y.aisle, .int .i64 y.place, .int .i64 y.vol, .int .i64 y.wei, .bool y.frz] 64 (0, 0)) ∧ w2.heap.size < W.heap.size) := Lib.hid (fun W hW => by
    have a1 : w3.heap[w2.heap.size]? = some (.cells #[.string x.code, .string (x.nm 0), .int .i64 (x.fc 0), .string (x.nm 1), .int .i64 (x.fc 1), .string (x.nm 2), .int .i64 (x.fc 2), .string (x.nm 3), .int .i64 (x.fc 3), .int .i64 x.vol, .int .i64 x.wei, .bool x.lots, .bool x.serial, .bool x.chk] 87 (0, 0)) := by rw [hw3]; exact heap_alloc_new _ _
    have a0 := heap_alloc_new w1 (.cells #[.string y.code, .string y.zone, .int .i64 y.kind, .int .i64 y.aisle, .int .i64 y.place, .int .i64 y.vol, .int .i64 y.wei, .bool y.frz] 64)
    have hlt := lt_of_block a0
    have a2 : w3.heap[w1.heap.size]? = some (.cells #[.string y.code, .string y.zone, .int .i64 y.kind, .int .i64 y.aisle, .int .i64 y.place, .int .i64 y.vol, .int .i64 y.wei, .bool y.frz] 64 (0, 0)) := by rw [hw3]; exact (Below.heap_alloc _ _ _ (Nat.lt_of_lt_of_le hlt HBQ.out.size)).trans ((HBQ.out.block _ hlt).trans a0)
    have b1 := (hW.block _ (lt_of_block a1)).trans a1
    have b2 := (hW.block _ (lt_of_block a2)).trans a2
    exact ⟨by rw [cell_of_block b1]; rfl, by rw [cell_of_block b1]; rfl, b2, lt_of_block b1⟩)
   rw [hw3] at HX
   clear hw3
   go_wp2_with (first
    | (refine wpList_load_row rfl 37 (.tmp 4) rfl w.heap.size rfl _ _ _ _ (HH.out _ H4.out) huh rfl (HSH.out _) ?_)
    | fail)
   refine (CL.out _ (HBW.out _ H4.out).1).mono ?_
   rintro e w4 ⟨rfl, hb4⟩
   have H5 := Lib.hid (H4.out.trans (hb4.mono H4.out.size))
   obtain ⟨x9, x10, y0, l2⟩ := HX.out _ hb4
   have HY0 := Lib.hid y0
   clear hb4 y0
   have hub := Tryz.underlying64
   have HSB : Hid ((Tryz.prog.info? 64).map (·.size) = some (#[.string y.code, .string y.zone, .int .i64 y.kind, .int .i64 y.aisle, .int .i64 y.place, .int .i64 y.vol, .int .i64 y.wei, .bool y.frz] : Array Value).size) := Lib.hid (by kernel_rfl)
   have HA2 : Hid (r = if y.vol < wrap64 (lv + wrap64 (n * x.vol)) ∨ y.wei < wrap64 (lw + wrap64 (n * x.wei)) then 26 else 0) := Lib.hid (by rw [HA.out]; rfl)
   go_wp2_with (first
    | (refine wpList_load_row rfl 64 (.tmp 9) rfl w1.heap.size rfl _ _ _ _ HY0.out hub rfl HSB.out ?_)
    | fail)
   refine (cholds_any y.code y.zone y.kind y.aisle y.place y.vol y.wei y.frz _ _ _).mono ?_
   rintro e w5 ⟨rfl, hb5⟩
   have H6 := Lib.hid (H5.out.trans (hb5.mono H5.out.size))
   clear hb5 x9 x10 l2
   by_cases q1 : y.vol < wrap64 (lv + wrap64 (n * x.vol))
   · have HE : Hid (r = 26) := Lib.hid (by rw [HA2.out, if_pos (.inl q1)])
     rw [show decide (wrap64 (lv + wrap64 (n * x.vol)) ≤ y.vol) = false from decide_eq_false (by omega)]
     go_wp2_with fail
     go_ret
     exact ⟨by rw [HE.out]; rfl, (HBW.out _ H6.out).1⟩
   · by_cases q2 : y.wei < wrap64 (lw + wrap64 (n * x.wei))
     · have HE : Hid (r = 26) := Lib.hid (by rw [HA2.out, if_pos (.inr q2)])
       rw [show decide (wrap64 (lw + wrap64 (n * x.wei)) ≤ y.wei) = false from decide_eq_false (by omega), Bool.and_false]
       go_wp2_with fail
       go_ret
       exact ⟨by rw [HE.out]; rfl, (HBW.out _ H6.out).1⟩
     · have HE : Hid (r = 0) := Lib.hid (by rw [HA2.out, if_neg (fun h => h.elim q1 q2)])
       rw [show decide (wrap64 (lv + wrap64 (n * x.vol)) ≤ y.vol) = true from decide_eq_true (by omega), show decide (wrap64 (lw + wrap64 (n * x.wei)) ≤ y.wei) = true from decide_eq_true (by omega)]
       go_wp2_with fail
       go_ret
       exact ⟨by rw [HE.out]; rfl, (HBW.out _ H6.out).1⟩

end Go.Proofs.YtgbilfkjfeheaaaGreat

namespace Go.Proofs.YtgbilfkjfeheaaaGreat
set_option linter.unusedVariables false
open Go.RowKit
open Pl (firstG findG)

set_option maxRecDepth 100000 in
theorem cordZone (x y : List Value) (w : World) (hx : Fits kZone x) (hy : Fits kZone y) : Calls Tryz.prog 196 #[.agg x.toArray, .agg y.toArray] w fun e w' => e = .returned (.int .i64 (ordZone x y)) ∧ Below w.heap.size w w' := by
 obtain ⟨r, hxr⟩ := code_Zone hx
 obtain ⟨q, hyr⟩ := code_Zone hy
 have HB : Hid (Below w.heap.size w ((w.alloc (.cells x.toArray 93)).alloc (.cells y.toArray 93))) := Lib.hid (((Below.refl _ _).alloc (Nat.le_refl _) _).alloc (by simp) _)
 have c0 : ((w.alloc (.cells x.toArray 93)).alloc (.cells y.toArray 93)).cell? ⟨w.heap.size, 0, none⟩ = some (.string (codeOf x)) := by
  rw [cell_of_row _ w.heap.size 0 x.toArray 93 (0, 0) ((Below.heap_alloc _ _ _ (by simp)).trans (heap_alloc_new _ _))]
  rw [List.getElem?_toArray]
  rw [hxr]; rfl
 have c1 : ((w.alloc (.cells x.toArray 93)).alloc (.cells y.toArray 93)).cell? ⟨w.heap.size + 1, 0, none⟩ = some (.string (codeOf y)) := by
  have hh := heap_alloc_new (w.alloc (.cells x.toArray 93)) (.cells y.toArray 93)
  rw [cell_of_row _ (w.heap.size + 1) 0 y.toArray 93 (0, 0) (by simpa using hh)]
  rw [List.getElem?_toArray]
  rw [hyr]; rfl
 obtain ⟨s, hs⟩ : ∃ s, codeOf x = s := ⟨_, rfl⟩
 obtain ⟨t, ht⟩ : ∃ s, codeOf y = s := ⟨_, rfl⟩
 have HV : Hid (ordZone x y = Pl.cmp s t) := Lib.hid (by unfold ordZone; rw [hs, ht])
 rw [hs] at c0
 rw [ht] at c1
 clear hs ht hxr hyr hx hy
 go_enter Tryz.func196, Tryz.ntmps196
 go_wp2_with fail
 refine (compare_any s t _).mono ?_
 rintro e w' ⟨rfl, rfl⟩
 go_wp2_with fail
 go_ret
 exact ⟨by rw [HV.out]; rfl, HB.out⟩

theorem tellsZone (w : World) : TellsO kZone w 196 #[] ordZone := ⟨fun args W => by kernel_rfl, fun W _ a b ha hb => cordZone a b W ha hb⟩

/-- The table of items. -/
abbrev tvZone : Value := .func (.func 196) #[] #[]
attribute [local go_sem] store_func
theorem tabZone_any (w : World) : Calls Tryz.prog 174 #[] w fun e w' => e = .returned (.agg #[tvZone]) ∧ Below w.heap.size w w' := by
 go_enter Tryz.func174, Tryz.ntmps174
 go_wp2
 refine bodyPost_ret (v := .agg #[tvZone]) ?_ rfl ⟨rfl, ?_⟩
 · simp [results, Tryz.results174, go_sem]
 · exact (Below.refl _ _).alloc (Nat.le_refl _) _

set_option maxRecDepth 100000 in
set_option maxHeartbeats 1600000 in
theorem cfindZone_any (h : Hs) (L : List (List Value)) (s : ByteArray) (w : World) (hn : h.n 2 = L.length) (hn6 : h.n 2 ≤ 1000000) (hL : Things kZone L) (hr : Rd w w.heap.size (h.A 2) L.flatten) :
 Calls Tryz.prog 122 #[h.val, .string s] w fun e w' => e = .returned (.tuple #[.agg (gotZone L s).toArray, .bool (atZone L s).isSome]) ∧ Below w.heap.size w w' := by
 obtain ⟨W0, hW0⟩ : ∃ W0, W0 = (w.alloc (.cells #[.slice (h.A 0) (h.n 0) (h.c 0), .slice (h.A 1) (h.n 1) (h.c 1), .slice (h.A 2) (h.n 2) (h.c 2), .slice (h.A 3) (h.n 3) (h.c 3), .slice (h.A 4) (h.n 4) (h.c 4), .slice (h.A 5) (h.n 5) (h.c 5), .slice (h.A 6) (h.n 6) (h.c 6), .slice (h.A 7) (h.n 7) (h.c 7), .slice (h.A 8) (h.n 8) (h.c 8), .slice (h.A 9) (h.n 9) (h.c 9), .slice (h.A 10) (h.n 10) (h.c 10), .slice (h.A 11) (h.n 11) (h.c 11), .slice (h.A 12) (h.n 12) (h.c 12), .slice (h.A 13) (h.n 13) (h.c 13), .int .i64 h.z] 37)).alloc (.cells #[.string ⟨#[]⟩, .string ⟨#[]⟩] 93) := ⟨_, rfl⟩
 have hb0 : Below w.heap.size w W0 := by rw [hW0]; exact ((Below.refl _ _).alloc (Nat.le_refl _) _).alloc (by simp) _
 have hs0 : W0.heap.size = w.heap.size + 2 := by rw [hW0]; simp
 have HBX : Hid (∀ W, Below W0.heap.size W0 W → W.cell? ⟨w.heap.size, 2, none⟩ = some (.slice (h.A 2) (h.n 2) (h.c 2))) := Lib.hid (fun W hW => (hW.cell (p := ⟨w.heap.size, 2, none⟩) (by simp; omega)).trans (by rw [hW0]; simp [go_sem]))
 have HRX : Hid (∀ W, Below W0.heap.size W0 W → W.heap[w.heap.size + 1]? = some (.cells zeroZone.toArray 93 (0, 0))) := Lib.hid (fun W hW => (hW.block _ (by omega)).trans (by
  rw [hW0]
  have := heap_alloc_new (w.alloc (.cells #[.slice (h.A 0) (h.n 0) (h.c 0), .slice (h.A 1) (h.n 1) (h.c 1), .slice (h.A 2) (h.n 2) (h.c 2), .slice (h.A 3) (h.n 3) (h.c 3), .slice (h.A 4) (h.n 4) (h.c 4), .slice (h.A 5) (h.n 5) (h.c 5), .slice (h.A 6) (h.n 6) (h.c 6), .slice (h.A 7) (h.n 7) (h.c 7), .slice (h.A 8) (h.n 8) (h.c 8), .slice (h.A 9) (h.n 9) (h.c 9), .slice (h.A 10) (h.n 10) (h.c 10), .slice (h.A 11) (h.n 11) (h.c 11), .slice (h.A 12) (h.n 12) (h.c 12), .slice (h.A 13) (h.n 13) (h.c 13), .int .i64 h.z] 37)) (.cells zeroZone.toArray 93)
  simpa [zeroZone] using this))
 have HFI : Hid (∀ W, Below W0.heap.size W0 W → Calls Tryz.prog 175 #[.agg #[tvZone], .slice (h.A 2) (h.n 2) (h.c 2), .agg #[.string s, .string ⟨#[]⟩]] W fun e w' => e = .returned (firstV (atZone L s)) ∧ Below W.heap.size W w') := Lib.hid (fun W hW =>
  findZone (h.A 2) (h.n 2) (h.c 2) 196 #[] ordZone (keyZone s) L W hn hn6 hL (keyZone_fits s) ((hr.below (hb0.trans (hW.mono (by omega)))).mono (hb0.trans (hW.mono (by omega))).size) (tellsZone W))
 have HN := Lib.hid hn
 have HL := Lib.hid hL
 have HR := Lib.hid hr
 have HB0 := Lib.hid hb0
 have HS0 := Lib.hid hs0
 have H : Hid (Below W0.heap.size W0 W0.drew) := Lib.hid (Below.refl _ _).drew
 have hu := Tryz.underlying93
 have HSZ : Hid (∀ y, Fits kZone y → (Tryz.prog.info? 93).map (·.size) = some y.toArray.size) := Lib.hid (fun y hy => by rw [show (Tryz.prog.info? 93).map (·.size) = some 2 from by kernel_rfl, List.size_toArray, hy.length]; rfl)
 clear hn hL hr hb0 hs0
 obtain ⟨o, ho⟩ : ∃ o, atZone L s = o := ⟨_, rfl⟩
 rw [ho] at HFI ⊢
 have HO := Lib.hid ho
 clear ho
 cases o with
 | none =>
  rw [firstV_none] at HFI
  unfold Hs.val
  go_enter Tryz.func122, Tryz.ntmps122
  go_wp2_with fail
  rw [← hW0]
  clear hW0
  go_region_held3 (fun w' => w'.cell? ⟨w.heap.size, 2, none⟩ = some (.slice (h.A 2) (h.n 2) (h.c 2)))
   (first | exact HBX.out _ H.out)
   (first
    | (go_at_call 174; refine (tabZone_any _).mono ?_; rintro e w' ⟨rfl, hb'⟩; have H := Lib.hid (H.out.trans (hb'.mono H.out.size)); clear hb')
    | (go_at_call 175; refine (HFI.out _ H.out).mono ?_; rintro e w' ⟨rfl, hb'⟩; have H := Lib.hid (H.out.trans (hb'.mono H.out.size)); clear hb'))
  have HRW := Lib.hid (HRX.out _ H.out)
  go_wp2_with (first
   | (refine wpList_store_row rfl 93 (.tmp 4) (.tmp 19) rfl (w.heap.size + 1) zeroZone.toArray rfl rfl _ _ HRW.out (HSZ.out _ zeroZone_fits) rfl (by simp [zeroZone, Value.oneCell']) ?_)
   | fail)
  have HBE : Hid (Below w.heap.size w (w'.setRow (w.heap.size + 1) zeroZone.toArray)) := Lib.hid (by
   have hb := HB0.out.trans (H.out.mono HB0.out.size)
   exact ⟨hb.os, hb.tape, hb.output, by simpa using hb.size, fun k hk => (setRow_other _ _ k _ (by omega)).trans (hb.block k hk)⟩)
  have HG : Hid (gotZone L s = zeroZone) := Lib.hid (by unfold gotZone; rw [HO.out])
  exact bodyPost_ret (results_row_tmp rfl _ _ (w.heap.size + 1) _ _ _ _ rfl (setRow_heap _ _ _ _ _ _ HRW.out) hu rfl (HSZ.out _ zeroZone_fits)) rfl ⟨by rw [HG.out]; rfl, HBE.out⟩
 | some i =>
  rw [firstV_some] at HFI
  have hl : i < L.length := Pl.firstG_lt HO.out
  have hin : i < h.n 2 := by rw [HN.out]; exact hl
  obtain ⟨b, off, hA, hb, hc⟩ := HR.out.thing HL.out (by decide) hl
  have HG : Hid (gotZone L s = L[i]) := Lib.hid (by unfold gotZone; rw [HO.out]; simp only []; rw [List.getD_eq_getElem?_getD, List.getElem?_eq_getElem hl]; rfl)
  have fx := HL.out _ (List.getElem_mem hl)
  have r1 := hc i hl
  rw [show kZone.length = 2 from rfl] at r1
  obtain ⟨x, hx⟩ : ∃ x, L[i] = x := ⟨_, rfl⟩
  rw [hx] at fx r1 HG
  have HF := Lib.hid fx
  have HR1 : Hid (∀ W, Below W0.heap.size W0 W → W.rangeAt b (off + i * 2) x) := Lib.hid (fun W hW => rangeAt_below r1 hb (HB0.out.trans (hW.mono HB0.out.size)))
  have hlb : b < w.heap.size := hb
  have HIX : Hid ((Tryz.prog.info? 93).map (·.size) = some x.length) := Lib.hid (by have := HSZ.out x fx; rwa [List.size_toArray] at this)
  have HOZ : Hid (zeroZone.toArray.size = x.toArray.size) := Lib.hid (by rw [List.size_toArray, List.size_toArray, fx.length]; rfl)
  have HOC : Hid (x.toArray.all (·.oneCell') = true) := Lib.hid (all_oneCell_toArray (fits_one fx))
  have h1 : (0 : Int) ≤ (i : Int) := by omega
  have h2 : (i : Int) < (h.n 2 : Int) := by omega
  rw [hA] at HBX HFI hW0
  unfold Hs.val
  rw [hA]
  clear hc r1 hx fx hb hA HR hl
  go_enter Tryz.func122, Tryz.ntmps122
  go_wp2_with fail
  rw [← hW0]
  clear hW0
  go_region_held3 (fun w' => w'.cell? ⟨w.heap.size, 2, none⟩ = some (.slice (some ⟨b, off, none⟩) (h.n 2) (h.c 2)))
   (first | exact HBX.out _ H.out)
   (first
    | (go_at_call 174; refine (tabZone_any _).mono ?_; rintro e w' ⟨rfl, hb'⟩; have H := Lib.hid (H.out.trans (hb'.mono H.out.size)); clear hb')
    | (go_at_call 175; refine (HFI.out _ H.out).mono ?_; rintro e w' ⟨rfl, hb'⟩; have H := Lib.hid (H.out.trans (hb'.mono H.out.size)); clear hb'))
  have HRW := Lib.hid (HRX.out _ H.out)
  have HRM := Lib.hid (HR1.out _ H.out)
  have c0 := HBX.out _ H.out
  go_wp2_with (first
   | (refine wpList_load_mid rfl 93 (.tmp 23) rfl b (off + i * 2) rfl x _ HRM.out hu rfl HIX.out ?_)
   | (refine wpList_store_row rfl 93 (.tmp 4) (.tmp 24) rfl (w.heap.size + 1) x.toArray rfl rfl _ _ HRW.out (HSZ.out _ HF.out) HOZ.out HOC.out ?_)
   | fail)
  have HBE : Hid (Below w.heap.size w (w'.setRow (w.heap.size + 1) x.toArray)) := Lib.hid (by
   have hb := HB0.out.trans (H.out.mono HB0.out.size)
   exact ⟨hb.os, hb.tape, hb.output, by simpa using hb.size, fun k hk => (setRow_other _ _ k _ (by omega)).trans (hb.block k hk)⟩)
  exact bodyPost_ret (results_row_tmp rfl _ _ (w.heap.size + 1) _ _ _ _ rfl (setRow_heap _ _ _ _ _ _ HRW.out) hu rfl (HSZ.out _ HF.out)) rfl ⟨by rw [HG.out]; rfl, HBE.out⟩
theorem fcZone {h : Hs} {L : Nat → List (List Value)} {w : World} (hh : HT h L w) (s : ByteArray) : Calls Tryz.prog 122 #[.agg h.cells, .string s] w fun e w' => e = .returned (.tuple #[.agg (gotZone (L 2) s).toArray, .bool (atZone (L 2) s).isSome]) ∧ Below w.heap.size w w' :=
 cfindZone_any h (L 2) s w (hh 2 (by decide)).1 (hh 2 (by decide)).2.1 (hh 2 (by decide)).2.2.1 (hh 2 (by decide)).2.2.2
set_option maxRecDepth 100000 in
set_option maxHeartbeats 1600000 in
theorem csite_any (h : Hs) (L : Nat → List (List Value)) (s : ByteArray) (w : World) (hh : HT h L w) :
 Calls Tryz.prog 82 #[.agg h.cells, .string s] w fun e w' => e = .returned (.string (siteT (L 2) (L 3) s)) ∧ Below w.heap.size w w' := by
 obtain ⟨y, hy, hyb⟩ := bin_eight hh s
 obtain ⟨ga, gb, hg, hgs⟩ := zone_two hh y.zone
 have HFB := Lib.hid (fun W (hW : Below w.heap.size w W) => fcBin (hh.below hW) s)
 have HFZ := Lib.hid (fun W (hW : Below w.heap.size w W) => fcZone (hh.below hW) y.zone)
 obtain ⟨il, hil⟩ : ∃ q, (atBin (L 3) s).isSome = q := ⟨_, rfl⟩
 obtain ⟨iz, hiz⟩ : ∃ q, (atZone (L 2) y.zone).isSome = q := ⟨_, rfl⟩
 obtain ⟨r, hr⟩ : ∃ r, siteT (L 2) (L 3) s = r := ⟨_, rfl⟩
 have HA : Hid (r = if il = true then gb else ⟨#[]⟩) := Lib.hid (by rw [← hr]; unfold siteT; rw [hil, hyb, hgs])
 rw [hy, hil] at HFB
 unfold Bn.cells at HFB
 rw [hg, hiz] at HFZ
 rw [hr]
 clear hr hil hiz hy hyb hg hgs
 obtain ⟨W0, hW0⟩ : ∃ W0, W0 = (w.alloc (.cells h.cells 37)) := ⟨_, rfl⟩
 have hb0 : Below w.heap.size w W0 := by rw [hW0]; exact (Below.refl _ _).alloc (Nat.le_refl _) _
 have hs0 : W0.heap.size = w.heap.size + 1 := by rw [hW0]; simp
 have HH : Hid (∀ W, Below W0.heap.size W0 W → W.heap[w.heap.size]? = some (.cells h.cells 37 (0, 0))) := Lib.hid (fun W hW => (hW.block _ (by omega)).trans (by
  rw [hW0]
  have hq := heap_alloc_new w (.cells h.cells 37)
  exact (by simpa using hq)))
 have HBW : Hid (∀ W, Below W0.heap.size W0 W → Below w.heap.size w W ∧ w.heap.size + 1 ≤ W.heap.size) := Lib.hid (fun W hW => ⟨hb0.trans (hW.mono (by omega)), by have := hW.size; omega⟩)
 have huh := Tryz.underlying37
 have HSH : Hid (∀ a : Hs, (Tryz.prog.info? 37).map (·.size) = some a.cells.size) := Lib.hid (fun a => by kernel_rfl)
 have H0 := Lib.hid (Below.refl W0.heap.size W0)
 clear hb0 hs0 hh
 subst hW0
 go_enter Tryz.func82, Tryz.ntmps82
 go_wp2_with (first
  | (refine wpList_load_row rfl 37 (.tmp 2) rfl w.heap.size rfl _ _ _ _ (HH.out _ H0.out) huh rfl (HSH.out _) ?_)
  | fail)
 refine (HFB.out _ (HBW.out _ H0.out).1).mono ?_
 rintro e w1 ⟨rfl, hb1⟩
 have H1 := Lib.hid (H0.out.trans (hb1.mono H0.out.size))
 clear hb1
 have H2 := Lib.hid (H1.out.alloc H1.out.size (.cells #[.string y.code, .string y.zone, .int .i64 y.kind, .int .i64 y.aisle, .int .i64 y.place, .int .i64 y.vol, .int .i64 y.wei, .bool y.frz] 64))
 cases il with
 | false =>
  have HE : Hid (r = ⟨#[]⟩) := Lib.hid (by rw [HA.out]; rfl)
  go_wp2_with fail
  go_ret
  exact ⟨by rw [HE.out]; rfl, (HBW.out _ H2.out).1⟩
 | true =>
  have HE : Hid (r = gb) := Lib.hid (by rw [HA.out]; rfl)
  go_wp2_with (first
   | (refine wpList_load_row rfl 37 (.tmp 2) rfl w.heap.size rfl _ _ _ _ (HH.out _ H2.out) huh rfl (HSH.out _) ?_)
   | fail)
  refine (HFZ.out _ (HBW.out _ H2.out).1).mono ?_
  rintro e w2 ⟨rfl, hb2⟩
  have H3 := Lib.hid (H2.out.trans (hb2.mono H2.out.size))
  clear hb2
  have H4 := Lib.hid (H3.out.alloc H3.out.size (.cells #[.string ga, .string gb] 93))
  go_wp2_with fail
  go_ret
  exact ⟨by rw [HE.out]; rfl, (HBW.out _ H4.out).1⟩

end Go.Proofs.YtgbilfkjfeheaaaGreat

namespace Go.Proofs.YtgbilfkjfeheaaaGreat
set_option linter.unusedVariables false
open Go.RowKit
namespace Pl
/-- The units: the base unit, then those of the first k places that count. -/
def hasU (l : List (ByteArray × Int)) (s : ByteArray) : Bool := l.any fun p => eqv p.1 s
def unitsU (x : It) : Nat → List (ByteArray × Int)
 | 0 => [(each, 1)]
 | k + 1 => if decide ((x.nm k).size ≠ 0) && decide (2 ≤ x.fc k) && !hasU (unitsU x k) (x.nm k) then unitsU x k ++ [(x.nm k, x.fc k)] else unitsU x k
/-- The i'th unit: 0 is the base unit. -/
def unitAt (x : It) : Nat → ByteArray × Int
 | 0 => (each, 1)
 | i + 1 => (x.nm i, x.fc i)
/-- Which places count, among the first k. -/
def placesU (x : It) (k : Nat) : List Nat := 0 :: ((List.range k).filter (validU x)).map (· + 1)
theorem placesU_succ (x : It) (k : Nat) : placesU x (k + 1) = if validU x k then placesU x k ++ [k + 1] else placesU x k := by
 unfold placesU
 rw [List.range_succ, List.filter_append, List.map_append]
 cases h : validU x k with
 | true => simp [h]
 | false => simp [h]
theorem first_valid {x : It} {s : ByteArray} (hs : s.size ≠ 0) (he : eqv s each = false) : ∀ k, (∃ j, j < k ∧ x.nm j = s ∧ 2 ≤ x.fc j) → ∃ i, i < k ∧ x.nm i = s ∧ validU x i = true
 | 0, ⟨j, hj, _⟩ => by omega
 | k + 1, ⟨j, hj, h1, h2⟩ => by
  by_cases hb : ∃ j, j < k ∧ x.nm j = s ∧ 2 ≤ x.fc j
  · obtain ⟨i, hi, h⟩ := first_valid hs he k hb
    exact ⟨i, by omega, h⟩
  · have hjk : j = k := by
     by_cases e : j = k
     · exact e
     · exact absurd ⟨j, by omega, h1, h2⟩ hb
    subst hjk
    refine ⟨j, by omega, h1, ?_⟩
    unfold validU
    rw [h1, he]
    simp only [hs, ne_eq, not_false_eq_true, decide_true, Bool.not_false, Bool.and_self, h2, Bool.true_and, List.all_eq_true, List.mem_range]
    intro i hi
    cases hq : eqv (x.nm i) s with
    | false => rfl
    | true =>
     have hq2 := (eqv_iff _ _).1 hq
     by_cases h3 : 2 ≤ x.fc i
     · exact absurd ⟨i, hi, hq2, h3⟩ hb
     · simp [h3]
theorem hasU_places (x : It) (k : Nat) (s : ByteArray) : hasU ((placesU x k).map (unitAt x)) s = true ↔ each = s ∨ ∃ i, i < k ∧ validU x i = true ∧ x.nm i = s := by
 unfold hasU placesU
 rw [List.any_eq_true]
 constructor
 · rintro ⟨p, hp, h⟩
   have h := (eqv_iff _ _).1 h
   rw [List.map_cons, List.mem_cons] at hp
   rcases hp with rfl | hp
   · exact .inl h
   · rw [List.map_map, List.mem_map] at hp
     obtain ⟨i, hi, rfl⟩ := hp
     rw [List.mem_filter, List.mem_range] at hi
     exact .inr ⟨i, hi.1, hi.2, h⟩
 · rintro (h | ⟨i, hi, hv, h⟩)
   · exact ⟨(each, 1), by simp [unitAt], (eqv_iff _ _).2 h⟩
   · refine ⟨(x.nm i, x.fc i), ?_, (eqv_iff _ _).2 h⟩
     rw [List.map_cons, List.mem_cons]
     right
     rw [List.map_map, List.mem_map]
     exact ⟨i, by rw [List.mem_filter, List.mem_range]; exact ⟨hi, hv⟩, rfl⟩
theorem valid_iff (x : It) (k : Nat) : validU x k = (decide ((x.nm k).size ≠ 0) && decide (2 ≤ x.fc k) && !hasU ((placesU x k).map (unitAt x)) (x.nm k)) := by
 rw [Bool.eq_iff_iff]
 constructor
 · intro h
   obtain ⟨h1, h2, h3, h4⟩ := valid_spec h
   have hn : hasU ((placesU x k).map (unitAt x)) (x.nm k) = false := by
    cases hc : hasU ((placesU x k).map (unitAt x)) (x.nm k) with
    | false => rfl
    | true =>
     rcases (hasU_places x k _).1 hc with h | ⟨i, hi, hv, h⟩
     · rw [← h, (eqv_iff _ _).2 rfl] at h2; cases h2
     · have := h4 i hi
       rw [(eqv_iff _ _).2 h] at this
       have h5 := (valid_spec hv).2.2.1
       simp at this; omega
   rw [hn]; simp [h1, h3]
 · intro h
   simp only [Bool.and_eq_true, decide_eq_true_eq, Bool.not_eq_true'] at h
   obtain ⟨⟨h1, h2⟩, h3⟩ := h
   have hE : eqv (x.nm k) each = false := by
    cases hc : eqv (x.nm k) each with
    | false => rfl
    | true =>
     rw [(hasU_places x k _).2 (.inl ((eqv_iff _ _).1 hc).symm)] at h3; cases h3
   unfold validU
   rw [hE]
   simp only [h1, ne_eq, not_false_eq_true, decide_true, Bool.not_false, Bool.and_self, h2, Bool.true_and, List.all_eq_true, List.mem_range]
   intro j hj
   cases hq : eqv (x.nm j) (x.nm k) with
   | false => rfl
   | true =>
    by_cases h4 : 2 ≤ x.fc j
    · obtain ⟨i, hi, e, hv⟩ := first_valid h1 hE k ⟨j, hj, (eqv_iff _ _).1 hq, h4⟩
      rw [(hasU_places x k _).2 (.inr ⟨i, hi, hv, e⟩)] at h3; cases h3
    · simp [h4]
theorem unitsU_places (x : It) : ∀ k, unitsU x k = (placesU x k).map (unitAt x)
 | 0 => rfl
 | k + 1 => by
  have ih := unitsU_places x k
  unfold unitsU
  rw [placesU_succ, ih, ← valid_iff]
  cases h : validU x k with
  | true => simp [unitAt]
  | false => simp
theorem unitsU_len (x : It) : ∀ k, (unitsU x k).length ≤ k + 1
 | 0 => by simp [unitsU]
 | k + 1 => by
  have := unitsU_len x k
  unfold unitsU
  split
  · rw [List.length_append]; simp; omega
  · omega
/-- Where a unit of that name stands in the list, and its factor. -/
theorem factor_find (x : It) (s : ByteArray) : factorU x s = match (unitsU x 4).find? (fun p => eqv p.1 s) with | some p => p.2 | none => 0 := by
 cases hf : (unitsU x 4).find? (fun p => eqv p.1 s) with
 | some p =>
  have hm := List.mem_of_find?_eq_some hf
  have he := (eqv_iff _ _).1 (by simpa using List.find?_some hf : eqv p.1 s = true)
  rw [unitsU_places, List.mem_map] at hm
  obtain ⟨a, ha, rfl⟩ := hm
  unfold placesU at ha
  rw [List.mem_cons, List.mem_map] at ha
  rcases ha with rfl | ⟨i, hi, rfl⟩
  · rw [← he]; exact factor_each x
  · rw [List.mem_filter, List.mem_range] at hi
    rw [← he]; exact factor_valid hi.1 hi.2
 | none =>
  have hn : hasU (unitsU x 4) s = false := by
   cases hc : hasU (unitsU x 4) s with
   | false => rfl
   | true =>
    unfold hasU at hc
    obtain ⟨p, hp, h⟩ := List.any_eq_true.1 hc
    exact absurd h (by simpa using List.find?_eq_none.1 hf p hp)
  rw [unitsU_places] at hn
  have hE : eqv s each = false := by
   cases hc : eqv s each with
   | false => rfl
   | true => rw [(hasU_places x 4 s).2 (.inl ((eqv_iff _ _).1 hc).symm)] at hn; cases hn
  unfold factorU
  rw [hE, if_neg (by simp)]
  cases hg : (List.range 4).find? (fitU x s) with
  | none => rfl
  | some i =>
   have hi := List.mem_range.1 (List.mem_of_find?_eq_some hg)
   have hfit := List.find?_some hg
   unfold fitU at hfit
   simp only [Bool.and_eq_true, decide_eq_true_eq] at hfit
   have h1 := (eqv_iff _ _).1 hfit.1.2
   obtain ⟨j, hj, e, hv⟩ := first_valid (by rw [← h1]; exact hfit.1.1) hE 4 ⟨i, hi, h1, hfit.2⟩
   rw [(hasU_places x 4 s).2 (.inr ⟨j, hj, hv, e⟩)] at hn; cases hn
end Pl
open Pl (It)
/-- Pairs as things. -/
def prC (l : List (ByteArray × Int)) : List (List Value) := l.map fun p => [.string p.1, .int .i64 p.2]
theorem prC_length (l : List (ByteArray × Int)) : (prC l).flatten.length = l.length * 2 := by
 induction l with
 | nil => rfl
 | cons p l ih => simp [prC] at ih ⊢; omega
theorem prC_push (l : List (ByteArray × Int)) (s : ByteArray) (n : Int) : (prC l).flatten ++ [.string s, .int .i64 n] = (prC (l ++ [(s, n)])).flatten := by simp [prC]
theorem rd_pair (W : World) (a b : Value) (T : TypeId) : Rd (W.alloc (.cells #[a, b] T)) (W.heap.size + 1) (some ⟨W.heap.size, 0, none⟩) [a, b] := fun _ => ⟨W.heap.size, 0, rfl, by omega, fun j u hj => by
 rw [cell_of_block (heap_alloc_new _ _)]
 match j, hj with
 | 0, hj => simp at hj; subst hj; rfl
 | 1, hj => simp at hj; subst hj; rfl⟩
theorem rd_pairB (W : World) (a b : Value) (T : TypeId) (B : Nat) (h : W.heap.size = B) : Rd (W.alloc (.cells #[a, b] T)) (B + 1) (some ⟨B, 0, none⟩) [a, b] := by subst h; exact rd_pair W a b T
theorem own_lowerU {w : World} {B B' T size n : Nat} {v : Value} {xs : List Value} (h : w.ownsRow B T size v n xs) (hb : B' ≤ B) : w.ownsRow B' T size v n xs :=
 ⟨h.1, h.2.imp id fun ⟨g, cap, cur, hv, hg, hr⟩ => ⟨g, cap, cur, hv, Nat.le_trans hb hg, hr⟩⟩
set_option linter.unusedVariables false
open Go.RowKit
open Pl (It)

/-- A unit by value. -/
abbrev uv (s : ByteArray) (z : Int) : Value := .agg #[.string s, .int .i64 z]

theorem named1_anyU (bq : Nat) (s t : ByteArray) (z : Int) (w : World) (hq : w.cell? ⟨bq, 0, none⟩ = some (.string t)) (lq : bq < w.heap.size) :
 Calls Tryz.prog 146 #[uv s z, .pointer (some ⟨bq, 0, none⟩)] w fun e w' => e = .returned (.bool (Pl.eqv s t)) ∧ Below w.heap.size w w' := by
 go_enter Tryz.func146, Tryz.ntmps146
 go_wp2_with fail
 go_ret
 exact ⟨rfl, ((Below.refl _ w).alloc (Nat.le_refl _) _)⟩

/-- A function value of units that answers f, in every world behind w. -/
def TellsU (w : World) (K : Nat) (cap : Array Value) (f : ByteArray → Bool) : Prop :=
 (∀ (args : Array Value) (W : World), (callFunc K args).run Tryz.prog W = .ok (.enter K args) W) ∧
 ∀ W, Below w.heap.size w W → ∀ s n, Calls Tryz.prog K (#[uv s n] ++ cap) W fun e W' => e = .returned (.bool (f s)) ∧ Below W.heap.size W W'
theorem TellsU.later {w w' : World} {K : Nat} {cap : Array Value} {f : ByteArray → Bool} (h : TellsU w K cap f) (hb : Below w.heap.size w w') : TellsU w' K cap f :=
 ⟨h.1, fun W hW s n => h.2 W (hb.trans (hW.mono hb.size)) s n⟩

theorem makef {P : Program} (fn : Fn) (first cap : Array Value) (w : World) : (Instr.makeFunc fn first cap).run P w = .ok (.func fn first cap) w := rfl
/-- named hands back a function that knows the name. -/
theorem named_anyU (t : ByteArray) (w : World) : Calls Tryz.prog 104 #[.string t] w fun e w' =>
 e = .returned (.func (.func 146) #[] #[.pointer (some ⟨w.heap.size, 0, none⟩)]) ∧ TellsU w' 146 #[.pointer (some ⟨w.heap.size, 0, none⟩)] (fun s => Pl.eqv s t) ∧ Below w.heap.size w w' := by
 have hmf : ∀ (fn : Fn) (first cap : Array Value) (w : World), (Instr.makeFunc fn first cap).run Tryz.prog w = .ok (.func fn first cap) w := fun _ _ _ _ => rfl
 go_enter Tryz.func104, Tryz.ntmps104
 go_wp2_with fail
 go_ret
 refine ⟨rfl, ⟨enters_of Tryz.func146 (by kernel_rfl) rfl, fun W hW s n => named1_anyU _ s t n W ?_ ?_⟩, (Below.refl _ w).alloc (Nat.le_refl _) _⟩
 · exact (hW.cell (p := ⟨w.heap.size, 0, none⟩) (by simp)).trans (by simp [go_sem])
 · have := hW.size; simp at this; omega

/-- The row at b holds these units. -/
def UC (w : World) (b : Nat) (l : List (ByteArray × Int)) : Prop := b < w.heap.size ∧ ∀ i (hi : i < l.length), w.cell? ⟨b, i * 2, none⟩ = some (.string l[i].1) ∧ w.cell? ⟨b, i * 2 + 1, none⟩ = some (.int .i64 l[i].2)
theorem prC_at : ∀ (l : List (ByteArray × Int)) (i : Nat) (hi : i < l.length), (prC l).flatten[i * 2]? = some (.string l[i].1) ∧ (prC l).flatten[i * 2 + 1]? = some (.int .i64 l[i].2)
 | p :: l, 0, _ => ⟨rfl, rfl⟩
 | p :: l, i + 1, hi => by
  have := prC_at l i (by simpa using hi)
  rw [show (i + 1) * 2 = i * 2 + 2 from by omega, show i * 2 + 2 + 1 = i * 2 + 1 + 2 from by omega]
  exact this
theorem UC.of_own {w : World} {B b n c T : Nat} {l : List (ByteArray × Int)} (h : w.ownsRow B T 2 (.slice (some ⟨b, 0, none⟩) n c) n (prC l).flatten) (hb : b < w.heap.size) (hn : n = l.length) : UC w b l :=
 ⟨hb, fun i hi => ⟨by rw [h.cellAt (i * 2) (by omega)]; exact (prC_at l i hi).1, by rw [h.cellAt (i * 2 + 1) (by omega)]; exact (prC_at l i hi).2⟩⟩
theorem UC.below {w w' : World} {b : Nat} {l : List (ByteArray × Int)} (h : UC w b l) (hb : Below w.heap.size w w') : UC w' b l :=
 ⟨Nat.lt_of_lt_of_le h.1 hb.size, fun i hi => ⟨(hb.cell (p := ⟨b, i * 2, none⟩) h.1).trans (h.2 i hi).1, (hb.cell (p := ⟨b, i * 2 + 1, none⟩) h.1).trans (h.2 i hi).2⟩⟩

theorem own_ltU {w : World} {B n c g T : Nat} {xs : List Value} (h : w.ownsRow B T 2 (.slice (some ⟨g, 0, none⟩) n c) n xs) : g < w.heap.size := by
 obtain ⟨_, h | ⟨g', cap, cur, hv, hg, hh, hr⟩⟩ := h
 · exact absurd h.1 (by simp)
 · injection hv with h1; injection h1 with h1; injection h1 with h1; subst h1; exact lt_of_block hh

/-- Where the first unit stands whose name passes. -/
def firstU (f : ByteArray → Bool) (l : List (ByteArray × Int)) : Int := match l.findIdx? (fun p => f p.1) with
 | some i => (i : Int)
 | none => -1

set_option maxRecDepth 100000 in
set_option maxHeartbeats 800000 in
theorem index_anyU (b c j K : Nat) (cap : Array Value) (f : ByteArray → Bool) (l : List (ByteArray × Int)) (w : World) (hj : j ≤ 1000) (hjl : j = l.length) (hc : UC w b l) (hT : TellsU w K cap f) :
 Calls Tryz.prog 103 #[.slice (some ⟨b, 0, none⟩) j c, .func (.func K) #[] cap] w fun e w' => e = .returned (.int .i64 (firstU f l)) ∧ Below w.heap.size w w' := by
 have HC := Lib.hid hc
 have HT := Lib.hid hT
 have HJ := Lib.hid hjl
 have hent := hT.1
 clear hc hT hjl
 go_enter Tryz.func103, Tryz.ntmps103
 go_wp2_with fail
 go_loopw [8] (fun i wr => ∃ k : Nat, k ≤ j ∧ i = .int .i64 (k : Int) ∧ Hid (∀ i (hi : i < l.length), i < k → f l[i].1 = false) ∧ Hid (Below w.heap.size w wr)) (fun i _ => j - (intOf i).toNat)
 case atStart => exact ⟨0, by omega, rfl, Lib.hid (fun i hi h => by omega), Lib.hid (Below.refl _ _)⟩
 case round =>
  obtain ⟨k, hk, rfl, hno, hbel⟩ := hrel
  by_cases hlt : k < j
  · have hkl : k < l.length := by rw [← HJ.out]; exact hlt
    have hc0 := (HC.out.below hbel.out).2 k hkl |>.1
    have hc1 := (HC.out.below hbel.out).2 k hkl |>.2
    have hlb : b < wr.heap.size := (HC.out.below hbel.out).1
    obtain ⟨s, hs⟩ : ∃ s, l[k].1 = s := ⟨_, rfl⟩
    obtain ⟨z, hz⟩ : ∃ z, l[k].2 = z := ⟨_, rfl⟩
    rw [hs] at hc0
    rw [hz] at hc1
    have HS := Lib.hid hs
    clear hs hz
    cases hf : f s with
    | true =>
     have HF := Lib.hid hf
     clear hf
     have HKL := Lib.hid hkl
     go_wp2_with fail
     refine (HT.out.2 _ hbel.out s z).mono ?_
     rintro e w1 ⟨rfl, hb1⟩
     have B1 := Lib.hid (hbel.out.trans (hb1.mono hbel.out.size))
     clear hb1
     have hf := HF.out
     go_wp2_with fail
     go_ret
     refine ⟨?_, B1.out⟩
     have : l.findIdx? (fun p => f p.1) = some k := by
      rw [List.findIdx?_eq_some_iff_getElem]
      exact ⟨HKL.out, by rw [HS.out]; exact HF.out, fun i hi => by rw [hno.out i (by have := HKL.out; omega) hi]; simp⟩
     unfold firstU; rw [this]; rfl
    | false =>
     have HF := Lib.hid hf
     clear hf
     have HNO : Hid (∀ i (hi : i < l.length), i < k + 1 → f l[i].1 = false) := Lib.hid (fun i hl hi => by
      by_cases e : i = k
      · subst e; rw [HS.out]; exact HF.out
      · exact hno.out i hl (by omega))
     go_wp2_with fail
     refine (HT.out.2 _ hbel.out s z).mono ?_
     rintro e w1 ⟨rfl, hb1⟩
     have B1 := Lib.hid (hbel.out.trans (hb1.mono hbel.out.size))
     clear hb1
     have hf := HF.out
     go_wp2_with fail
     go_roundw
     case rel => exact ⟨k + 1, by omega, by go_num, HNO, B1⟩
     case measure => simp [intOf]; omega
  · have hk' : k = j := by omega
    subst hk'
    go_wp2_with fail
    go_ret
    refine ⟨?_, hbel.out⟩
    have : l.findIdx? (fun p => f p.1) = none := by
     rw [List.findIdx?_eq_none_iff]
     intro p hp
     obtain ⟨i, hi, rfl⟩ := List.mem_iff_getElem.1 hp
     exact hno.out i hi (by rw [HJ.out]; exact hi)
    unfold firstU; rw [this]; rfl

theorem first_anyU (f : ByteArray → Bool) (l : List (ByteArray × Int)) : decide (0 ≤ firstU f l) = l.any fun p => f p.1 := by
 unfold firstU
 cases h : l.findIdx? (fun p => f p.1) with
 | none =>
  rw [List.findIdx?_eq_none_iff] at h
  rw [show (l.any fun p => f p.1) = false from List.any_eq_false.2 (fun p hp => by rw [h p hp]; simp)]
  rfl
 | some i =>
  obtain ⟨hi, h1, _⟩ := List.findIdx?_eq_some_iff_getElem.1 h
  rw [show (l.any fun p => f p.1) = true from List.any_eq_true.2 ⟨l[i], List.getElem_mem hi, h1⟩]
  simp
theorem contains_anyU (b c j K : Nat) (cap : Array Value) (f : ByteArray → Bool) (l : List (ByteArray × Int)) (w : World) (hj : j ≤ 1000) (hjl : j = l.length) (hc : UC w b l) (hT : TellsU w K cap f) :
 Calls Tryz.prog 145 #[.slice (some ⟨b, 0, none⟩) j c, .func (.func K) #[] cap] w fun e w' => e = .returned (.bool (l.any fun p => f p.1)) ∧ Below w.heap.size w w' := by
 have H := Lib.hid (index_anyU b c j K cap f l w hj hjl hc hT)
 have HA := Lib.hid (first_anyU f l)
 clear hc hT hjl
 go_enter Tryz.func145, Tryz.ntmps145
 go_wp2_with fail
 refine H.out.mono ?_
 rintro e w1 ⟨rfl, hb1⟩
 have B1 := Lib.hid hb1
 clear hb1
 obtain ⟨r, hr⟩ : ∃ r, firstU f l = r := ⟨_, rfl⟩
 rw [hr]
 have HR := Lib.hid hr
 clear hr
 go_wp2_with fail
 go_ret
 exact ⟨by rw [← HA.out, HR.out]; rfl, B1.out⟩
end Go.Proofs.YtgbilfkjfeheaaaGreat

namespace Go.Proofs.YtgbilfkjfeheaaaGreat
set_option linter.unusedVariables false
open Go.RowKit
open Pl (It)

theorem infoUn : (Tryz.prog.info? 84).map (fun i => (i.zero, i.size, i.bytes)) = some (some (.agg #[.string ByteArray.empty, .int .i64 0]), 2, 24) := by kernel_rfl
theorem own_oneU (W : World) (B : Nat) (a b : Value) (T : TypeId) (hB : B ≤ W.heap.size) : (W.alloc (.cells #[a, b] T)).ownsRow B T 2 (.slice (some ⟨W.heap.size, 0, none⟩) 1 1) 1 [a, b] :=
 ⟨rfl, .inr ⟨W.heap.size, 1, #[a, b], rfl, hB, heap_alloc_new _ _, Nat.le_refl _, by decide, rfl, rfl⟩⟩

theorem range_units {x : It} {W : World} {b : Nat} {T : TypeId} (h : W.heap[b]? = some (.cells x.cells.toArray T (0, 0))) : W.rangeAt b 1 x.units := fun j v hj => by
 rw [cell_of_block h]
 rw [← hj]
 match j, hj with
 | 0, _ => rfl
 | 1, _ => rfl
 | 2, _ => rfl
 | 3, _ => rfl
 | 4, _ => rfl
 | 5, _ => rfl
 | 6, _ => rfl
 | 7, _ => rfl
 | i + 8, hj => simp [It.units] at hj

theorem empty_iffU (s : ByteArray) : s.toList.isEmpty = decide (s.size = 0) := by
 rw [ByteArray.toList_eq]
 cases h : s.data.toList with
 | nil =>
  have : s.size = 0 := by rw [← Pl.length_toList, h]; rfl
  simp [this]
 | cons a l =>
  have : s.size ≠ 0 := by rw [← Pl.length_toList, h]; simp
  simp [this]
theorem tdiv_posU (f : Int) (hf : 1 ≤ f) : (1000000000 : Int).tdiv f = 1000000000 / f := Int.tdiv_eq_ediv_of_nonneg (by omega)
set_option maxRecDepth 100000 in
theorem index_units {x : It} {k : Nat} (hk : k < 4) (W : World) : (Instr.index 85 (.agg x.units.toArray) (.int .i64 (k : Int))).run Tryz.prog W = .ok (.agg #[.string (x.nm k), .int .i64 (x.fc k)]) W := by
 match k, hk with
 | 0, _ => simp [go_sem, It.units]; rfl
 | 1, _ => simp [go_sem, It.units]; rfl
 | 2, _ => simp [go_sem, It.units]; rfl
 | 3, _ => simp [go_sem, It.units]; rfl
 | i + 4, hi => omega

set_option maxRecDepth 100000 in
set_option maxHeartbeats 1600000 in
theorem unitsOf_any (x : It) (w : World) : Calls Tryz.prog 102 #[.agg x.cells.toArray] w fun e w' => ∃ A n c, n = (Pl.unitsU x 4).length ∧ e = .returned (.slice A n c) ∧ w'.ownsRow w.heap.size 84 2 (.slice A n c) n (prC (Pl.unitsU x 4)).flatten ∧ Below w.heap.size w w' := by
 obtain ⟨i0, hi0, hz0, hz1, hz2⟩ := info_parts infoUn
 have HRU : Hid (((w.alloc (.cells x.cells.toArray 87)).alloc (.cells #[.string Pl.each, .int .i64 1] 84)).rangeAt w.heap.size 1 x.units) := Lib.hid (range_units ((Below.heap_alloc _ _ _ (by simp)).trans (heap_alloc_new _ _)))
 have HB0 : Hid (Below w.heap.size w ((w.alloc (.cells x.cells.toArray 87)).alloc (.cells #[.string Pl.each, .int .i64 1] 84))) := Lib.hid (((Below.refl _ _).alloc (Nat.le_refl _) _).alloc (by simp) _)
 have HO0 : Hid (((w.alloc (.cells x.cells.toArray 87)).alloc (.cells #[.string Pl.each, .int .i64 1] 84)).ownsRow w.heap.size 84 2 (.slice (some ⟨w.heap.size + 1, 0, none⟩) 1 1) 1 (prC (Pl.unitsU x 0)).flatten) := Lib.hid (by
  have h := own_oneU (w.alloc (.cells x.cells.toArray 87)) w.heap.size (.string Pl.each) (.int .i64 1) 84 (by simp)
  rw [show (w.alloc (.cells x.cells.toArray 87)).heap.size = w.heap.size + 1 from by simp] at h
  exact h)
 have HI : Hid ((Tryz.prog.info? 85).map (·.size) = some x.units.length) := Lib.hid (by rw [show (Tryz.prog.info? 85).map (·.size) = some 8 from by kernel_rfl]; rfl)
 obtain ⟨us, hus⟩ : ∃ us, x.units.toArray = us := ⟨_, rfl⟩
 have HUS := Lib.hid hus
 clear hus
 go_enter Tryz.func102, Tryz.ntmps102
 go_wp2_with (first
  | (refine wpList_buildOne rfl _ 84 _ rfl (w.heap.size + 1) (by simp) _ rfl i0 _ 2 Tryz.underlying178 hi0 hz0 hz1 (by decide) (by decide) [.string Pl.each, .int .i64 1] (by rfl) rfl ?_)
  | (refine wpList_load_mid rfl 85 (.tmp 8) rfl w.heap.size 1 rfl x.units _ HRU.out Tryz.underlying85 rfl HI.out ?_; rw [HUS.out])
  | fail)
 go_loopw [3, 10] (fun av kv wr => ∃ (k n c : Nat) (A : Option Addr), k ≤ 4 ∧ kv = .int .i64 (k : Int) ∧ av = .slice A n c ∧ 1 ≤ n ∧ n ≤ k + 1 ∧ Hid (n = (Pl.unitsU x k).length) ∧ Hid (wr.ownsRow w.heap.size 84 2 (.slice A n c) n (prC (Pl.unitsU x k)).flatten) ∧ Hid (Below w.heap.size w wr)) (fun _ kv _ => 4 - (intOf kv).toNat)
 case atStart => exact ⟨0, 1, 1, _, by omega, rfl, rfl, by omega, by omega, Lib.hid rfl, HO0, HB0⟩
 case round =>
  obtain ⟨k, n, c, A, hk, rfl, rfl, hn1, hnk, HN, HO, HB⟩ := hrel
  by_cases hlt : k < 4
  · obtain ⟨p, hp⟩ : ∃ p, x.nm k = p := ⟨_, rfl⟩
    obtain ⟨z, hz⟩ : ∃ z, x.fc k = z := ⟨_, rfl⟩
    have hix := index_units (x := x) hlt wr
    rw [HUS.out, hp, hz] at hix
    have HP := Lib.hid hp
    have HZ := Lib.hid hz
    have hE := empty_iffU p
    have HSU : Hid (Pl.unitsU x (k + 1) = if decide (p.size ≠ 0) && decide (2 ≤ z) && !Pl.hasU (Pl.unitsU x k) p then Pl.unitsU x k ++ [(p, z)] else Pl.unitsU x k) := Lib.hid (by rw [← hp, ← hz]; rfl)
    have HBA : Hid (Below w.heap.size w (wr.alloc (.cells #[.string p, .int .i64 z] 84))) := Lib.hid (HB.out.alloc HB.out.size _)
    have HOA : Hid ((wr.alloc (.cells #[.string p, .int .i64 z] 84)).ownsRow w.heap.size 84 2 (.slice A n c) n (prC (Pl.unitsU x k)).flatten) := Lib.hid (HO.out.alloc _)
    have HCA : Hid ((wr.alloc (.cells #[.string p, .int .i64 z] 84)).heap[wr.heap.size]? = some (.cells #[.string p, .int .i64 z] 84 (0, 0))) := Lib.hid (heap_alloc_new _ _)
    have HWS := Lib.hid HB.out.size
    clear hp hz
    have hcase : decide (p.size = 0) = true ∨ (decide (p.size = 0) = false ∧ decide (2 ≤ z) = false) ∨ (decide (p.size = 0) = false ∧ decide (2 ≤ z) = true) := by
     by_cases h0 : p.size = 0
     · left; simp [h0]
     · by_cases h2 : 2 ≤ z
       · right; right; simp [h0, h2]
       · right; left; simp [h0]; omega
    rcases hcase with hd | ⟨hd, hd2⟩ | ⟨hd, hd2⟩
    · rw [hd] at hE
      have HSK : Hid (Pl.unitsU x (k + 1) = Pl.unitsU x k) := Lib.hid (by rw [HSU.out, if_neg]; simp only [decide_eq_true_eq] at hd; simp [hd])
      clear hd
      go_wp2_with fail
      go_roundw
      case rel => exact ⟨k + 1, n, c, A, by omega, by go_num, rfl, by omega, by omega, Lib.hid (by rw [HSK.out]; exact HN.out), Lib.hid (by rw [HSK.out]; exact HOA.out), HBA⟩
      case measure => simp [intOf]; omega
    · rw [hd] at hE
      have HSK : Hid (Pl.unitsU x (k + 1) = Pl.unitsU x k) := Lib.hid (by rw [HSU.out, if_neg]; rw [hd2]; simp)
      clear hd
      go_wp2_with fail
      go_roundw
      case rel => exact ⟨k + 1, n, c, A, by omega, by go_num, rfl, by omega, by omega, Lib.hid (by rw [HSK.out]; exact HN.out), Lib.hid (by rw [HSK.out]; exact HOA.out), HBA⟩
      case measure => simp [intOf]; omega
    · rw [hd] at hE
      obtain ⟨g, rfl⟩ := own_some HOA.out (by omega)
      have HGL : Hid (g < (wr.alloc (.cells #[.string p, .int .i64 z] 84)).heap.size) := Lib.hid (by
       obtain ⟨_, h | ⟨g', cap, cur, hv, hg, hh, hr⟩⟩ := HOA.out
       · exact absurd h.1 (by simp)
       · injection hv with h1; injection h1 with h1; injection h1 with h1; subst h1; exact lt_of_block hh)
      obtain ⟨b, hb⟩ : ∃ b, Pl.hasU (Pl.unitsU x k) p = b := ⟨_, rfl⟩
      have HSK : Hid (Pl.unitsU x (k + 1) = if b = false then Pl.unitsU x k ++ [(p, z)] else Pl.unitsU x k) := Lib.hid (by
       have h0 : p.size ≠ 0 := by simpa using hd
       rw [HSU.out, hd2, hb]; cases b <;> simp [h0])
      have HBV := Lib.hid hb
      clear hb hd
      go_wp2_with fail
      refine (named_anyU p _).mono ?_
      rintro e w1 ⟨rfl, ht1, hb1⟩
      rw [show (wr.alloc (.cells #[.string p, .int .i64 z] 84)).heap.size = wr.heap.size + 1 from by simp] at ht1
      have HT1 := Lib.hid ht1
      have HB1 := Lib.hid hb1
      have HO1 := Lib.hid (own_below HOA.out hb1)
      have HC1 : Hid (w1.heap[wr.heap.size]? = some (.cells #[.string p, .int .i64 z] 84 (0, 0))) := Lib.hid ((hb1.block _ (by simp)).trans HCA.out)
      have HG1 : Hid (g < w1.heap.size) := Lib.hid (Nat.lt_of_lt_of_le HGL.out hb1.size)
      clear ht1 hb1
      go_wp2_with fail
      refine (contains_anyU g c n _ _ _ (Pl.unitsU x k) _ (by omega) HN.out (UC.of_own HO1.out HG1.out HN.out) HT1.out).mono ?_
      rintro e w2 ⟨rfl, hb2⟩
      rw [show ((Pl.unitsU x k).any fun q => Pl.eqv q.1 p) = b from HBV.out]
      have HO2 := Lib.hid (own_below HO1.out hb2)
      have HC2 : Hid (w2.heap[wr.heap.size]? = some (.cells #[.string p, .int .i64 z] 84 (0, 0))) := Lib.hid ((hb2.block _ (lt_of_block HC1.out)).trans HC1.out)
      have HB2 : Hid (Below w.heap.size w w2) := Lib.hid ((HBA.out.trans (HB1.out.mono HBA.out.size)).trans (hb2.mono (HBA.out.trans (HB1.out.mono HBA.out.size)).size))
      clear hb2
      cases b with
      | true =>
       have HSK2 : Hid (Pl.unitsU x (k + 1) = Pl.unitsU x k) := Lib.hid (by rw [HSK.out]; simp)
       go_wp2_with fail
       go_roundw
       case rel => exact ⟨k + 1, n, c, _, by omega, by go_num, rfl, by omega, by omega, Lib.hid (by rw [HSK2.out]; exact HN.out), Lib.hid (by rw [HSK2.out]; exact HO2.out), HB2⟩
       case measure => simp [intOf]; omega
      | false =>
       have HSK2 : Hid (Pl.unitsU x (k + 1) = Pl.unitsU x k ++ [(p, z)]) := Lib.hid (by rw [HSK.out]; simp)
       have d0 : w2.cell? ⟨wr.heap.size, 0, none⟩ = some (.string p) := by rw [cell_of_block HC2.out]; rfl
       have d1 : w2.cell? ⟨wr.heap.size, 1, none⟩ = some (.int .i64 z) := by rw [cell_of_block HC2.out]; rfl
       go_wp2_with (first
        | (refine wpList_buildOne rfl _ 84 _ rfl w2.heap.size rfl _ rfl i0 _ 2 Tryz.underlying178 hi0 hz0 hz1 (by decide) (by decide) [.string p, .int .i64 z] (by rfl) rfl ?_)
        | (at_builtin; refine wpList_app rfl (.tmp 29) (.tmp 31) _ rfl w.heap.size 84 i0 _ 2 24 Tryz.underlying178 hi0 hz0 hz1 hz2 rfl (by decide) _ n _ _ rfl (HO2.out.alloc _) _ _ 1 1 [.string p, .int .i64 z] rfl rfl (rd_pair _ _ _ _) (by intro u hu; simp at hu; rcases hu with rfl | rfl <;> rfl) (by simp only [maxLen]; omega) (by omega) (by have := HB2.out.size; simp; omega) ?_; intro A9 c9 w9 hown9 hb9; have HO9 := Lib.hid hown9; have HB9 := Lib.hid ((HB2.out.alloc HB2.out.size _).trans hb9); clear hown9 hb9)
        | fail)
       go_roundw
       case rel => exact ⟨k + 1, n + 1, c9, A9, by omega, by go_num, rfl, by omega, by omega, Lib.hid (by rw [HSK2.out, List.length_append, ← HN.out]; rfl), Lib.hid (by rw [HSK2.out, ← prC_push]; exact HO9.out), HB9⟩
       case measure => simp [intOf]; omega
  · obtain rfl : k = 4 := by omega
    go_wp2_with fail
    go_ret
    exact ⟨A, n, c, HN.out, rfl, HO.out, HB.out⟩
end Go.Proofs.YtgbilfkjfeheaaaGreat

namespace Go.Proofs.YtgbilfkjfeheaaaGreat
set_option linter.unusedVariables false
open Go.RowKit
open Pl (It)

theorem first_factor (x : It) (s : ByteArray) : (firstU (fun q => Pl.eqv q s) (Pl.unitsU x 4) = -1 ∧ Pl.factorU x s = 0) ∨ ∃ i, ∃ hi : i < (Pl.unitsU x 4).length, firstU (fun q => Pl.eqv q s) (Pl.unitsU x 4) = (i : Int) ∧ (Pl.unitsU x 4)[i].2 = Pl.factorU x s ∧ 1 ≤ Pl.factorU x s := by
 unfold firstU
 rw [Pl.factor_find]
 cases h : (Pl.unitsU x 4).findIdx? (fun p => Pl.eqv p.1 s) with
 | none =>
  left
  rw [List.findIdx?_eq_none_iff] at h
  rw [List.find?_eq_none.2 (fun p hp => by rw [h p hp]; simp)]
  exact ⟨rfl, rfl⟩
 | some i =>
  right
  obtain ⟨hi, h1, h2⟩ := List.findIdx?_eq_some_iff_getElem.1 h
  have hf : (Pl.unitsU x 4).find? (fun p => Pl.eqv p.1 s) = some (Pl.unitsU x 4)[i] := by
   rw [List.find?_eq_some_iff_getElem]
   exact ⟨h1, i, hi, rfl, fun j hj => by have := h2 j hj; simpa using this⟩
  refine ⟨i, hi, rfl, by rw [hf], ?_⟩
  rw [hf]
  show 1 ≤ (Pl.unitsU x 4)[i].2
  have hm := List.getElem_mem hi
  obtain ⟨u, hu⟩ : ∃ u, (Pl.unitsU x 4)[i] = u := ⟨_, rfl⟩
  rw [hu] at hm ⊢
  rw [Pl.unitsU_places, List.mem_map] at hm
  obtain ⟨a, ha, rfl⟩ := hm
  unfold Pl.placesU at ha
  rw [List.mem_cons, List.mem_map] at ha
  rcases ha with rfl | ⟨j, hj, rfl⟩
  · exact Int.le_refl _
  · rw [List.mem_filter, List.mem_range] at hj
    have := (Pl.valid_spec hj.2).2.2.1
    show 1 ≤ x.fc j
    omega

theorem unitsU_pos (x : It) (k : Nat) : 1 ≤ (Pl.unitsU x k).length := by rw [Pl.unitsU_places]; simp [Pl.placesU]

set_option maxRecDepth 100000 in
set_option maxHeartbeats 1600000 in
theorem base_any (x : It) (s : ByteArray) (n : Int) (w : World) (hn : -9223372036854775808 ≤ n) (hn2 : n ≤ 9223372036854775807) : Calls Tryz.prog 69 #[.agg x.cells.toArray, .string s, .int .i64 n] w fun e w' => e = .returned (.tuple #[.int .i64 (Pl.baseU x s n), .int .i64 (Pl.baseE x s n)]) ∧ Below w.heap.size w w' := by
 have hff := first_factor x s
 have hul := Pl.unitsU_len x 4
 have hup := unitsU_pos x 4
 have HUO : Hid (∀ W, Calls Tryz.prog 102 #[.agg x.cells.toArray] W fun e w' => ∃ A n c, n = (Pl.unitsU x 4).length ∧ e = .returned (.slice A n c) ∧ w'.ownsRow W.heap.size 84 2 (.slice A n c) n (prC (Pl.unitsU x 4)).flatten ∧ Below W.heap.size W w') := Lib.hid (fun W => unitsOf_any x W)
 obtain ⟨l, hl⟩ : ∃ l, Pl.unitsU x 4 = l := ⟨_, rfl⟩
 rw [hl] at HUO hff hul hup
 clear hl
 obtain ⟨f, hf⟩ : ∃ f, Pl.factorU x s = f := ⟨_, rfl⟩
 obtain ⟨r, hr⟩ : ∃ r, Pl.baseU x s n = r := ⟨_, rfl⟩
 obtain ⟨er, her⟩ : ∃ r, Pl.baseE x s n = r := ⟨_, rfl⟩
 rw [hr, her]
 unfold Pl.baseU at hr
 unfold Pl.baseE at her
 rw [hf] at hff hr her
 clear hf
 obtain ⟨fi, hfi⟩ : ∃ i, firstU (fun q => Pl.eqv q s) l = i := ⟨_, rfl⟩
 rw [hfi] at hff
 have HFI := Lib.hid hfi
 clear hfi
 have HBA : Hid (Below w.heap.size w (w.alloc (.cells x.cells.toArray 87))) := Lib.hid ((Below.refl _ w).alloc (Nat.le_refl _) _)
 have HX0 : Hid ((w.alloc (.cells x.cells.toArray 87)).heap[w.heap.size]? = some (.cells x.cells.toArray 87 (0, 0))) := Lib.hid (heap_alloc_new _ _)
 have hui := Tryz.underlying87
 have HSX : Hid ((Tryz.prog.info? 87).map (·.size) = some x.cells.toArray.size) := Lib.hid (by rw [show (Tryz.prog.info? 87).map (·.size) = some 14 from by kernel_rfl]; rfl)
 go_enter Tryz.func69, Tryz.ntmps69
 go_wp2_with (first
  | (refine wpList_load_row rfl 87 (.tmp 3) rfl w.heap.size rfl _ _ _ _ HX0.out hui rfl HSX.out ?_)
  | fail)
 refine (HUO.out _).mono ?_
 rintro e w1 ⟨A, m, c, hm, rfl, hown, hb1⟩
 have HM := Lib.hid hm
 have B1 := Lib.hid (HBA.out.trans (hb1.mono HBA.out.size))
 have hm5 : m ≤ 5 := by omega
 have hm1 : 1 ≤ m := by omega
 clear hm hb1
 obtain ⟨g, rfl⟩ := own_some hown (by omega)
 have HO1 := Lib.hid hown
 clear hown
 go_wp2_with fail
 refine (named_anyU s w1).mono ?_
 rintro e w2 ⟨rfl, ht2, hb2⟩
 have HT2 := Lib.hid ht2
 have HO2 := Lib.hid (own_below HO1.out hb2)
 have B2 := Lib.hid (B1.out.trans (hb2.mono B1.out.size))
 clear ht2 hb2
 go_wp2_with fail
 refine (index_anyU g c m _ _ _ l w2 (by omega) HM.out (UC.of_own HO2.out (own_ltU HO2.out) HM.out) HT2.out).mono ?_
 rintro e w3 ⟨rfl, hb3⟩
 rw [HFI.out]
 have HO3 := Lib.hid (own_below HO2.out hb3)
 have B3 := Lib.hid (B2.out.trans (hb3.mono B2.out.size))
 have HC3 := Lib.hid (UC.of_own HO3.out (own_ltU HO3.out) HM.out)
 clear hb3
 rcases hff with ⟨rfl, rfl⟩ | ⟨i, hi, rfl, hfi, hf1⟩
 · rw [if_pos rfl] at hr her
   subst hr her
   go_wp2_with fail
   go_ret2
   exact ⟨rfl, B3.out⟩
 · rw [if_neg (by omega)] at hr her
   have c1 := (HC3.out.2 i hi).2
   rw [hfi] at c1
   have him : i < m := by rw [HM.out]; exact hi
   have hgl := HC3.out.1
   have HFI2 := Lib.hid hfi
   clear hfi
   by_cases hn1 : n < 1
   · rw [if_pos (.inl hn1)] at hr her
     subst hr her
     go_wp2_with fail
     go_ret2
     exact ⟨rfl, B3.out⟩
   · have hov := Pl.over_iff (f := f) (n := n) hf1
     have htd := tdiv_posU f hf1
     obtain ⟨q, hq⟩ : ∃ q, (1000000000 : Int) / f = q := ⟨_, rfl⟩
     rw [hq] at hov htd
     have hm0 : 0 ≤ q := by rw [← hq]; exact Int.ediv_nonneg (by omega) (by omega)
     have hq1 : q ≤ 1000000000 := by rw [← hq]; exact Int.ediv_le_self _ (by omega)
     clear hq
     by_cases ho : q < n
     · have ho2 := hov.1 ho
       rw [if_pos (.inr ho2)] at hr her
       subst hr her
       clear hov ho2
       go_wp2_with fail
       go_ret2
       exact ⟨rfl, B3.out⟩
     · have ho2 : ¬ 1000000000 < n * f := fun h => ho (hov.2 h)
       rw [if_neg (by omega)] at hr her
       have hnf : 0 ≤ n * f := Int.mul_nonneg (by omega) (by omega)
       subst her
       rw [hr] at ho2 hnf
       have hw : wrap64 (n * f) = r := by rw [hr]; exact IntWalk.wrap64_in r ⟨by omega, by omega⟩
       have HP := Lib.hid hr
       have HWR := Lib.hid hw
       clear hov hr hw
       go_wp2_with fail
       go_ret2
       exact ⟨by rw [← HWR.out]; rfl, B3.out⟩
end Go.Proofs.YtgbilfkjfeheaaaGreat
