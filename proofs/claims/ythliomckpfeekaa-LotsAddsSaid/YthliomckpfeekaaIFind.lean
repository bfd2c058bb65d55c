/-
  CONTRACTS of items' byCode, Find.
-/
import Derived.Test.YthliomckpfeekaaGP
import Derived.Test.YthliomckpfeekaaIPlain
import Derived.Test.YthliomckpfeekaaHHouse
import Derived.Laws.Externs
import Derived.BigQuiet
import Derived.Deep.RegionHeld3
namespace Go.Proofs.Ythliomckpfeekaa
set_option linter.unusedVariables false
open Go.RowKit
open Pl (firstG findG)

set_option maxRecDepth 100000 in
theorem cmpstr_any (a b : ByteArray) (w : World) : Calls Try.prog 71 #[.string a, .string b] w fun e w' => e = .returned (.int .i64 (Pl.cmp a b)) ∧ w' = w := by
  have H := Lib.hid (Pl.compare_eq a b)
  go_enter Try.func71, Try.ntmps71
  go_wp2
  rw [run_callFunc_extern Try.func78 (by kernel_rfl) (by kernel_rfl) (by kernel_rfl) (e := Extern.BytealgCompare.compare) (by kernel_rfl), Lib.run_compareString]
  simp only [Result.andThen]
  rw [Oper.upon_value]
  go_wp2
  go_ret
  exact ⟨by rw [← H.out]; rfl, rfl⟩
theorem compare_any (a b : ByteArray) (w : World) : Calls Try.prog 62 #[.string a, .string b] w fun e w' => e = .returned (.int .i64 (Pl.cmp a b)) ∧ w' = w := by
  go_enter Try.func62, Try.ntmps62
  go_wp2_with fail
  refine (cmpstr_any a b _).mono ?_
  rintro e w' ⟨rfl, rfl⟩
  go_wp2_with fail
  go_ret
  exact ⟨rfl, rfl⟩

/-- A thing's code. -/
def codeOf : List Value → ByteArray
  | .string s :: _ => s
  | _ => ByteArray.empty
def ordI (a b : List Value) : Int := Pl.cmp (codeOf a) (codeOf b)
theorem item_code {x : List Value} (h : Fits kItem x) : ∃ r, x = .string (codeOf x) :: r := by
  match x, h with
  | v :: r, h => obtain ⟨d, rfl⟩ := h.1; exact ⟨r, rfl⟩

set_option maxRecDepth 100000 in
theorem order_any (x y : List Value) (w : World) (hx : Fits kItem x) (hy : Fits kItem y) : Calls Try.prog 75 #[.agg x.toArray, .agg y.toArray] w fun e w' => e = .returned (.int .i64 (ordI x y)) ∧ Below w.heap.size w w' := by
  obtain ⟨r, hxr⟩ := item_code hx
  obtain ⟨q, hyr⟩ := item_code hy
  have HB : Hid (Below w.heap.size w ((w.alloc (.cells x.toArray 59)).alloc (.cells y.toArray 59))) := Lib.hid (((Below.refl _ _).alloc (Nat.le_refl _) _).alloc (by simp) _)
  have c0 : ((w.alloc (.cells x.toArray 59)).alloc (.cells y.toArray 59)).cell? ⟨w.heap.size, 0, none⟩ = some (.string (codeOf x)) := by
    rw [cell_of_row _ w.heap.size 0 x.toArray 59 (0, 0) ((Below.heap_alloc _ _ _ (by simp)).trans (heap_alloc_new _ _))]
    rw [List.getElem?_toArray]
    rw [hxr]; rfl
  have c1 : ((w.alloc (.cells x.toArray 59)).alloc (.cells y.toArray 59)).cell? ⟨w.heap.size + 1, 0, none⟩ = some (.string (codeOf y)) := by
    have hh := heap_alloc_new (w.alloc (.cells x.toArray 59)) (.cells y.toArray 59)
    rw [cell_of_row _ (w.heap.size + 1) 0 y.toArray 59 (0, 0) (by simpa using hh)]
    rw [List.getElem?_toArray]
    rw [hyr]; rfl
  obtain ⟨s, hs⟩ : ∃ s, codeOf x = s := ⟨_, rfl⟩
  obtain ⟨t, ht⟩ : ∃ s, codeOf y = s := ⟨_, rfl⟩
  have HV : Hid (ordI x y = Pl.cmp s t) := Lib.hid (by unfold ordI; rw [hs, ht])
  rw [hs] at c0
  rw [ht] at c1
  clear hs ht hxr hyr hx hy
  go_enter Try.func75, Try.ntmps75
  go_wp2_with fail
  refine (compare_any s t _).mono ?_
  rintro e w' ⟨rfl, rfl⟩
  go_wp2_with fail
  go_ret
  exact ⟨by rw [HV.out]; rfl, HB.out⟩

theorem tellsI (w : World) : TellsO kItem w 75 #[] ordI := ⟨fun args W => by kernel_rfl, fun W _ a b ha hb => order_any a b W ha hb⟩

/-- The table of items. -/
abbrev tv : Value := .func (.func 75) #[] #[]
theorem store_func (P : Program) (w : World) (a : Addr) (m : Mode) (f : Fn) (x y : Array Value) : (store a (.func f x y) m).run P w = stored P w a (.func f x y) m := run_store P w a _ m rfl
attribute [local go_sem] store_func
theorem bycode_any (w : World) : Calls Try.prog 69 #[] w fun e w' => e = .returned (.agg #[tv]) ∧ Below w.heap.size w w' := by
  go_enter Try.func69, Try.ntmps69
  go_wp2
  refine bodyPost_ret (v := .agg #[tv]) ?_ rfl ⟨rfl, ?_⟩
  · simp [results, Try.results69, go_sem]
  · exact (Below.refl _ _).alloc (Nat.le_refl _) _

/-- Two results: a struct's box, and a value. -/
theorem results_row_tmp {P : Program} {fn : Func} {p q : Tmp} {ty : TypeId} (h : fn.results = #[.cell p ty, .tmp q]) (tmps : Array Value) (w : World) (g : Nat) (t : TypeId) (cs : Array Value) (fr : Nat × Nat) (d : TypeDesc)
    (hp : tmps.getD p undef = .pointer (some ⟨g, 0, none⟩)) (hg : w.heap[g]? = some (.cells cs t fr))
    (hu : P.underlying ty = some d) (hd : (match d with | .struct _ | .array _ _ => true | _ => false) = true) (hi : (P.info? ty).map (·.size) = some cs.size) :
    (results fn tmps).run P w = .ok (.tuple #[.agg cs, tmps.getD q undef]) w := by
  have hp' : tmps[p]?.getD undef = .pointer (some ⟨g, 0, none⟩) := by simpa using hp
  simp [results, h, hp', asAddr, run_loadVar_row w g t ty cs fr d hg hu hd hi]

def zeroI : List Value := [.string ⟨#[]⟩, .string ⟨#[]⟩, .int .i64 0, .string ⟨#[]⟩, .int .i64 0, .string ⟨#[]⟩, .int .i64 0, .string ⟨#[]⟩, .int .i64 0, .int .i64 0, .int .i64 0, .bool false, .bool false, .bool false]
def keyI (s : ByteArray) : List Value := [.string s, .string ⟨#[]⟩, .int .i64 0, .string ⟨#[]⟩, .int .i64 0, .string ⟨#[]⟩, .int .i64 0, .string ⟨#[]⟩, .int .i64 0, .int .i64 0, .int .i64 0, .bool false, .bool false, .bool false]
theorem keyI_fits (s : ByteArray) : Fits kItem (keyI s) := ⟨⟨_, rfl⟩, ⟨_, rfl⟩, ⟨_, rfl⟩, ⟨_, rfl⟩, ⟨_, rfl⟩, ⟨_, rfl⟩, ⟨_, rfl⟩, ⟨_, rfl⟩, ⟨_, rfl⟩, ⟨_, rfl⟩, ⟨_, rfl⟩, ⟨_, rfl⟩, ⟨_, rfl⟩, ⟨_, rfl⟩, trivial⟩
theorem zeroI_fits : Fits kItem zeroI := keyI_fits _
/-- Where an item of a code stands; the item. -/
def atI (L : List (List Value)) (s : ByteArray) : Option Nat := findG ordI L (keyI s)
def gotI (L : List (List Value)) (s : ByteArray) : List Value := match atI L s with | some i => L.getD i zeroI | none => zeroI
theorem gotI_fits {L : List (List Value)} (h : Things kItem L) (s : ByteArray) : Fits kItem (gotI L s) := by
  unfold gotI
  split
  · rename_i i hi
    have hl : i < L.length := Pl.firstG_lt hi
    rw [List.getD_eq_getElem?_getD, List.getElem?_eq_getElem hl]
    exact h _ (List.getElem_mem hl)
  · exact zeroI_fits

set_option maxRecDepth 100000 in
set_option maxHeartbeats 1600000 in
theorem finds_any (h : Hs) (L : List (List Value)) (s : ByteArray) (w : World) (hn : h.n 0 = L.length) (hn6 : h.n 0 ≤ 1000000) (hL : Things kItem L) (hr : Rd w w.heap.size (h.A 0) L.flatten) :
    Calls Try.prog 55 #[h.val, .string s] w fun e w' => e = .returned (.tuple #[.agg (gotI L s).toArray, .bool (atI L s).isSome]) ∧ Below w.heap.size w w' := by
  obtain ⟨W0, hW0⟩ : ∃ W0, W0 = (w.alloc (.cells #[.slice (h.A 0) (h.n 0) (h.c 0), .slice (h.A 1) (h.n 1) (h.c 1), .slice (h.A 2) (h.n 2) (h.c 2), .slice (h.A 3) (h.n 3) (h.c 3), .slice (h.A 4) (h.n 4) (h.c 4), .slice (h.A 5) (h.n 5) (h.c 5), .slice (h.A 6) (h.n 6) (h.c 6), .slice (h.A 7) (h.n 7) (h.c 7), .slice (h.A 8) (h.n 8) (h.c 8), .slice (h.A 9) (h.n 9) (h.c 9), .slice (h.A 10) (h.n 10) (h.c 10), .slice (h.A 11) (h.n 11) (h.c 11), .slice (h.A 12) (h.n 12) (h.c 12), .slice (h.A 13) (h.n 13) (h.c 13), .int .i64 h.z] 37)).alloc (.cells #[.string ⟨#[]⟩, .string ⟨#[]⟩, .int .i64 0, .string ⟨#[]⟩, .int .i64 0, .string ⟨#[]⟩, .int .i64 0, .string ⟨#[]⟩, .int .i64 0, .int .i64 0, .int .i64 0, .bool false, .bool false, .bool false] 59) := ⟨_, rfl⟩
  have hb0 : Below w.heap.size w W0 := by rw [hW0]; exact ((Below.refl _ _).alloc (Nat.le_refl _) _).alloc (by simp) _
  have hs0 : W0.heap.size = w.heap.size + 2 := by rw [hW0]; simp
  have HBX : Hid (∀ W, Below W0.heap.size W0 W → W.cell? ⟨w.heap.size, 0, none⟩ = some (.slice (h.A 0) (h.n 0) (h.c 0))) := Lib.hid (fun W hW => (hW.cell (p := ⟨w.heap.size, 0, none⟩) (by simp; omega)).trans (by rw [hW0]; simp [go_sem]))
  have HRX : Hid (∀ W, Below W0.heap.size W0 W → W.heap[w.heap.size + 1]? = some (.cells zeroI.toArray 59 (0, 0))) := Lib.hid (fun W hW => (hW.block _ (by omega)).trans (by
    rw [hW0]
    have := heap_alloc_new (w.alloc (.cells #[.slice (h.A 0) (h.n 0) (h.c 0), .slice (h.A 1) (h.n 1) (h.c 1), .slice (h.A 2) (h.n 2) (h.c 2), .slice (h.A 3) (h.n 3) (h.c 3), .slice (h.A 4) (h.n 4) (h.c 4), .slice (h.A 5) (h.n 5) (h.c 5), .slice (h.A 6) (h.n 6) (h.c 6), .slice (h.A 7) (h.n 7) (h.c 7), .slice (h.A 8) (h.n 8) (h.c 8), .slice (h.A 9) (h.n 9) (h.c 9), .slice (h.A 10) (h.n 10) (h.c 10), .slice (h.A 11) (h.n 11) (h.c 11), .slice (h.A 12) (h.n 12) (h.c 12), .slice (h.A 13) (h.n 13) (h.c 13), .int .i64 h.z] 37)) (.cells zeroI.toArray 59)
    simpa [zeroI] using this))
  have HFI : Hid (∀ W, Below W0.heap.size W0 W → Calls Try.prog 70 #[.agg #[tv], .slice (h.A 0) (h.n 0) (h.c 0), .agg #[.string s, .string ⟨#[]⟩, .int .i64 0, .string ⟨#[]⟩, .int .i64 0, .string ⟨#[]⟩, .int .i64 0, .string ⟨#[]⟩, .int .i64 0, .int .i64 0, .int .i64 0, .bool false, .bool false, .bool false]] W fun e w' => e = .returned (firstV (atI L s)) ∧ Below W.heap.size W w') := Lib.hid (fun W hW =>
    findItem (h.A 0) (h.n 0) (h.c 0) 75 #[] ordI (keyI s) L W hn hn6 hL (keyI_fits s) ((hr.below (hb0.trans (hW.mono (by omega)))).mono (hb0.trans (hW.mono (by omega))).size) (tellsI W))
  have HN := Lib.hid hn
  have HL := Lib.hid hL
  have HR := Lib.hid hr
  have HB0 := Lib.hid hb0
  have HS0 := Lib.hid hs0
  have H : Hid (Below W0.heap.size W0 W0.drew) := Lib.hid (Below.refl _ _).drew
  have hu := Try.underlying59
  have HSZ : Hid (∀ y, Fits kItem y → (Try.prog.info? 59).map (·.size) = some y.toArray.size) := Lib.hid (fun y hy => by rw [show (Try.prog.info? 59).map (·.size) = some 14 from by kernel_rfl, List.size_toArray, hy.length]; rfl)
  clear hn hL hr hb0 hs0
  obtain ⟨o, ho⟩ : ∃ o, atI L s = o := ⟨_, rfl⟩
  rw [ho] at HFI ⊢
  have HO := Lib.hid ho
  clear ho
  cases o with
  | none =>
    rw [firstV_none] at HFI
    unfold Hs.val
    go_enter Try.func55, Try.ntmps55
    go_wp2_with fail
    rw [← hW0]
    clear hW0
    go_region_held3 (fun w' => w'.cell? ⟨w.heap.size, 0, none⟩ = some (.slice (h.A 0) (h.n 0) (h.c 0)))
      (first | exact HBX.out _ H.out)
      (first
        | (go_at_call 69; refine (bycode_any _).mono ?_; rintro e w' ⟨rfl, hb'⟩; have H := Lib.hid (H.out.trans (hb'.mono H.out.size)); clear hb')
        | (go_at_call 70; refine (HFI.out _ H.out).mono ?_; rintro e w' ⟨rfl, hb'⟩; have H := Lib.hid (H.out.trans (hb'.mono H.out.size)); clear hb'))
    have HRW := Lib.hid (HRX.out _ H.out)
    go_wp2_with (first
      | (refine wpList_store_row rfl 59 (.tmp 4) (.tmp 19) rfl (w.heap.size + 1) zeroI.toArray rfl rfl _ _ HRW.out (HSZ.out _ zeroI_fits) rfl (by simp [zeroI, Value.oneCell']) ?_)
      | fail)
    have HBE : Hid (Below w.heap.size w (w'.setRow (w.heap.size + 1) zeroI.toArray)) := Lib.hid (by
      have hb := HB0.out.trans (H.out.mono HB0.out.size)
      exact ⟨hb.os, hb.tape, hb.output, by simpa using hb.size, fun k hk => (setRow_other _ _ k _ (by omega)).trans (hb.block k hk)⟩)
    have HG : Hid (gotI L s = zeroI) := Lib.hid (by unfold gotI; rw [HO.out])
    exact bodyPost_ret (results_row_tmp rfl _ _ (w.heap.size + 1) _ _ _ _ rfl (setRow_heap _ _ _ _ _ _ HRW.out) hu rfl (HSZ.out _ zeroI_fits)) rfl ⟨by rw [HG.out]; rfl, HBE.out⟩
  | some i =>
    rw [firstV_some] at HFI
    have hl : i < L.length := Pl.firstG_lt HO.out
    have hin : i < h.n 0 := by rw [HN.out]; exact hl
    obtain ⟨b, off, hA, hb, hc⟩ := HR.out.thing HL.out (by decide) hl
    have HG : Hid (gotI L s = L[i]) := Lib.hid (by unfold gotI; rw [HO.out]; simp only []; rw [List.getD_eq_getElem?_getD, List.getElem?_eq_getElem hl]; rfl)
    have fx := HL.out _ (List.getElem_mem hl)
    have r1 := hc i hl
    rw [show kItem.length = 14 from rfl] at r1
    obtain ⟨x, hx⟩ : ∃ x, L[i] = x := ⟨_, rfl⟩
    rw [hx] at fx r1 HG
    have HF := Lib.hid fx
    have HR1 : Hid (∀ W, Below W0.heap.size W0 W → W.rangeAt b (off + i * 14) x) := Lib.hid (fun W hW => rangeAt_below r1 hb (HB0.out.trans (hW.mono HB0.out.size)))
    have hlb : b < w.heap.size := hb
    have HIX : Hid ((Try.prog.info? 59).map (·.size) = some x.length) := Lib.hid (by have := HSZ.out x fx; rwa [List.size_toArray] at this)
    have HOZ : Hid (zeroI.toArray.size = x.toArray.size) := Lib.hid (by rw [List.size_toArray, List.size_toArray, fx.length]; rfl)
    have HOC : Hid (x.toArray.all (·.oneCell') = true) := Lib.hid (all_oneCell_toArray (fits_one fx))
    have h1 : (0 : Int) ≤ (i : Int) := by omega
    have h2 : (i : Int) < (h.n 0 : Int) := by omega
    rw [hA] at HBX HFI hW0
    unfold Hs.val
    rw [hA]
    clear hc r1 hx fx hb hA HR hl
    go_enter Try.func55, Try.ntmps55
    go_wp2_with fail
    rw [← hW0]
    clear hW0
    go_region_held3 (fun w' => w'.cell? ⟨w.heap.size, 0, none⟩ = some (.slice (some ⟨b, off, none⟩) (h.n 0) (h.c 0)))
      (first | exact HBX.out _ H.out)
      (first
        | (go_at_call 69; refine (bycode_any _).mono ?_; rintro e w' ⟨rfl, hb'⟩; have H := Lib.hid (H.out.trans (hb'.mono H.out.size)); clear hb')
        | (go_at_call 70; refine (HFI.out _ H.out).mono ?_; rintro e w' ⟨rfl, hb'⟩; have H := Lib.hid (H.out.trans (hb'.mono H.out.size)); clear hb'))
    have HRW := Lib.hid (HRX.out _ H.out)
    have HRM := Lib.hid (HR1.out _ H.out)
    have c0 := HBX.out _ H.out
    go_wp2_with (first
      | (refine wpList_load_mid rfl 59 (.tmp 23) rfl b (off + i * 14) rfl x _ HRM.out hu rfl HIX.out ?_)
      | (refine wpList_store_row rfl 59 (.tmp 4) (.tmp 24) rfl (w.heap.size + 1) x.toArray rfl rfl _ _ HRW.out (HSZ.out _ HF.out) HOZ.out HOC.out ?_)
      | fail)
    have HBE : Hid (Below w.heap.size w (w'.setRow (w.heap.size + 1) x.toArray)) := Lib.hid (by
      have hb := HB0.out.trans (H.out.mono HB0.out.size)
      exact ⟨hb.os, hb.tape, hb.output, by simpa using hb.size, fun k hk => (setRow_other _ _ k _ (by omega)).trans (hb.block k hk)⟩)
    exact bodyPost_ret (results_row_tmp rfl _ _ (w.heap.size + 1) _ _ _ _ rfl (setRow_heap _ _ _ _ _ _ HRW.out) hu rfl (HSZ.out _ HF.out)) rfl ⟨by rw [HG.out]; rfl, HBE.out⟩
end Go.Proofs.Ythliomckpfeekaa
