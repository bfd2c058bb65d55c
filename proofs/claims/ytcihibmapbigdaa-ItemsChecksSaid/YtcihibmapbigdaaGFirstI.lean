/-
  CONTRACTS of the table's first, Find, for things of one kind. (By wip/tools/gen_table.py.)
-/
import Derived.Test.YtcihibmapbigdaaGTabI
namespace Go.Proofs.Ytcihibmapbigdaa
set_option linter.unusedVariables false
open Go.RowKit
open Pl (firstG firstG_none firstG_some findG overG putG)

set_option maxRecDepth 100000 in
set_option maxHeartbeats 800000 in
theorem firstItem (A : Option Addr) (n c K : Nat) (cap : Array Value) (f : List Value → Bool) (L : List (List Value)) (w : World) (hn : n = L.length) (hn63 : n ≤ 1000000) (hL : Things kItem L)
    (hr : Rd w w.heap.size A L.flatten) (hT : TellsF kItem w K cap f) :
    Calls Try.prog 59 #[.slice A n c, .func (.func K) #[] cap] w fun e w' => e = .returned (firstV (firstG f L)) ∧ Below w.heap.size w w' := by
  have HN := Lib.hid hn
  have HR := Lib.hid hr
  have HT := Lib.hid hT
  have HL := Lib.hid hL
  have hk : kItem.length = 14 := by decide
  have hu := Try.underlying42
  have HSZ : Hid (∀ y, Fits kItem y → (Try.prog.info? 42).map (·.size) = some y.toArray.size) := Lib.hid (fun y hy => by rw [show (Try.prog.info? 42).map (·.size) = some 14 from by kernel_rfl, List.size_toArray, hy.length]; rfl)
  clear hn hr hT hL
  go_enter Try.func59, Try.ntmps59
  go_wp2_with fail
  go_loopw [10] (fun i wr => ∃ k : Nat, k ≤ n ∧ i = .int .i64 (k : Int) ∧ Hid (∀ j (hj : j < L.length), j < k → f L[j] = false) ∧ Hid (Below w.heap.size w wr)) (fun i _ => n - (intOf i).toNat)
  case atStart => exact ⟨0, by omega, rfl, Lib.hid (fun j hj h => by omega), Lib.hid (Below.refl _ _)⟩
  case round =>
    obtain ⟨k, hkn, rfl, hno, hbel⟩ := hrel
    by_cases hlt : k < n
    · have hl : k < L.length := by rw [← HN.out]; exact hlt
      obtain ⟨b, off, rfl, hb, hc⟩ := HR.out.thing HL.out (by rw [hk]; decide) hl
      have fx := HL.out _ (List.getElem_mem hl)
      have r1 := rangeAt_below (hc k hl) hb hbel.out
      rw [hk] at r1
      have hlb : b < wr.heap.size := Nat.lt_of_lt_of_le hb hbel.out.size
      have h1 : (0 : Int) ≤ (k : Int) := by omega
      have h2 : (k : Int) < (n : Int) := by omega
      obtain ⟨x, hx⟩ : ∃ x, L[k] = x := ⟨_, rfl⟩
      rw [hx] at fx r1
      have HX := Lib.hid hx
      have HF := Lib.hid fx
      have HR1 := Lib.hid r1
      have hix : (Try.prog.info? 42).map (·.size) = some x.length := by have := HSZ.out x fx; rwa [List.size_toArray] at this
      have HIX := Lib.hid hix
      have HW2 : Hid (Below w.heap.size w (wr.alloc (.cells #[.string ⟨#[]⟩, .string ⟨#[]⟩, .int .i64 0, .string ⟨#[]⟩, .int .i64 0, .string ⟨#[]⟩, .int .i64 0, .string ⟨#[]⟩, .int .i64 0, .int .i64 0, .int .i64 0, .bool false, .bool false, .bool false] 42))) := Lib.hid (hbel.out.alloc hbel.out.size _)
      have HBX : Hid ((wr.alloc (.cells #[.string ⟨#[]⟩, .string ⟨#[]⟩, .int .i64 0, .string ⟨#[]⟩, .int .i64 0, .string ⟨#[]⟩, .int .i64 0, .string ⟨#[]⟩, .int .i64 0, .int .i64 0, .int .i64 0, .bool false, .bool false, .bool false] 42)).heap[wr.heap.size]? = some (.cells #[.string ⟨#[]⟩, .string ⟨#[]⟩, .int .i64 0, .string ⟨#[]⟩, .int .i64 0, .string ⟨#[]⟩, .int .i64 0, .string ⟨#[]⟩, .int .i64 0, .int .i64 0, .int .i64 0, .bool false, .bool false, .bool false] 42 (0, 0))) := Lib.hid (heap_alloc_new _ _)
      have HSR : Hid (Below w.heap.size w ((wr.alloc (.cells #[.string ⟨#[]⟩, .string ⟨#[]⟩, .int .i64 0, .string ⟨#[]⟩, .int .i64 0, .string ⟨#[]⟩, .int .i64 0, .string ⟨#[]⟩, .int .i64 0, .int .i64 0, .int .i64 0, .bool false, .bool false, .bool false] 42)).setRow wr.heap.size x.toArray)) := Lib.hid ⟨HW2.out.os, HW2.out.tape, HW2.out.output, by simpa using HW2.out.size, fun k hk => (setRow_other _ wr.heap.size k x.toArray (by have := hbel.out.size; omega)).trans (HW2.out.block k hk)⟩
      have HRX : Hid (((wr.alloc (.cells #[.string ⟨#[]⟩, .string ⟨#[]⟩, .int .i64 0, .string ⟨#[]⟩, .int .i64 0, .string ⟨#[]⟩, .int .i64 0, .string ⟨#[]⟩, .int .i64 0, .int .i64 0, .int .i64 0, .bool false, .bool false, .bool false] 42)).setRow wr.heap.size x.toArray).heap[wr.heap.size]? = some (.cells x.toArray 42 (0, 0))) := Lib.hid (setRow_heap _ _ _ _ _ _ HBX.out)
      have HO : Hid ((#[.string ⟨#[]⟩, .string ⟨#[]⟩, .int .i64 0, .string ⟨#[]⟩, .int .i64 0, .string ⟨#[]⟩, .int .i64 0, .string ⟨#[]⟩, .int .i64 0, .int .i64 0, .int .i64 0, .bool false, .bool false, .bool false] : Array Value).size = x.toArray.size) := Lib.hid (by rw [List.size_toArray, List.size_toArray, HF.out.length]; rfl)
      have HOC : Hid (x.toArray.all (·.oneCell') = true) := Lib.hid (all_oneCell_toArray (fits_one HF.out))
      clear hc r1 hx fx hix hb
      cases hf : f x with
      | true =>
        have HFX := Lib.hid hf
        have HV : Hid (firstV (firstG f L) = .tuple #[.int .i64 (k : Int), .bool true]) := Lib.hid (by
          rw [firstG_some hl (fun j hj hjk => hno.out j hj hjk) (by rw [HX.out]; exact hf)]; rfl)
        clear hf
        go_wp2_with (first
          | (refine wpList_load_mid rfl 42 (.tmp 13) rfl b (off + k * 14) rfl x _ HR1.out hu rfl HIX.out ?_)
          | (refine wpList_store_row rfl 42 (.tmp 7) (.tmp 14) rfl wr.heap.size x.toArray rfl rfl _ _ HBX.out (HSZ.out _ HF.out) HO.out HOC.out ?_)
          | (refine wpList_load_row rfl 42 (.tmp 7) rfl wr.heap.size rfl _ _ _ _ HRX.out hu rfl (HSZ.out _ HF.out) ?_)
          | fail)
        refine (holdsItem K cap f x _ (HT.out.later HSR.out) HF.out).mono ?_
        rintro e w1 ⟨rfl, hb1⟩
        have B1 := Lib.hid (HSR.out.trans (hb1.mono HSR.out.size))
        clear hb1
        have hf := HFX.out
        go_wp2_with fail
        go_ret2
        exact ⟨by rw [HV.out]; rfl, B1.out⟩
      | false =>
        have HFX := Lib.hid hf
        have HNO : Hid (∀ j (hj : j < L.length), j < k + 1 → f L[j] = false) := Lib.hid (fun j hj hjk => by
          by_cases e : j = k
          · subst e; rw [HX.out]; exact hf
          · exact hno.out j hj (by omega))
        clear hf
        go_wp2_with (first
          | (refine wpList_load_mid rfl 42 (.tmp 13) rfl b (off + k * 14) rfl x _ HR1.out hu rfl HIX.out ?_)
          | (refine wpList_store_row rfl 42 (.tmp 7) (.tmp 14) rfl wr.heap.size x.toArray rfl rfl _ _ HBX.out (HSZ.out _ HF.out) HO.out HOC.out ?_)
          | (refine wpList_load_row rfl 42 (.tmp 7) rfl wr.heap.size rfl _ _ _ _ HRX.out hu rfl (HSZ.out _ HF.out) ?_)
          | fail)
        refine (holdsItem K cap f x _ (HT.out.later HSR.out) HF.out).mono ?_
        rintro e w1 ⟨rfl, hb1⟩
        have B1 := Lib.hid (HSR.out.trans (hb1.mono HSR.out.size))
        clear hb1
        have hf := HFX.out
        go_wp2_with fail
        go_roundw
        case rel => exact ⟨k + 1, by omega, by go_num, HNO, B1⟩
        case measure => simp [intOf]; omega
    · have HV : Hid (firstV (firstG f L) = .tuple #[.int .i64 0, .bool false]) := Lib.hid (by
        rw [firstG_none (fun j hj => hno.out j hj (by have := HN.out; omega))]; rfl)
      go_wp2_with fail
      go_ret2
      exact ⟨by rw [HV.out]; rfl, hbel.out⟩

/-- The boxes of a table and of a thing. -/
abbrev tabW (w : World) (K : Nat) (cap : Array Value) (x : List Value) (T T2 : TypeId) : World := (w.alloc (.cells #[.func (.func K) #[] cap] T)).alloc (.cells x.toArray T2)
theorem tabW_below (w : World) (K : Nat) (cap : Array Value) (x : List Value) (T T2 : TypeId) : Below w.heap.size w (tabW w K cap x T T2) := ((Below.refl _ _).alloc (Nat.le_refl _) _).alloc (by simp) _
theorem tabW_cell {w w1 : World} {K : Nat} {cap : Array Value} {x : List Value} {T T2 : TypeId} (hb : Below (w.heap.size + 2) (tabW w K cap x T T2) w1) : w1.cell? ⟨w.heap.size, 0, none⟩ = some (.func (.func K) #[] cap) := (hb.cell (p := ⟨w.heap.size, 0, none⟩) (by simp)).trans (by simp [go_sem])
theorem tabW_row {w w1 : World} {K : Nat} {cap : Array Value} {x : List Value} {T T2 : TypeId} (hb : Below (w.heap.size + 2) (tabW w K cap x T T2) w1) : w1.heap[w.heap.size + 1]? = some (.cells x.toArray T2 (0, 0)) := (hb.block _ (by omega)).trans (by
  have := heap_alloc_new (w.alloc (.cells #[.func (.func K) #[] cap] T)) (.cells x.toArray T2)
  simpa using this)

theorem tellsFindItem (w w1 : World) (K : Nat) (cap : Array Value) (ord : List Value → List Value → Int) (x : List Value) (hb : Below (w.heap.size + 2) (tabW w K cap x 106 42) w1) (hO : TellsO kItem w K cap ord) (hx : Fits kItem x) :
    TellsF kItem w1 63 #[.pointer (some ⟨w.heap.size, 0, none⟩), .pointer (some ⟨w.heap.size + 1, 0, none⟩)] (fun s => ord s x == 0) := by
  refine ⟨fun args W => by kernel_rfl, fun W hW s hs => ?_⟩
  have hsz := hb.size
  have h2 : w.heap.size + 2 ≤ w1.heap.size := by simpa using hsz
  have hB := hb.trans (hW.mono h2)
  exact find1Item _ _ K cap ord x s W (tabW_cell hB) (tabW_row hB) (by have := hW.size; omega) (hO.later ((tabW_below _ _ _ _ _ _).trans (hB.mono (by omega)))) hx hs
theorem tellsPutItem (w w1 : World) (K : Nat) (cap : Array Value) (ord : List Value → List Value → Int) (x : List Value) (hb : Below (w.heap.size + 2) (tabW w K cap x 106 42) w1) (hO : TellsO kItem w K cap ord) (hx : Fits kItem x) :
    TellsF kItem w1 60 #[.pointer (some ⟨w.heap.size, 0, none⟩), .pointer (some ⟨w.heap.size + 1, 0, none⟩)] (fun s => decide (0 < ord s x)) := by
  refine ⟨fun args W => by kernel_rfl, fun W hW s hs => ?_⟩
  have hsz := hb.size
  have h2 : w.heap.size + 2 ≤ w1.heap.size := by simpa using hsz
  have hB := hb.trans (hW.mono h2)
  exact put1Item _ _ K cap ord x s W (tabW_cell hB) (tabW_row hB) (by have := hW.size; omega) (hO.later ((tabW_below _ _ _ _ _ _).trans (hB.mono (by omega)))) hx hs

set_option maxRecDepth 100000 in
theorem findItem (A : Option Addr) (n c K : Nat) (cap : Array Value) (ord : List Value → List Value → Int) (x : List Value) (L : List (List Value)) (w : World) (hn : n = L.length) (hn63 : n ≤ 1000000) (hL : Things kItem L) (hx : Fits kItem x)
    (hr : Rd w w.heap.size A L.flatten) (hO : TellsO kItem w K cap ord) :
    Calls Try.prog 37 #[.agg #[.func (.func K) #[] cap], .slice A n c, .agg x.toArray] w fun e w' => e = .returned (firstV (findG ord L x)) ∧ Below w.heap.size w w' := by
  have hmf : ∀ (fn : Fn) (first cap : Array Value) (w : World), (Instr.makeFunc fn first cap).run Try.prog w = .ok (.func fn first cap) w := fun _ _ _ _ => rfl
  have HB := Lib.hid (tabW_below w K cap x 106 42)
  have HF := Lib.hid (firstItem A n c 63 _ _ L _ hn hn63 hL ((hr.below HB.out).mono HB.out.size) (tellsFindItem w _ K cap ord x (Below.refl _ _) hO hx))
  clear hn hr hL hx hO
  go_enter Try.func37, Try.ntmps37
  go_wp2_with fail
  refine HF.out.mono ?_
  rintro e w1 ⟨rfl, hb⟩
  have B1 := Lib.hid (HB.out.trans (hb.mono HB.out.size))
  clear hb
  go_wp2_with fail
  go_ret2
  exact ⟨rfl, B1.out⟩
end Go.Proofs.Ytcihibmapbigdaa
