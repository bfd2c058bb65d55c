/-
  CONTRACTS of the table's first, Find, for things of one kind. (By wip/tools/gen_table.py.)
  CONTRACTS of the table's first, Find, for things of one kind. (By wip/tools/gen_table.py.)
  CONTRACTS of the table's first, Find, for things of one kind. (By wip/tools/gen_table.py.)
  CONTRACTS of the table's first, Find, for things of one kind. (By wip/tools/gen_table.py.)
  CONTRACTS of the table's splice, Put, for things of one kind. (By wip/tools/gen_table.py.)
  CONTRACT of the table's Put, for things of one kind. (By wip/tools/gen_table.py.)
  (By wip/tools/merge.py.)
-/
import Derived.Test.YtjphjblcahadkaaGreatGT
namespace Go.Proofs.YtjphjblcahadkaaGreat
set_option linter.unusedVariables false
open Go.RowKit
open Pl (firstG firstG_none firstG_some findG overG putG)

set_option maxRecDepth 100000 in
set_option maxHeartbeats 800000 in
theorem firstItem (A : Option Addr) (n c K : Nat) (cap : Array Value) (f : List Value → Bool) (L : List (List Value)) (w : World) (hn : n = L.length) (hn63 : n ≤ 1000000) (hL : Things kItem L)
    (hr : Rd w w.heap.size A L.flatten) (hT : TellsF kItem w K cap f) :
    Calls Tryz.prog 92 #[.slice A n c, .func (.func K) #[] cap] w fun e w' => e = .returned (firstV (firstG f L)) ∧ Below w.heap.size w w' := by
  have HN := Lib.hid hn
  have HR := Lib.hid hr
  have HT := Lib.hid hT
  have HL := Lib.hid hL
  have hk : kItem.length = 14 := by decide
  have hu := Tryz.underlying59
  have HSZ : Hid (∀ y, Fits kItem y → (Tryz.prog.info? 59).map (·.size) = some y.toArray.size) := Lib.hid (fun y hy => by rw [show (Tryz.prog.info? 59).map (·.size) = some 14 from by kernel_rfl, List.size_toArray, hy.length]; rfl)
  clear hn hr hT hL
  go_enter Tryz.func92, Tryz.ntmps92
  go_wp2_with fail
  go_loopw [10] (fun i wr => ∃ k : Nat, k ≤ n ∧ i = .int .i64 (k : Int) ∧ Hid (∀ j (hj : j < L.length), j < k → f L[j] = false) ∧ Hid (Below w.heap.size w wr)) (fun i _ => n - (intOf i).toNat)
  case atStart => exact ⟨0, by omega, rfl, Lib.hid (fun j hj h => by omega), Lib.hid (Below.refl _ _)⟩
  case round =>
    obtain ⟨k, hkn, rfl, hno, hbel⟩ := hrel
    by_cases hlt : k < n
    · have hl : k < L.length := by rw [← HN.out]; exact hlt
      obtain ⟨b, off, rfl, hb, hc⟩ := HR.out.thing HL.out (by rw [hk]; decide) hl
      have fx := HL.out _ (List.getElem_mem hl)
      have r1 := rangeAt_below (hc k hl) hb hbel.out
      rw [hk] at r1
      have hlb : b < wr.heap.size := Nat.lt_of_lt_of_le hb hbel.out.size
      have h1 : (0 : Int) ≤ (k : Int) := by omega
      have h2 : (k : Int) < (n : Int) := by omega
      obtain ⟨x, hx⟩ : ∃ x, L[k] = x := ⟨_, rfl⟩
      rw [hx] at fx r1
      have HX := Lib.hid hx
      have HF := Lib.hid fx
      have HR1 := Lib.hid r1
      have hix : (Tryz.prog.info? 59).map (·.size) = some x.length := by have := HSZ.out x fx; rwa [List.size_toArray] at this
      have HIX := Lib.hid hix
      have HW2 : Hid (Below w.heap.size w (wr.alloc (.cells #[.string ⟨#[]⟩, .string ⟨#[]⟩, .int .i64 0, .string ⟨#[]⟩, .int .i64 0, .string ⟨#[]⟩, .int .i64 0, .string ⟨#[]⟩, .int .i64 0, .int .i64 0, .int .i64 0, .bool false, .bool false, .bool false] 59))) := Lib.hid (hbel.out.alloc hbel.out.size _)
      have HBX : Hid ((wr.alloc (.cells #[.string ⟨#[]⟩, .string ⟨#[]⟩, .int .i64 0, .string ⟨#[]⟩, .int .i64 0, .string ⟨#[]⟩, .int .i64 0, .string ⟨#[]⟩, .int .i64 0, .int .i64 0, .int .i64 0, .bool false, .bool false, .bool false] 59)).heap[wr.heap.size]? = some (.cells #[.string ⟨#[]⟩, .string ⟨#[]⟩, .int .i64 0, .string ⟨#[]⟩, .int .i64 0, .string ⟨#[]⟩, .int .i64 0, .string ⟨#[]⟩, .int .i64 0, .int .i64 0, .int .i64 0, .bool false, .bool false, .bool false] 59 (0, 0))) := Lib.hid (heap_alloc_new _ _)
      have HSR : Hid (Below w.heap.size w ((wr.alloc (.cells #[.string ⟨#[]⟩, .string ⟨#[]⟩, .int .i64 0, .string ⟨#[]⟩, .int .i64 0, .string ⟨#[]⟩, .int .i64 0, .string ⟨#[]⟩, .int .i64 0, .int .i64 0, .int .i64 0, .bool false, .bool false, .bool false] 59)).setRow wr.heap.size x.toArray)) := Lib.hid ⟨HW2.out.os, HW2.out.tape, HW2.out.output, by simpa using HW2.out.size, fun k hk => (setRow_other _ wr.heap.size k x.toArray (by have := hbel.out.size; omega)).trans (HW2.out.block k hk)⟩
      have HRX : Hid (((wr.alloc (.cells #[.string ⟨#[]⟩, .string ⟨#[]⟩, .int .i64 0, .string ⟨#[]⟩, .int .i64 0, .string ⟨#[]⟩, .int .i64 0, .string ⟨#[]⟩, .int .i64 0, .int .i64 0, .int .i64 0, .bool false, .bool false, .bool false] 59)).setRow wr.heap.size x.toArray).heap[wr.heap.size]? = some (.cells x.toArray 59 (0, 0))) := Lib.hid (setRow_heap _ _ _ _ _ _ HBX.out)
      have HO : Hid ((#[.string ⟨#[]⟩, .string ⟨#[]⟩, .int .i64 0, .string ⟨#[]⟩, .int .i64 0, .string ⟨#[]⟩, .int .i64 0, .string ⟨#[]⟩, .int .i64 0, .int .i64 0, .int .i64 0, .bool false, .bool false, .bool false] : Array Value).size = x.toArray.size) := Lib.hid (by rw [List.size_toArray, List.size_toArray, HF.out.length]; rfl)
      have HOC : Hid (x.toArray.all (·.oneCell') = true) := Lib.hid (all_oneCell_toArray (fits_one HF.out))
      clear hc r1 hx fx hix hb
      cases hf : f x with
      | true =>
        have HFX := Lib.hid hf
        have HV : Hid (firstV (firstG f L) = .tuple #[.int .i64 (k : Int), .bool true]) := Lib.hid (by
          rw [firstG_some hl (fun j hj hjk => hno.out j hj hjk) (by rw [HX.out]; exact hf)]; rfl)
        clear hf
        go_wp2_with (first
          | (refine wpList_load_mid rfl 59 (.tmp 13) rfl b (off + k * 14) rfl x _ HR1.out hu rfl HIX.out ?_)
          | (refine wpList_store_row rfl 59 (.tmp 7) (.tmp 14) rfl wr.heap.size x.toArray rfl rfl _ _ HBX.out (HSZ.out _ HF.out) HO.out HOC.out ?_)
          | (refine wpList_load_row rfl 59 (.tmp 7) rfl wr.heap.size rfl _ _ _ _ HRX.out hu rfl (HSZ.out _ HF.out) ?_)
          | fail)
        refine (holdsItem K cap f x _ (HT.out.later HSR.out) HF.out).mono ?_
        rintro e w1 ⟨rfl, hb1⟩
        have B1 := Lib.hid (HSR.out.trans (hb1.mono HSR.out.size))
        clear hb1
        have hf := HFX.out
        go_wp2_with fail
        go_ret2
        exact ⟨by rw [HV.out]; rfl, B1.out⟩
      | false =>
        have HFX := Lib.hid hf
        have HNO : Hid (∀ j (hj : j < L.length), j < k + 1 → f L[j] = false) := Lib.hid (fun j hj hjk => by
          by_cases e : j = k
          · subst e; rw [HX.out]; exact hf
          · exact hno.out j hj (by omega))
        clear hf
        go_wp2_with (first
          | (refine wpList_load_mid rfl 59 (.tmp 13) rfl b (off + k * 14) rfl x _ HR1.out hu rfl HIX.out ?_)
          | (refine wpList_store_row rfl 59 (.tmp 7) (.tmp 14) rfl wr.heap.size x.toArray rfl rfl _ _ HBX.out (HSZ.out _ HF.out) HO.out HOC.out ?_)
          | (refine wpList_load_row rfl 59 (.tmp 7) rfl wr.heap.size rfl _ _ _ _ HRX.out hu rfl (HSZ.out _ HF.out) ?_)
          | fail)
        refine (holdsItem K cap f x _ (HT.out.later HSR.out) HF.out).mono ?_
        rintro e w1 ⟨rfl, hb1⟩
        have B1 := Lib.hid (HSR.out.trans (hb1.mono HSR.out.size))
        clear hb1
        have hf := HFX.out
        go_wp2_with fail
        go_roundw
        case rel => exact ⟨k + 1, by omega, by go_num, HNO, B1⟩
        case measure => simp [intOf]; omega
    · have HV : Hid (firstV (firstG f L) = .tuple #[.int .i64 0, .bool false]) := Lib.hid (by
        rw [firstG_none (fun j hj => hno.out j hj (by have := HN.out; omega))]; rfl)
      go_wp2_with fail
      go_ret2
      exact ⟨by rw [HV.out]; rfl, hbel.out⟩


theorem tellsFindItem (w w1 : World) (K : Nat) (cap : Array Value) (ord : List Value → List Value → Int) (x : List Value) (hb : Below (w.heap.size + 2) (tabW w K cap x 144 59) w1) (hO : TellsO kItem w K cap ord) (hx : Fits kItem x) :
    TellsF kItem w1 93 #[.pointer (some ⟨w.heap.size, 0, none⟩), .pointer (some ⟨w.heap.size + 1, 0, none⟩)] (fun s => ord s x == 0) := by
  refine ⟨fun args W => by kernel_rfl, fun W hW s hs => ?_⟩
  have hsz := hb.size
  have h2 : w.heap.size + 2 ≤ w1.heap.size := by simpa using hsz
  have hB := hb.trans (hW.mono h2)
  exact find1Item _ _ K cap ord x s W (tabW_cell hB) (tabW_row hB) (by have := hW.size; omega) (hO.later ((tabW_below _ _ _ _ _ _).trans (hB.mono (by omega)))) hx hs

set_option maxRecDepth 100000 in
theorem findItem (A : Option Addr) (n c K : Nat) (cap : Array Value) (ord : List Value → List Value → Int) (x : List Value) (L : List (List Value)) (w : World) (hn : n = L.length) (hn63 : n ≤ 1000000) (hL : Things kItem L) (hx : Fits kItem x)
    (hr : Rd w w.heap.size A L.flatten) (hO : TellsO kItem w K cap ord) :
    Calls Tryz.prog 67 #[.agg #[.func (.func K) #[] cap], .slice A n c, .agg x.toArray] w fun e w' => e = .returned (firstV (findG ord L x)) ∧ Below w.heap.size w w' := by
  have hmf : ∀ (fn : Fn) (first cap : Array Value) (w : World), (Instr.makeFunc fn first cap).run Tryz.prog w = .ok (.func fn first cap) w := fun _ _ _ _ => rfl
  have HB := Lib.hid (tabW_below w K cap x 144 59)
  have HF := Lib.hid (firstItem A n c 93 _ _ L _ hn hn63 hL ((hr.below HB.out).mono HB.out.size) (tellsFindItem w _ K cap ord x (Below.refl _ _) hO hx))
  clear hn hr hL hx hO
  go_enter Tryz.func67, Tryz.ntmps67
  go_wp2_with fail
  refine HF.out.mono ?_
  rintro e w1 ⟨rfl, hb⟩
  have B1 := Lib.hid (HB.out.trans (hb.mono HB.out.size))
  clear hb
  go_wp2_with fail
  go_ret2
  exact ⟨rfl, B1.out⟩
end Go.Proofs.YtjphjblcahadkaaGreat

namespace Go.Proofs.YtjphjblcahadkaaGreat
set_option linter.unusedVariables false
open Go.RowKit
open Pl (firstG firstG_none firstG_some findG overG putG)

set_option maxRecDepth 100000 in
set_option maxHeartbeats 800000 in
theorem firstZone (A : Option Addr) (n c K : Nat) (cap : Array Value) (f : List Value → Bool) (L : List (List Value)) (w : World) (hn : n = L.length) (hn63 : n ≤ 1000000) (hL : Things kZone L)
    (hr : Rd w w.heap.size A L.flatten) (hT : TellsF kZone w K cap f) :
    Calls Tryz.prog 120 #[.slice A n c, .func (.func K) #[] cap] w fun e w' => e = .returned (firstV (firstG f L)) ∧ Below w.heap.size w w' := by
  have HN := Lib.hid hn
  have HR := Lib.hid hr
  have HT := Lib.hid hT
  have HL := Lib.hid hL
  have hk : kZone.length = 2 := by decide
  have hu := Tryz.underlying65
  have HSZ : Hid (∀ y, Fits kZone y → (Tryz.prog.info? 65).map (·.size) = some y.toArray.size) := Lib.hid (fun y hy => by rw [show (Tryz.prog.info? 65).map (·.size) = some 2 from by kernel_rfl, List.size_toArray, hy.length]; rfl)
  clear hn hr hT hL
  go_enter Tryz.func120, Tryz.ntmps120
  go_wp2_with fail
  go_loopw [10] (fun i wr => ∃ k : Nat, k ≤ n ∧ i = .int .i64 (k : Int) ∧ Hid (∀ j (hj : j < L.length), j < k → f L[j] = false) ∧ Hid (Below w.heap.size w wr)) (fun i _ => n - (intOf i).toNat)
  case atStart => exact ⟨0, by omega, rfl, Lib.hid (fun j hj h => by omega), Lib.hid (Below.refl _ _)⟩
  case round =>
    obtain ⟨k, hkn, rfl, hno, hbel⟩ := hrel
    by_cases hlt : k < n
    · have hl : k < L.length := by rw [← HN.out]; exact hlt
      obtain ⟨b, off, rfl, hb, hc⟩ := HR.out.thing HL.out (by rw [hk]; decide) hl
      have fx := HL.out _ (List.getElem_mem hl)
      have r1 := rangeAt_below (hc k hl) hb hbel.out
      rw [hk] at r1
      have hlb : b < wr.heap.size := Nat.lt_of_lt_of_le hb hbel.out.size
      have h1 : (0 : Int) ≤ (k : Int) := by omega
      have h2 : (k : Int) < (n : Int) := by omega
      obtain ⟨x, hx⟩ : ∃ x, L[k] = x := ⟨_, rfl⟩
      rw [hx] at fx r1
      have HX := Lib.hid hx
      have HF := Lib.hid fx
      have HR1 := Lib.hid r1
      have hix : (Tryz.prog.info? 65).map (·.size) = some x.length := by have := HSZ.out x fx; rwa [List.size_toArray] at this
      have HIX := Lib.hid hix
      have HW2 : Hid (Below w.heap.size w (wr.alloc (.cells #[.string ⟨#[]⟩, .string ⟨#[]⟩] 65))) := Lib.hid (hbel.out.alloc hbel.out.size _)
      have HBX : Hid ((wr.alloc (.cells #[.string ⟨#[]⟩, .string ⟨#[]⟩] 65)).heap[wr.heap.size]? = some (.cells #[.string ⟨#[]⟩, .string ⟨#[]⟩] 65 (0, 0))) := Lib.hid (heap_alloc_new _ _)
      have HSR : Hid (Below w.heap.size w ((wr.alloc (.cells #[.string ⟨#[]⟩, .string ⟨#[]⟩] 65)).setRow wr.heap.size x.toArray)) := Lib.hid ⟨HW2.out.os, HW2.out.tape, HW2.out.output, by simpa using HW2.out.size, fun k hk => (setRow_other _ wr.heap.size k x.toArray (by have := hbel.out.size; omega)).trans (HW2.out.block k hk)⟩
      have HRX : Hid (((wr.alloc (.cells #[.string ⟨#[]⟩, .string ⟨#[]⟩] 65)).setRow wr.heap.size x.toArray).heap[wr.heap.size]? = some (.cells x.toArray 65 (0, 0))) := Lib.hid (setRow_heap _ _ _ _ _ _ HBX.out)
      have HO : Hid ((#[.string ⟨#[]⟩, .string ⟨#[]⟩] : Array Value).size = x.toArray.size) := Lib.hid (by rw [List.size_toArray, List.size_toArray, HF.out.length]; rfl)
      have HOC : Hid (x.toArray.all (·.oneCell') = true) := Lib.hid (all_oneCell_toArray (fits_one HF.out))
      clear hc r1 hx fx hix hb
      cases hf : f x with
      | true =>
        have HFX := Lib.hid hf
        have HV : Hid (firstV (firstG f L) = .tuple #[.int .i64 (k : Int), .bool true]) := Lib.hid (by
          rw [firstG_some hl (fun j hj hjk => hno.out j hj hjk) (by rw [HX.out]; exact hf)]; rfl)
        clear hf
        go_wp2_with (first
          | (refine wpList_load_mid rfl 65 (.tmp 13) rfl b (off + k * 2) rfl x _ HR1.out hu rfl HIX.out ?_)
          | (refine wpList_store_row rfl 65 (.tmp 7) (.tmp 14) rfl wr.heap.size x.toArray rfl rfl _ _ HBX.out (HSZ.out _ HF.out) HO.out HOC.out ?_)
          | (refine wpList_load_row rfl 65 (.tmp 7) rfl wr.heap.size rfl _ _ _ _ HRX.out hu rfl (HSZ.out _ HF.out) ?_)
          | fail)
        refine (holdsZone K cap f x _ (HT.out.later HSR.out) HF.out).mono ?_
        rintro e w1 ⟨rfl, hb1⟩
        have B1 := Lib.hid (HSR.out.trans (hb1.mono HSR.out.size))
        clear hb1
        have hf := HFX.out
        go_wp2_with fail
        go_ret2
        exact ⟨by rw [HV.out]; rfl, B1.out⟩
      | false =>
        have HFX := Lib.hid hf
        have HNO : Hid (∀ j (hj : j < L.length), j < k + 1 → f L[j] = false) := Lib.hid (fun j hj hjk => by
          by_cases e : j = k
          · subst e; rw [HX.out]; exact hf
          · exact hno.out j hj (by omega))
        clear hf
        go_wp2_with (first
          | (refine wpList_load_mid rfl 65 (.tmp 13) rfl b (off + k * 2) rfl x _ HR1.out hu rfl HIX.out ?_)
          | (refine wpList_store_row rfl 65 (.tmp 7) (.tmp 14) rfl wr.heap.size x.toArray rfl rfl _ _ HBX.out (HSZ.out _ HF.out) HO.out HOC.out ?_)
          | (refine wpList_load_row rfl 65 (.tmp 7) rfl wr.heap.size rfl _ _ _ _ HRX.out hu rfl (HSZ.out _ HF.out) ?_)
          | fail)
        refine (holdsZone K cap f x _ (HT.out.later HSR.out) HF.out).mono ?_
        rintro e w1 ⟨rfl, hb1⟩
        have B1 := Lib.hid (HSR.out.trans (hb1.mono HSR.out.size))
        clear hb1
        have hf := HFX.out
        go_wp2_with fail
        go_roundw
        case rel => exact ⟨k + 1, by omega, by go_num, HNO, B1⟩
        case measure => simp [intOf]; omega
    · have HV : Hid (firstV (firstG f L) = .tuple #[.int .i64 0, .bool false]) := Lib.hid (by
        rw [firstG_none (fun j hj => hno.out j hj (by have := HN.out; omega))]; rfl)
      go_wp2_with fail
      go_ret2
      exact ⟨by rw [HV.out]; rfl, hbel.out⟩


theorem tellsFindZone (w w1 : World) (K : Nat) (cap : Array Value) (ord : List Value → List Value → Int) (x : List Value) (hb : Below (w.heap.size + 2) (tabW w K cap x 183 65) w1) (hO : TellsO kZone w K cap ord) (hx : Fits kZone x) :
    TellsF kZone w1 121 #[.pointer (some ⟨w.heap.size, 0, none⟩), .pointer (some ⟨w.heap.size + 1, 0, none⟩)] (fun s => ord s x == 0) := by
  refine ⟨fun args W => by kernel_rfl, fun W hW s hs => ?_⟩
  have hsz := hb.size
  have h2 : w.heap.size + 2 ≤ w1.heap.size := by simpa using hsz
  have hB := hb.trans (hW.mono h2)
  exact find1Zone _ _ K cap ord x s W (tabW_cell hB) (tabW_row hB) (by have := hW.size; omega) (hO.later ((tabW_below _ _ _ _ _ _).trans (hB.mono (by omega)))) hx hs

set_option maxRecDepth 100000 in
theorem findZone (A : Option Addr) (n c K : Nat) (cap : Array Value) (ord : List Value → List Value → Int) (x : List Value) (L : List (List Value)) (w : World) (hn : n = L.length) (hn63 : n ≤ 1000000) (hL : Things kZone L) (hx : Fits kZone x)
    (hr : Rd w w.heap.size A L.flatten) (hO : TellsO kZone w K cap ord) :
    Calls Tryz.prog 111 #[.agg #[.func (.func K) #[] cap], .slice A n c, .agg x.toArray] w fun e w' => e = .returned (firstV (findG ord L x)) ∧ Below w.heap.size w w' := by
  have hmf : ∀ (fn : Fn) (first cap : Array Value) (w : World), (Instr.makeFunc fn first cap).run Tryz.prog w = .ok (.func fn first cap) w := fun _ _ _ _ => rfl
  have HB := Lib.hid (tabW_below w K cap x 183 65)
  have HF := Lib.hid (firstZone A n c 121 _ _ L _ hn hn63 hL ((hr.below HB.out).mono HB.out.size) (tellsFindZone w _ K cap ord x (Below.refl _ _) hO hx))
  clear hn hr hL hx hO
  go_enter Tryz.func111, Tryz.ntmps111
  go_wp2_with fail
  refine HF.out.mono ?_
  rintro e w1 ⟨rfl, hb⟩
  have B1 := Lib.hid (HB.out.trans (hb.mono HB.out.size))
  clear hb
  go_wp2_with fail
  go_ret2
  exact ⟨rfl, B1.out⟩
end Go.Proofs.YtjphjblcahadkaaGreat

namespace Go.Proofs.YtjphjblcahadkaaGreat
set_option linter.unusedVariables false
open Go.RowKit
open Pl (firstG firstG_none firstG_some findG overG putG)

set_option maxRecDepth 100000 in
set_option maxHeartbeats 800000 in
theorem firstBin (A : Option Addr) (n c K : Nat) (cap : Array Value) (f : List Value → Bool) (L : List (List Value)) (w : World) (hn : n = L.length) (hn63 : n ≤ 1000000) (hL : Things kBin L)
    (hr : Rd w w.heap.size A L.flatten) (hT : TellsF kBin w K cap f) :
    Calls Tryz.prog 115 #[.slice A n c, .func (.func K) #[] cap] w fun e w' => e = .returned (firstV (firstG f L)) ∧ Below w.heap.size w w' := by
  have HN := Lib.hid hn
  have HR := Lib.hid hr
  have HT := Lib.hid hT
  have HL := Lib.hid hL
  have hk : kBin.length = 8 := by decide
  have hu := Tryz.underlying68
  have HSZ : Hid (∀ y, Fits kBin y → (Tryz.prog.info? 68).map (·.size) = some y.toArray.size) := Lib.hid (fun y hy => by rw [show (Tryz.prog.info? 68).map (·.size) = some 8 from by kernel_rfl, List.size_toArray, hy.length]; rfl)
  clear hn hr hT hL
  go_enter Tryz.func115, Tryz.ntmps115
  go_wp2_with fail
  go_loopw [10] (fun i wr => ∃ k : Nat, k ≤ n ∧ i = .int .i64 (k : Int) ∧ Hid (∀ j (hj : j < L.length), j < k → f L[j] = false) ∧ Hid (Below w.heap.size w wr)) (fun i _ => n - (intOf i).toNat)
  case atStart => exact ⟨0, by omega, rfl, Lib.hid (fun j hj h => by omega), Lib.hid (Below.refl _ _)⟩
  case round =>
    obtain ⟨k, hkn, rfl, hno, hbel⟩ := hrel
    by_cases hlt : k < n
    · have hl : k < L.length := by rw [← HN.out]; exact hlt
      obtain ⟨b, off, rfl, hb, hc⟩ := HR.out.thing HL.out (by rw [hk]; decide) hl
      have fx := HL.out _ (List.getElem_mem hl)
      have r1 := rangeAt_below (hc k hl) hb hbel.out
      rw [hk] at r1
      have hlb : b < wr.heap.size := Nat.lt_of_lt_of_le hb hbel.out.size
      have h1 : (0 : Int) ≤ (k : Int) := by omega
      have h2 : (k : Int) < (n : Int) := by omega
      obtain ⟨x, hx⟩ : ∃ x, L[k] = x := ⟨_, rfl⟩
      rw [hx] at fx r1
      have HX := Lib.hid hx
      have HF := Lib.hid fx
      have HR1 := Lib.hid r1
      have hix : (Tryz.prog.info? 68).map (·.size) = some x.length := by have := HSZ.out x fx; rwa [List.size_toArray] at this
      have HIX := Lib.hid hix
      have HW2 : Hid (Below w.heap.size w (wr.alloc (.cells #[.string ⟨#[]⟩, .string ⟨#[]⟩, .int .i64 0, .int .i64 0, .int .i64 0, .int .i64 0, .int .i64 0, .bool false] 68))) := Lib.hid (hbel.out.alloc hbel.out.size _)
      have HBX : Hid ((wr.alloc (.cells #[.string ⟨#[]⟩, .string ⟨#[]⟩, .int .i64 0, .int .i64 0, .int .i64 0, .int .i64 0, .int .i64 0, .bool false] 68)).heap[wr.heap.size]? = some (.cells #[.string ⟨#[]⟩, .string ⟨#[]⟩, .int .i64 0, .int .i64 0, .int .i64 0, .int .i64 0, .int .i64 0, .bool false] 68 (0, 0))) := Lib.hid (heap_alloc_new _ _)
      have HSR : Hid (Below w.heap.size w ((wr.alloc (.cells #[.string ⟨#[]⟩, .string ⟨#[]⟩, .int .i64 0, .int .i64 0, .int .i64 0, .int .i64 0, .int .i64 0, .bool false] 68)).setRow wr.heap.size x.toArray)) := Lib.hid ⟨HW2.out.os, HW2.out.tape, HW2.out.output, by simpa using HW2.out.size, fun k hk => (setRow_other _ wr.heap.size k x.toArray (by have := hbel.out.size; omega)).trans (HW2.out.block k hk)⟩
      have HRX : Hid (((wr.alloc (.cells #[.string ⟨#[]⟩, .string ⟨#[]⟩, .int .i64 0, .int .i64 0, .int .i64 0, .int .i64 0, .int .i64 0, .bool false] 68)).setRow wr.heap.size x.toArray).heap[wr.heap.size]? = some (.cells x.toArray 68 (0, 0))) := Lib.hid (setRow_heap _ _ _ _ _ _ HBX.out)
      have HO : Hid ((#[.string ⟨#[]⟩, .string ⟨#[]⟩, .int .i64 0, .int .i64 0, .int .i64 0, .int .i64 0, .int .i64 0, .bool false] : Array Value).size = x.toArray.size) := Lib.hid (by rw [List.size_toArray, List.size_toArray, HF.out.length]; rfl)
      have HOC : Hid (x.toArray.all (·.oneCell') = true) := Lib.hid (all_oneCell_toArray (fits_one HF.out))
      clear hc r1 hx fx hix hb
      cases hf : f x with
      | true =>
        have HFX := Lib.hid hf
        have HV : Hid (firstV (firstG f L) = .tuple #[.int .i64 (k : Int), .bool true]) := Lib.hid (by
          rw [firstG_some hl (fun j hj hjk => hno.out j hj hjk) (by rw [HX.out]; exact hf)]; rfl)
        clear hf
        go_wp2_with (first
          | (refine wpList_load_mid rfl 68 (.tmp 13) rfl b (off + k * 8) rfl x _ HR1.out hu rfl HIX.out ?_)
          | (refine wpList_store_row rfl 68 (.tmp 7) (.tmp 14) rfl wr.heap.size x.toArray rfl rfl _ _ HBX.out (HSZ.out _ HF.out) HO.out HOC.out ?_)
          | (refine wpList_load_row rfl 68 (.tmp 7) rfl wr.heap.size rfl _ _ _ _ HRX.out hu rfl (HSZ.out _ HF.out) ?_)
          | fail)
        refine (holdsBin K cap f x _ (HT.out.later HSR.out) HF.out).mono ?_
        rintro e w1 ⟨rfl, hb1⟩
        have B1 := Lib.hid (HSR.out.trans (hb1.mono HSR.out.size))
        clear hb1
        have hf := HFX.out
        go_wp2_with fail
        go_ret2
        exact ⟨by rw [HV.out]; rfl, B1.out⟩
      | false =>
        have HFX := Lib.hid hf
        have HNO : Hid (∀ j (hj : j < L.length), j < k + 1 → f L[j] = false) := Lib.hid (fun j hj hjk => by
          by_cases e : j = k
          · subst e; rw [HX.out]; exact hf
          · exact hno.out j hj (by omega))
        clear hf
        go_wp2_with (first
          | (refine wpList_load_mid rfl 68 (.tmp 13) rfl b (off + k * 8) rfl x _ HR1.out hu rfl HIX.out ?_)
          | (refine wpList_store_row rfl 68 (.tmp 7) (.tmp 14) rfl wr.heap.size x.toArray rfl rfl _ _ HBX.out (HSZ.out _ HF.out) HO.out HOC.out ?_)
          | (refine wpList_load_row rfl 68 (.tmp 7) rfl wr.heap.size rfl _ _ _ _ HRX.out hu rfl (HSZ.out _ HF.out) ?_)
          | fail)
        refine (holdsBin K cap f x _ (HT.out.later HSR.out) HF.out).mono ?_
        rintro e w1 ⟨rfl, hb1⟩
        have B1 := Lib.hid (HSR.out.trans (hb1.mono HSR.out.size))
        clear hb1
        have hf := HFX.out
        go_wp2_with fail
        go_roundw
        case rel => exact ⟨k + 1, by omega, by go_num, HNO, B1⟩
        case measure => simp [intOf]; omega
    · have HV : Hid (firstV (firstG f L) = .tuple #[.int .i64 0, .bool false]) := Lib.hid (by
        rw [firstG_none (fun j hj => hno.out j hj (by have := HN.out; omega))]; rfl)
      go_wp2_with fail
      go_ret2
      exact ⟨by rw [HV.out]; rfl, hbel.out⟩


theorem tellsFindBin (w w1 : World) (K : Nat) (cap : Array Value) (ord : List Value → List Value → Int) (x : List Value) (hb : Below (w.heap.size + 2) (tabW w K cap x 174 68) w1) (hO : TellsO kBin w K cap ord) (hx : Fits kBin x) :
    TellsF kBin w1 116 #[.pointer (some ⟨w.heap.size, 0, none⟩), .pointer (some ⟨w.heap.size + 1, 0, none⟩)] (fun s => ord s x == 0) := by
  refine ⟨fun args W => by kernel_rfl, fun W hW s hs => ?_⟩
  have hsz := hb.size
  have h2 : w.heap.size + 2 ≤ w1.heap.size := by simpa using hsz
  have hB := hb.trans (hW.mono h2)
  exact find1Bin _ _ K cap ord x s W (tabW_cell hB) (tabW_row hB) (by have := hW.size; omega) (hO.later ((tabW_below _ _ _ _ _ _).trans (hB.mono (by omega)))) hx hs

set_option maxRecDepth 100000 in
theorem findBin (A : Option Addr) (n c K : Nat) (cap : Array Value) (ord : List Value → List Value → Int) (x : List Value) (L : List (List Value)) (w : World) (hn : n = L.length) (hn63 : n ≤ 1000000) (hL : Things kBin L) (hx : Fits kBin x)
    (hr : Rd w w.heap.size A L.flatten) (hO : TellsO kBin w K cap ord) :
    Calls Tryz.prog 100 #[.agg #[.func (.func K) #[] cap], .slice A n c, .agg x.toArray] w fun e w' => e = .returned (firstV (findG ord L x)) ∧ Below w.heap.size w w' := by
  have hmf : ∀ (fn : Fn) (first cap : Array Value) (w : World), (Instr.makeFunc fn first cap).run Tryz.prog w = .ok (.func fn first cap) w := fun _ _ _ _ => rfl
  have HB := Lib.hid (tabW_below w K cap x 174 68)
  have HF := Lib.hid (firstBin A n c 116 _ _ L _ hn hn63 hL ((hr.below HB.out).mono HB.out.size) (tellsFindBin w _ K cap ord x (Below.refl _ _) hO hx))
  clear hn hr hL hx hO
  go_enter Tryz.func100, Tryz.ntmps100
  go_wp2_with fail
  refine HF.out.mono ?_
  rintro e w1 ⟨rfl, hb⟩
  have B1 := Lib.hid (HB.out.trans (hb.mono HB.out.size))
  clear hb
  go_wp2_with fail
  go_ret2
  exact ⟨rfl, B1.out⟩
end Go.Proofs.YtjphjblcahadkaaGreat

namespace Go.Proofs.YtjphjblcahadkaaGreat
set_option linter.unusedVariables false
open Go.RowKit
open Pl (firstG firstG_none firstG_some findG overG putG)

set_option maxRecDepth 100000 in
set_option maxHeartbeats 800000 in
theorem firstRule (A : Option Addr) (n c K : Nat) (cap : Array Value) (f : List Value → Bool) (L : List (List Value)) (w : World) (hn : n = L.length) (hn63 : n ≤ 1000000) (hL : Things kRule L)
    (hr : Rd w w.heap.size A L.flatten) (hT : TellsF kRule w K cap f) :
    Calls Tryz.prog 62 #[.slice A n c, .func (.func K) #[] cap] w fun e w' => e = .returned (firstV (firstG f L)) ∧ Below w.heap.size w w' := by
  have HN := Lib.hid hn
  have HR := Lib.hid hr
  have HT := Lib.hid hT
  have HL := Lib.hid hL
  have hk : kRule.length = 3 := by decide
  have hu := Tryz.underlying39
  have HSZ : Hid (∀ y, Fits kRule y → (Tryz.prog.info? 39).map (·.size) = some y.toArray.size) := Lib.hid (fun y hy => by rw [show (Tryz.prog.info? 39).map (·.size) = some 3 from by kernel_rfl, List.size_toArray, hy.length]; rfl)
  clear hn hr hT hL
  go_enter Tryz.func62, Tryz.ntmps62
  go_wp2_with fail
  go_loopw [10] (fun i wr => ∃ k : Nat, k ≤ n ∧ i = .int .i64 (k : Int) ∧ Hid (∀ j (hj : j < L.length), j < k → f L[j] = false) ∧ Hid (Below w.heap.size w wr)) (fun i _ => n - (intOf i).toNat)
  case atStart => exact ⟨0, by omega, rfl, Lib.hid (fun j hj h => by omega), Lib.hid (Below.refl _ _)⟩
  case round =>
    obtain ⟨k, hkn, rfl, hno, hbel⟩ := hrel
    by_cases hlt : k < n
    · have hl : k < L.length := by rw [← HN.out]; exact hlt
      obtain ⟨b, off, rfl, hb, hc⟩ := HR.out.thing HL.out (by rw [hk]; decide) hl
      have fx := HL.out _ (List.getElem_mem hl)
      have r1 := rangeAt_below (hc k hl) hb hbel.out
      rw [hk] at r1
      have hlb : b < wr.heap.size := Nat.lt_of_lt_of_le hb hbel.out.size
      have h1 : (0 : Int) ≤ (k : Int) := by omega
      have h2 : (k : Int) < (n : Int) := by omega
      obtain ⟨x, hx⟩ : ∃ x, L[k] = x := ⟨_, rfl⟩
      rw [hx] at fx r1
      have HX := Lib.hid hx
      have HF := Lib.hid fx
      have HR1 := Lib.hid r1
      have hix : (Tryz.prog.info? 39).map (·.size) = some x.length := by have := HSZ.out x fx; rwa [List.size_toArray] at this
      have HIX := Lib.hid hix
      have HW2 : Hid (Below w.heap.size w (wr.alloc (.cells #[.string ⟨#[]⟩, .string ⟨#[]⟩, .int .i64 0] 39))) := Lib.hid (hbel.out.alloc hbel.out.size _)
      have HBX : Hid ((wr.alloc (.cells #[.string ⟨#[]⟩, .string ⟨#[]⟩, .int .i64 0] 39)).heap[wr.heap.size]? = some (.cells #[.string ⟨#[]⟩, .string ⟨#[]⟩, .int .i64 0] 39 (0, 0))) := Lib.hid (heap_alloc_new _ _)
      have HSR : Hid (Below w.heap.size w ((wr.alloc (.cells #[.string ⟨#[]⟩, .string ⟨#[]⟩, .int .i64 0] 39)).setRow wr.heap.size x.toArray)) := Lib.hid ⟨HW2.out.os, HW2.out.tape, HW2.out.output, by simpa using HW2.out.size, fun k hk => (setRow_other _ wr.heap.size k x.toArray (by have := hbel.out.size; omega)).trans (HW2.out.block k hk)⟩
      have HRX : Hid (((wr.alloc (.cells #[.string ⟨#[]⟩, .string ⟨#[]⟩, .int .i64 0] 39)).setRow wr.heap.size x.toArray).heap[wr.heap.size]? = some (.cells x.toArray 39 (0, 0))) := Lib.hid (setRow_heap _ _ _ _ _ _ HBX.out)
      have HO : Hid ((#[.string ⟨#[]⟩, .string ⟨#[]⟩, .int .i64 0] : Array Value).size = x.toArray.size) := Lib.hid (by rw [List.size_toArray, List.size_toArray, HF.out.length]; rfl)
      have HOC : Hid (x.toArray.all (·.oneCell') = true) := Lib.hid (all_oneCell_toArray (fits_one HF.out))
      clear hc r1 hx fx hix hb
      cases hf : f x with
      | true =>
        have HFX := Lib.hid hf
        have HV : Hid (firstV (firstG f L) = .tuple #[.int .i64 (k : Int), .bool true]) := Lib.hid (by
          rw [firstG_some hl (fun j hj hjk => hno.out j hj hjk) (by rw [HX.out]; exact hf)]; rfl)
        clear hf
        go_wp2_with (first
          | (refine wpList_load_mid rfl 39 (.tmp 13) rfl b (off + k * 3) rfl x _ HR1.out hu rfl HIX.out ?_)
          | (refine wpList_store_row rfl 39 (.tmp 7) (.tmp 14) rfl wr.heap.size x.toArray rfl rfl _ _ HBX.out (HSZ.out _ HF.out) HO.out HOC.out ?_)
          | (refine wpList_load_row rfl 39 (.tmp 7) rfl wr.heap.size rfl _ _ _ _ HRX.out hu rfl (HSZ.out _ HF.out) ?_)
          | fail)
        refine (holdsRule K cap f x _ (HT.out.later HSR.out) HF.out).mono ?_
        rintro e w1 ⟨rfl, hb1⟩
        have B1 := Lib.hid (HSR.out.trans (hb1.mono HSR.out.size))
        clear hb1
        have hf := HFX.out
        go_wp2_with fail
        go_ret2
        exact ⟨by rw [HV.out]; rfl, B1.out⟩
      | false =>
        have HFX := Lib.hid hf
        have HNO : Hid (∀ j (hj : j < L.length), j < k + 1 → f L[j] = false) := Lib.hid (fun j hj hjk => by
          by_cases e : j = k
          · subst e; rw [HX.out]; exact hf
          · exact hno.out j hj (by omega))
        clear hf
        go_wp2_with (first
          | (refine wpList_load_mid rfl 39 (.tmp 13) rfl b (off + k * 3) rfl x _ HR1.out hu rfl HIX.out ?_)
          | (refine wpList_store_row rfl 39 (.tmp 7) (.tmp 14) rfl wr.heap.size x.toArray rfl rfl _ _ HBX.out (HSZ.out _ HF.out) HO.out HOC.out ?_)
          | (refine wpList_load_row rfl 39 (.tmp 7) rfl wr.heap.size rfl _ _ _ _ HRX.out hu rfl (HSZ.out _ HF.out) ?_)
          | fail)
        refine (holdsRule K cap f x _ (HT.out.later HSR.out) HF.out).mono ?_
        rintro e w1 ⟨rfl, hb1⟩
        have B1 := Lib.hid (HSR.out.trans (hb1.mono HSR.out.size))
        clear hb1
        have hf := HFX.out
        go_wp2_with fail
        go_roundw
        case rel => exact ⟨k + 1, by omega, by go_num, HNO, B1⟩
        case measure => simp [intOf]; omega
    · have HV : Hid (firstV (firstG f L) = .tuple #[.int .i64 0, .bool false]) := Lib.hid (by
        rw [firstG_none (fun j hj => hno.out j hj (by have := HN.out; omega))]; rfl)
      go_wp2_with fail
      go_ret2
      exact ⟨by rw [HV.out]; rfl, hbel.out⟩


theorem tellsFindRule (w w1 : World) (K : Nat) (cap : Array Value) (ord : List Value → List Value → Int) (x : List Value) (hb : Below (w.heap.size + 2) (tabW w K cap x 105 39) w1) (hO : TellsO kRule w K cap ord) (hx : Fits kRule x) :
    TellsF kRule w1 87 #[.pointer (some ⟨w.heap.size, 0, none⟩), .pointer (some ⟨w.heap.size + 1, 0, none⟩)] (fun s => ord s x == 0) := by
  refine ⟨fun args W => by kernel_rfl, fun W hW s hs => ?_⟩
  have hsz := hb.size
  have h2 : w.heap.size + 2 ≤ w1.heap.size := by simpa using hsz
  have hB := hb.trans (hW.mono h2)
  exact find1Rule _ _ K cap ord x s W (tabW_cell hB) (tabW_row hB) (by have := hW.size; omega) (hO.later ((tabW_below _ _ _ _ _ _).trans (hB.mono (by omega)))) hx hs
theorem tellsPutRule (w w1 : World) (K : Nat) (cap : Array Value) (ord : List Value → List Value → Int) (x : List Value) (hb : Below (w.heap.size + 2) (tabW w K cap x 105 39) w1) (hO : TellsO kRule w K cap ord) (hx : Fits kRule x) :
    TellsF kRule w1 63 #[.pointer (some ⟨w.heap.size, 0, none⟩), .pointer (some ⟨w.heap.size + 1, 0, none⟩)] (fun s => decide (0 < ord s x)) := by
  refine ⟨fun args W => by kernel_rfl, fun W hW s hs => ?_⟩
  have hsz := hb.size
  have h2 : w.heap.size + 2 ≤ w1.heap.size := by simpa using hsz
  have hB := hb.trans (hW.mono h2)
  exact put1Rule _ _ K cap ord x s W (tabW_cell hB) (tabW_row hB) (by have := hW.size; omega) (hO.later ((tabW_below _ _ _ _ _ _).trans (hB.mono (by omega)))) hx hs

set_option maxRecDepth 100000 in
theorem findRule (A : Option Addr) (n c K : Nat) (cap : Array Value) (ord : List Value → List Value → Int) (x : List Value) (L : List (List Value)) (w : World) (hn : n = L.length) (hn63 : n ≤ 1000000) (hL : Things kRule L) (hx : Fits kRule x)
    (hr : Rd w w.heap.size A L.flatten) (hO : TellsO kRule w K cap ord) :
    Calls Tryz.prog 57 #[.agg #[.func (.func K) #[] cap], .slice A n c, .agg x.toArray] w fun e w' => e = .returned (firstV (findG ord L x)) ∧ Below w.heap.size w w' := by
  have hmf : ∀ (fn : Fn) (first cap : Array Value) (w : World), (Instr.makeFunc fn first cap).run Tryz.prog w = .ok (.func fn first cap) w := fun _ _ _ _ => rfl
  have HB := Lib.hid (tabW_below w K cap x 105 39)
  have HF := Lib.hid (firstRule A n c 87 _ _ L _ hn hn63 hL ((hr.below HB.out).mono HB.out.size) (tellsFindRule w _ K cap ord x (Below.refl _ _) hO hx))
  clear hn hr hL hx hO
  go_enter Tryz.func57, Tryz.ntmps57
  go_wp2_with fail
  refine HF.out.mono ?_
  rintro e w1 ⟨rfl, hb⟩
  have B1 := Lib.hid (HB.out.trans (hb.mono HB.out.size))
  clear hb
  go_wp2_with fail
  go_ret2
  exact ⟨rfl, B1.out⟩
end Go.Proofs.YtjphjblcahadkaaGreat

namespace Go.Proofs.YtjphjblcahadkaaGreat
set_option linter.unusedVariables false
open Go.RowKit
open Pl (firstG firstG_none firstG_some findG overG putG)

set_option maxRecDepth 100000 in
set_option maxHeartbeats 800000 in
theorem spliceRule (A A2 : Option Addr) (n c m c2 i j : Nat) (L X : List (List Value)) (w : World) (hn : n = L.length) (hm : m = X.length) (hnc : n ≤ c) (hc : c ≤ 9223372036854775807) (hij : i ≤ j) (hjn : j ≤ n) (hsz : n + m ≤ 1000000) (hL : Things kRule L) (hX : Things kRule X)
    (hr : Rd w w.heap.size A L.flatten) (hr2 : Rd w w.heap.size A2 X.flatten) :
    Calls Tryz.prog 61 #[.slice A n c, .int .i64 (i : Int), .int .i64 (j : Int), .slice A2 m c2] w fun e w' =>
      ∃ A' c', e = .returned (.slice A' (i + m + (n - j)) c') ∧ w'.ownsRow w.heap.size 39 3 (.slice A' (i + m + (n - j)) c') (i + m + (n - j)) (L.take i ++ X ++ L.drop j).flatten ∧ Below w.heap.size w w' := by
  obtain ⟨i0, z0, hi0, hz0, hz1, hz2, hz3⟩ := info_thing (P := Tryz.prog) (T := 39) (sz := 3) (by kernel_rfl)
  have hk : kRule.length = 3 := by decide
  have hby : ∀ x, x ≤ 1000000 → x * i0.bytes ≤ 140737488355328 := fun x hx => Nat.le_trans (Nat.mul_le_mul hx hz3) (by decide)
  obtain ⟨w1, hmk, hown1, hg1⟩ := run_make_own (P := Tryz.prog) w w.heap.size 27 39 i0 _ 3 Tryz.underlying27 hi0 hz0 hz1 .i64 .i64 (n - (j - i) + m) (by rw [Nat.mul_comm]; exact Nat.le_trans (hby _ (by omega)) (by decide)) (by simp only [maxLen]; omega) (Nat.le_refl _)
  rw [show (((n - (j - i) + m : Nat)) : Int) = (n : Int) - ((j : Int) - (i : Int)) + (m : Int) from by omega] at hmk
  have hb1 : Below w.heap.size w w1 := (Below.refl _ _).grown hg1 (Nat.le_refl _) (by simp)
  have hn1 : n - (j - i) + m ≤ 9223372036854775807 := by omega
  have HN := Lib.hid hn
  have HM := Lib.hid hm
  have HR := Lib.hid hr
  have HR2 := Lib.hid hr2
  have HL := Lib.hid hL
  have HX := Lib.hid hX
  have HO1 := Lib.hid hown1
  have HB1 := Lib.hid hb1
  have HBY := Lib.hid hby
  have HLT : Hid ((L.take i).flatten.length = i * 3) := Lib.hid (by rw [flat_length (hL.take i).len, hk, List.length_take, ← hn]; congr 1; omega)
  have HLX : Hid (X.flatten.length = m * 3) := Lib.hid (by rw [flat_length hX.len, hk, ← hm])
  have HLL : Hid (L.flatten.length = n * 3) := Lib.hid (by rw [flat_length hL.len, hk, ← hn])
  have HLD : Hid ((L.drop j).flatten.length = (n - j) * 3) := Lib.hid (by rw [flat_length (hL.drop j).len, hk, List.length_drop, ← hn])
  have HFD : Hid ((L.drop j).flatten = L.flatten.drop (j * 3)) := Lib.hid (by rw [flat_drop hL.len, hk])
  clear hn hm hr hr2 hown1 hg1 hb1 hL hX hby
  have hcut := run_cut (P := Tryz.prog) 27 39 3 i0 Tryz.underlying27 hi0 hz1 A n c j hjn
  go_enter Tryz.func61, Tryz.ntmps61
  go_wp2_with (first
    | (at_builtin; refine wpList_app rfl (.tmp 20) (.tmp 23) _ rfl w.heap.size 39 i0 z0 3 i0.bytes Tryz.underlying27 hi0 hz0 hz1 rfl hz2 (by decide) _ 0 _ [] rfl HO1.out w.heap.size A i c (L.take i).flatten rfl HLT.out ((HR.out.below HB1.out).tkT (ks := kRule) i) (things_one (HL.out.take i)) (by simp only [maxLen]; omega) (HBY.out _ (by omega)) HB1.out.size ?_; intro A3 c3 w2 hown2 hb2; simp only [Nat.zero_add, List.nil_append] at hown2; have HO2 := Lib.hid hown2; have HB2 := Lib.hid (HB1.out.trans hb2); clear hown2 hb2)
    | (at_builtin; refine wpList_app rfl (.tmp 25) (.tmp 26) _ rfl w.heap.size 39 i0 z0 3 i0.bytes Tryz.underlying27 hi0 hz0 hz1 rfl hz2 (by decide) _ i _ _ rfl HO2.out w.heap.size A2 m c2 X.flatten rfl HLX.out (HR2.out.below HB2.out) (things_one HX.out) (by simp only [maxLen]; omega) (HBY.out _ (by omega)) HB2.out.size ?_; intro A4 c4 w3 hown3 hb3; have HO3 := Lib.hid hown3; have HB3 := Lib.hid (HB2.out.trans hb3); clear hown3 hb3)
    | (at_builtin; refine wpList_app rfl (.tmp 28) (.tmp 31) _ rfl w.heap.size 39 i0 z0 3 i0.bytes Tryz.underlying27 hi0 hz0 hz1 rfl hz2 (by decide) _ (i + m) _ _ rfl HO3.out w.heap.size (cutA A c j 3) (n - j) (c - j) (L.drop j).flatten rfl HLD.out (by rw [HFD.out]; exact ((HR.out.below HB3.out).cut 3 j c (fun e => by rw [HLL.out]; omega))) (things_one (HL.out.drop j)) (by simp only [maxLen]; omega) (HBY.out _ (by omega)) HB3.out.size ?_; intro A5 c5 w4 hown4 hb4; have HO4 := Lib.hid hown4; have HB4 := Lib.hid (HB3.out.trans hb4); clear hown4 hb4))
  go_ret
  exact ⟨A5, c5, rfl, by rw [List.flatten_append, List.flatten_append]; exact HO4.out, HB4.out⟩

/-- The call hands back a new list: L. -/
def NewRule (w : World) (L : List (List Value)) (e : Ending) (w' : World) : Prop :=
  ∃ A n c, n = L.length ∧ e = .returned (.slice A n c) ∧ w'.ownsRow w.heap.size 39 3 (.slice A n c) n L.flatten ∧ Below w.heap.size w w'
end Go.Proofs.YtjphjblcahadkaaGreat

namespace Go.Proofs.YtjphjblcahadkaaGreat
set_option linter.unusedVariables false
open Go.RowKit
open Pl (firstG firstG_none firstG_some findG overG putG)

set_option maxRecDepth 100000 in
set_option maxHeartbeats 1600000 in
theorem putRule (A : Option Addr) (n c K : Nat) (cap : Array Value) (ord : List Value → List Value → Int) (x : List Value) (L : List (List Value)) (w : World) (hn : n = L.length) (hnc : n ≤ c) (hc : c ≤ 9223372036854775807) (hsz : n + 1 ≤ 1000000) (hL : Things kRule L) (hx : Fits kRule x)
    (hr : Rd w w.heap.size A L.flatten) (hO : TellsO kRule w K cap ord) :
    Calls Tryz.prog 31 #[.agg #[.func (.func K) #[] cap], .slice A n c, .agg x.toArray] w (NewRule w (putG ord L x)) := by
  have hmf : ∀ (fn : Fn) (first cap : Array Value) (w : World), (Instr.makeFunc fn first cap).run Tryz.prog w = .ok (.func fn first cap) w := fun _ _ _ _ => rfl
  obtain ⟨i0, z0, hi0, hz0, hz1, hz2, hz3⟩ := info_thing (P := Tryz.prog) (T := 39) (sz := 3) (by kernel_rfl)
  have hu := Tryz.underlying39
  have HSZ : Hid ((Tryz.prog.info? 39).map (·.size) = some x.toArray.size) := Lib.hid (by rw [show (Tryz.prog.info? 39).map (·.size) = some 3 from by kernel_rfl, List.size_toArray, hx.length]; rfl)
  have HLN : Hid (x.length = 3) := Lib.hid (by rw [hx.length]; rfl)
  have HB := Lib.hid (tabW_below w K cap x 105 39)
  have HSB : Hid ((tabW w K cap x 105 39).heap.size = w.heap.size + 2) := Lib.hid (by simp)
  have hfind := findRule A n c K cap ord x L _ hn (by omega) hL hx ((hr.below HB.out).mono HB.out.size) (hO.later HB.out)
  have HBX : Hid (∀ W, Below (w.heap.size + 2) (tabW w K cap x 105 39) W → W.heap[w.heap.size + 1]? = some (.cells x.toArray 39 (0, 0))) := Lib.hid (fun W h => tabW_row h)
  have HBX0 := Lib.hid (HBX.out _ (Below.refl _ _))
  have HN := Lib.hid hn
  have HR := Lib.hid hr
  have HL := Lib.hid hL
  have HX1 := Lib.hid (Things.one hx)
  have HBD : Hid (∀ W, Below (w.heap.size + 2) (tabW w K cap x 105 39) W → Below w.heap.size w W ∧ w.heap.size + 2 ≤ W.heap.size) := Lib.hid (fun W h => ⟨HB.out.trans (h.mono (by omega)), by have := h.size; rw [HSB.out] at this; exact this⟩)
  cases hF : findG ord L x with
  | some i =>
    have hi : i < L.length := Pl.firstG_lt hF
    rw [hF, firstV_some] at hfind
    have HP := Lib.hid (show putG ord L x = L.take i ++ [x] ++ L.drop (i + 1) from by unfold putG; rw [hF])
    have HF := Lib.hid hfind
    have hin : i < n := by omega
    clear hn hr hF hfind hL hx hO hz2 hz3
    go_enter Tryz.func31, Tryz.ntmps31
    go_wp2_with (first
      | (refine wpList_load_row rfl 39 (.tmp 5) rfl (w.heap.size + 1) rfl _ _ _ _ HBX0.out hu rfl HSZ.out ?_)
      | fail)
    refine HF.out.mono ?_
    rintro e w1 ⟨rfl, hb1⟩
    rw [HSB.out] at hb1
    have HX := Lib.hid (HBX.out _ hb1)
    obtain ⟨hb2, hs1⟩ := HBD.out _ hb1
    have B1 := Lib.hid hb2
    clear hb1 hb2
    have HSP : Hid (Calls Tryz.prog 61 #[.slice A n c, .int .i64 (i : Int), .int .i64 ((i + 1 : Nat) : Int), .slice (some ⟨w1.heap.size, 0, none⟩) 1 1] (w1.alloc (.cells x.toArray 39)) (NewRule w (putG ord L x))) := Lib.hid (by
      have B2 := B1.out.alloc B1.out.size (.cells x.toArray 39)
      refine (spliceRule A (some ⟨w1.heap.size, 0, none⟩) n c 1 1 i (i + 1) L [x] _ HN.out rfl hnc hc (by omega) (by omega) hsz HL.out HX1.out ((HR.out.below B2).mono B2.size) ((row_one w1 x _).mono (by simp))).mono ?_
      rintro e w2 ⟨A', c', rfl, hown, hb2⟩
      refine ⟨A', _, c', ?_, rfl, ?_, B2.trans (hb2.mono B2.size)⟩
      · rw [HP.out]; simp only [List.length_append, List.length_take, List.length_drop, List.length_cons, List.length_nil]
        have := HN.out
        omega
      · rw [HP.out]; exact own_down hown B2.size)
    rw [show ((i + 1 : Nat) : Int) = (i : Int) + 1 from by omega] at HSP
    go_wp2_with (first
      | (refine wpList_load_row rfl 39 (.tmp 5) rfl (w.heap.size + 1) rfl _ _ _ _ HX.out hu rfl HSZ.out ?_)
      | (refine wpList_buildOne rfl _ 39 _ rfl w1.heap.size rfl _ rfl i0 z0 3 Tryz.underlying27 hi0 hz0 hz1 (by decide) (by decide) x (by rfl) HLN.out ?_)
      | fail)
    refine HSP.out.mono ?_
    rintro e w2 ⟨A', n', c', hl, rfl, hown, hb2⟩
    have HO := Lib.hid hown
    have HLE := Lib.hid hl
    have B3 := Lib.hid hb2
    clear hb2 hown hl
    go_wp2_with fail
    go_ret
    exact ⟨A', n', c', HLE.out, rfl, HO.out, B3.out⟩
  | none =>
    rw [hF, firstV_none] at hfind
    have HF := Lib.hid hfind
    have HT : Hid (∀ w1, Below (w.heap.size + 2) (tabW w K cap x 105 39) w1 →
        Calls Tryz.prog 62 #[.slice A n c, .func (.func 63) #[] #[.pointer (some ⟨w.heap.size, 0, none⟩), .pointer (some ⟨w.heap.size + 1, 0, none⟩)]] w1
          fun e w' => e = .returned (firstV (overG ord L x)) ∧ Below w1.heap.size w1 w') := Lib.hid (fun w1 hb =>
      firstRule A n c _ _ (fun s => decide (0 < ord s x)) L w1 HN.out (by omega) HL.out ((HR.out.below (HBD.out _ hb).1).mono (HBD.out _ hb).1.size) (tellsPutRule w w1 K cap ord x hb hO hx))
    obtain ⟨i, hin, hLi, HQ, hV⟩ : ∃ i, i ≤ n ∧ Hid (putG ord L x = L.take i ++ [x] ++ L.drop i) ∧ Hid ((i = n ∧ overG ord L x = none) ∨ overG ord L x = some i) ∧ True := by
      cases hG : overG ord L x with
      | some i => exact ⟨i, by have := Pl.firstG_lt hG; omega, Lib.hid (by unfold putG; rw [hF]; simp only []; rw [hG]), Lib.hid (.inr rfl), trivial⟩
      | none => exact ⟨n, Nat.le_refl _, Lib.hid (by unfold putG; rw [hF]; simp only []; rw [hG]; rw [hn, List.take_length, List.drop_length, List.append_nil]), Lib.hid (.inl ⟨rfl, rfl⟩), trivial⟩
    clear hn hr hF hfind hL hx hO hz2 hz3
    go_enter Tryz.func31, Tryz.ntmps31
    go_wp2_with (first
      | (refine wpList_load_row rfl 39 (.tmp 5) rfl (w.heap.size + 1) rfl _ _ _ _ HBX0.out hu rfl HSZ.out ?_)
      | fail)
    refine HF.out.mono ?_
    rintro e w1 ⟨rfl, hb1⟩
    rw [HSB.out] at hb1
    have H1 := Lib.hid hb1
    clear hb1
    go_wp2_with fail
    refine (HT.out w1 H1.out).mono ?_
    rintro e w2 ⟨rfl, hb2⟩
    have H2 := Lib.hid (H1.out.trans (hb2.mono (HBD.out _ H1.out).2))
    clear hb2
    have HX := Lib.hid (HBX.out _ H2.out)
    obtain ⟨hb2, hs2⟩ := HBD.out _ H2.out
    have B2 := Lib.hid hb2
    clear hb2 HT
    have HSP : Hid (Calls Tryz.prog 61 #[.slice A n c, .int .i64 (i : Int), .int .i64 (i : Int), .slice (some ⟨w2.heap.size, 0, none⟩) 1 1] (w2.alloc (.cells x.toArray 39)) (NewRule w (putG ord L x))) := Lib.hid (by
      have B3 := B2.out.alloc B2.out.size (.cells x.toArray 39)
      refine (spliceRule A (some ⟨w2.heap.size, 0, none⟩) n c 1 1 i i L [x] _ HN.out rfl hnc hc (by omega) (by omega) hsz HL.out HX1.out ((HR.out.below B3).mono B3.size) ((row_one w2 x _).mono (by simp))).mono ?_
      rintro e w3 ⟨A', c', rfl, hown, hb3⟩
      refine ⟨A', _, c', ?_, rfl, ?_, B3.trans (hb3.mono B3.size)⟩
      · rw [hLi.out]; simp only [List.length_append, List.length_take, List.length_drop, List.length_cons, List.length_nil]
        have := HN.out
        omega
      · rw [hLi.out]; exact own_down hown B3.size)
    rcases HQ.out with ⟨he, ho⟩ | ho
    · subst he
      rw [ho, firstV_none]
      clear ho HQ
      go_wp2_with (first
        | (refine wpList_load_row rfl 39 (.tmp 5) rfl (w.heap.size + 1) rfl _ _ _ _ HX.out hu rfl HSZ.out ?_)
        | (refine wpList_buildOne rfl _ 39 _ rfl w2.heap.size rfl _ rfl i0 z0 3 Tryz.underlying27 hi0 hz0 hz1 (by decide) (by decide) x (by rfl) HLN.out ?_)
        | fail)
      refine HSP.out.mono ?_
      rintro e w3 ⟨A', n', c', hl, rfl, hown, hb4⟩
      have HO := Lib.hid hown
      have HLE := Lib.hid hl
      have B4 := Lib.hid hb4
      clear hb4 hown hl
      go_wp2_with fail
      go_ret
      exact ⟨A', n', c', HLE.out, rfl, HO.out, B4.out⟩
    · rw [ho, firstV_some]
      clear ho HQ
      go_wp2_with (first
        | (refine wpList_load_row rfl 39 (.tmp 5) rfl (w.heap.size + 1) rfl _ _ _ _ HX.out hu rfl HSZ.out ?_)
        | (refine wpList_buildOne rfl _ 39 _ rfl w2.heap.size rfl _ rfl i0 z0 3 Tryz.underlying27 hi0 hz0 hz1 (by decide) (by decide) x (by rfl) HLN.out ?_)
        | fail)
      refine HSP.out.mono ?_
      rintro e w3 ⟨A', n', c', hl, rfl, hown, hb4⟩
      have HO := Lib.hid hown
      have HLE := Lib.hid hl
      have B4 := Lib.hid hb4
      clear hb4 hown hl
      go_wp2_with fail
      go_ret
      exact ⟨A', n', c', HLE.out, rfl, HO.out, B4.out⟩
end Go.Proofs.YtjphjblcahadkaaGreat
