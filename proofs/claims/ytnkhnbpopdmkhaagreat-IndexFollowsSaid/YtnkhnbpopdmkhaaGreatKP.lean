/-
 CONTRACTS of the table's functions, for any things. (By wip/tools/gen_ktab.py.)
-/
import Derived.Test.YtnkhnbpopdmkhaaGreatKT
import Derived.Test.YtnkhnbpopdmkhaaGreatGT
namespace Go.Proofs.YtnkhnbpopdmkhaaGreat
set_option linter.unusedVariables false
open Go.RowKit
open Pl (firstG firstG_none firstG_some findG overG putG)

set_option maxRecDepth 100000 in
set_option maxHeartbeats 800000 in
set_option linter.unusedSimpArgs false in
set_option maxHeartbeats 6400000 in
theorem firstT (ti : Nat) (hti : TIa ti) (A : Option Addr) (n c K : Nat) (cap : Array Value) (f : List Value → Bool) (L : List (List Value)) (w : World) (hn : n = L.length) (hn63 : n ≤ 1000000) (hL : Things (kTab ti) L)
 (hr : Rd w w.heap.size A L.flatten) (hT : TellsF (kTab ti) w K cap f) :
 Calls Tryz.prog (fFirst ti) #[.slice A n c, .func (.func K) #[] cap] w fun e w' => e = .returned (firstV (firstG f L)) ∧ Below w.heap.size w w' := by
 have HTI := Lib.hid hti
 have HTA : Hid (TIa ti) := Lib.hid hti
 obtain ⟨d, hu0, hd0⟩ := undT ti HTA.out
 have HU := Lib.hid hu0
 have HUS := Lib.hid (undST ti HTA.out)
 have HK := Lib.hid (kT_le ti HTA.out)
 clear hu0 hti
 have HN := Lib.hid hn
 have HR := Lib.hid hr
 have HT := Lib.hid hT
 have HL := Lib.hid hL
 have HSZ : Hid (∀ y, Fits (kTab ti) y → (Tryz.prog.info? (tTab ti)).map (·.size) = some y.toArray.size) := Lib.hid (fun y hy => by rw [sizeT ti HTA.out, List.size_toArray, hy.length])
 clear hn hr hT hL
 rcases HTI.out with rfl | rfl | rfl
 all_goals
  first
   | go_enter Tryz.func97, Tryz.ntmps97
   | go_enter Tryz.func87, Tryz.ntmps87
   | go_enter Tryz.func100, Tryz.ntmps100
  go_wp2_with fail
  go_loopw [10] (fun i wr => ∃ k : Nat, k ≤ n ∧ i = .int .i64 (k : Int) ∧ Hid (∀ j (hj : j < L.length), j < k → f L[j] = false) ∧ Hid (Below w.heap.size w wr)) (fun i _ => n - (intOf i).toNat)
  case atStart => exact ⟨0, by omega, rfl, Lib.hid (fun j hj h => by omega), Lib.hid (Below.refl _ _)⟩
  case round =>
   obtain ⟨k, hkn, rfl, hno, hbel⟩ := hrel
   by_cases hlt : k < n
   · have hl : k < L.length := by rw [← HN.out]; exact hlt
     obtain ⟨b, off, rfl, hb, hc⟩ := HR.out.thing HL.out HK.out.1 hl
     have fx := HL.out _ (List.getElem_mem hl)
     have r1 := rangeAt_below (hc k hl) hb hbel.out
     have hlb : b < wr.heap.size := Nat.lt_of_lt_of_le hb hbel.out.size
     have h1 : (0 : Int) ≤ (k : Int) := by omega
     have h2 : (k : Int) < (n : Int) := by omega
     obtain ⟨x, hx⟩ : ∃ x, L[k] = x := ⟨_, rfl⟩
     rw [hx] at fx r1
     have HX := Lib.hid hx
     have HF := Lib.hid fx
     have HR1 := Lib.hid r1
     have hix : (Tryz.prog.info? (tTab (ixOf HTA))).map (·.size) = some x.length := by have := HSZ.out x fx; rwa [List.size_toArray] at this
     have HIX := Lib.hid hix
     have HW2 : Hid (Below w.heap.size w (wr.alloc (.cells (zTab (ixOf HTA)).toArray (tTab (ixOf HTA))))) := Lib.hid (hbel.out.alloc hbel.out.size _)
     have HBX : Hid ((wr.alloc (.cells (zTab (ixOf HTA)).toArray (tTab (ixOf HTA)))).heap[wr.heap.size]? = some (.cells (zTab (ixOf HTA)).toArray (tTab (ixOf HTA)) (0, 0))) := Lib.hid (heap_alloc_new _ _)
     have HSR : Hid (Below w.heap.size w ((wr.alloc (.cells (zTab (ixOf HTA)).toArray (tTab (ixOf HTA)))).setRow wr.heap.size x.toArray)) := Lib.hid ⟨HW2.out.os, HW2.out.tape, HW2.out.output, by simpa using HW2.out.size, fun k hk => (setRow_other _ wr.heap.size k x.toArray (by have := hbel.out.size; omega)).trans (HW2.out.block k hk)⟩
     have HRX : Hid (((wr.alloc (.cells (zTab (ixOf HTA)).toArray (tTab (ixOf HTA)))).setRow wr.heap.size x.toArray).heap[wr.heap.size]? = some (.cells x.toArray (tTab (ixOf HTA)) (0, 0))) := Lib.hid (setRow_heap _ _ _ _ _ _ HBX.out)
     have HO : Hid (((zTab (ixOf HTA)).toArray : Array Value).size = x.toArray.size) := Lib.hid (by rw [List.size_toArray, List.size_toArray, HF.out.length, zTab_len])
     have HOC : Hid (x.toArray.all (·.oneCell') = true) := Lib.hid (all_oneCell_toArray (fits_one HF.out))
     clear hc r1 hx fx hix hb
     cases hf : f x with
     | true =>
      have HFX := Lib.hid hf
      have HV : Hid (firstV (firstG f L) = .tuple #[.int .i64 (k : Int), .bool true]) := Lib.hid (by
       rw [firstG_some hl (fun j hj hjk => hno.out j hj hjk) (by rw [HX.out]; exact hf)]; rfl)
      clear hf
      go_wp2_with (first
       | (refine wpList_load_mid rfl (tTab (ixOf HTA)) (.tmp 13) rfl b (off + k * (kTab (ixOf HTA)).length) rfl x _ HR1.out HU.out (by cases d <;> first | rfl | cases hd0) HIX.out ?_)
       | (refine wpList_store_row rfl (tTab (ixOf HTA)) (.tmp 7) (.tmp 14) rfl wr.heap.size x.toArray rfl rfl _ _ HBX.out (HSZ.out _ HF.out) HO.out HOC.out ?_)
       | (refine wpList_load_row rfl (tTab (ixOf HTA)) (.tmp 7) rfl wr.heap.size rfl _ _ _ _ HRX.out HU.out (by cases d <;> first | rfl | cases hd0) (HSZ.out _ HF.out) ?_)
       | fail)
      refine (holdsT _ HTA.out K cap f x _ (HT.out.later HSR.out) HF.out).mono ?_
      rintro e w1 ⟨rfl, hb1⟩
      have B1 := Lib.hid (HSR.out.trans (hb1.mono HSR.out.size))
      clear hb1
      have hf := HFX.out
      go_wp2_with fail
      go_ret2
      exact ⟨by rw [HV.out]; rfl, B1.out⟩
     | false =>
      have HFX := Lib.hid hf
      have HNO : Hid (∀ j (hj : j < L.length), j < k + 1 → f L[j] = false) := Lib.hid (fun j hj hjk => by
       by_cases e : j = k
       · subst e; rw [HX.out]; exact hf
       · exact hno.out j hj (by omega))
      clear hf
      go_wp2_with (first
       | (refine wpList_load_mid rfl (tTab (ixOf HTA)) (.tmp 13) rfl b (off + k * (kTab (ixOf HTA)).length) rfl x _ HR1.out HU.out (by cases d <;> first | rfl | cases hd0) HIX.out ?_)
       | (refine wpList_store_row rfl (tTab (ixOf HTA)) (.tmp 7) (.tmp 14) rfl wr.heap.size x.toArray rfl rfl _ _ HBX.out (HSZ.out _ HF.out) HO.out HOC.out ?_)
       | (refine wpList_load_row rfl (tTab (ixOf HTA)) (.tmp 7) rfl wr.heap.size rfl _ _ _ _ HRX.out HU.out (by cases d <;> first | rfl | cases hd0) (HSZ.out _ HF.out) ?_)
       | fail)
      refine (holdsT _ HTA.out K cap f x _ (HT.out.later HSR.out) HF.out).mono ?_
      rintro e w1 ⟨rfl, hb1⟩
      have B1 := Lib.hid (HSR.out.trans (hb1.mono HSR.out.size))
      clear hb1
      have hf := HFX.out
      go_wp2_with fail
      go_roundw
      case rel => exact ⟨k + 1, by omega, by go_num, HNO, B1⟩
      case measure => simp [intOf]; omega
   · have HV : Hid (firstV (firstG f L) = .tuple #[.int .i64 0, .bool false]) := Lib.hid (by
      rw [firstG_none (fun j hj => hno.out j hj (by have := HN.out; omega))]; rfl)
     go_wp2_with fail
     go_ret2
     exact ⟨by rw [HV.out]; rfl, hbel.out⟩

set_option linter.unusedSimpArgs false in
set_option maxHeartbeats 6400000 in
theorem tellsFindT (ti : Nat) (hti : TIa ti) (w w1 : World) (K : Nat) (cap : Array Value) (ord : List Value → List Value → Int) (x : List Value) (hb : Below (w.heap.size + 2) (tabW w K cap x (bTab ti) (tTab ti)) w1) (hO : TellsO (kTab ti) w K cap ord) (hx : Fits (kTab ti) x) :
 TellsF (kTab ti) w1 (fFind1 ti) #[.pointer (some ⟨w.heap.size, 0, none⟩), .pointer (some ⟨w.heap.size + 1, 0, none⟩)] (fun s => ord s x == 0) := by
 have HTI := Lib.hid hti
 have HTA : Hid (TIa ti) := Lib.hid hti
 obtain ⟨d, hu0, hd0⟩ := undT ti HTA.out
 have HU := Lib.hid hu0
 have HUS := Lib.hid (undST ti HTA.out)
 have HK := Lib.hid (kT_le ti HTA.out)
 clear hu0 hti
 refine ⟨fun args W => by rcases HTI.out with rfl | rfl | rfl <;> (show _ = _; kernel_rfl), fun W hW s hs => ?_⟩
 have hsz := hb.size
 have h2 : w.heap.size + 2 ≤ w1.heap.size := by simpa using hsz
 have hB := hb.trans (hW.mono h2)
 exact find1T _ HTA.out _ _ K cap ord x s W (tabW_cell hB) (tabW_row hB) (by have := hW.size; omega) (hO.later ((tabW_below _ _ _ _ _ _).trans (hB.mono (by omega)))) hx hs

set_option maxRecDepth 100000 in
set_option linter.unusedSimpArgs false in
set_option maxHeartbeats 6400000 in
theorem findT (ti : Nat) (hti : TIa ti) (A : Option Addr) (n c K : Nat) (cap : Array Value) (ord : List Value → List Value → Int) (x : List Value) (L : List (List Value)) (w : World) (hn : n = L.length) (hn63 : n ≤ 1000000) (hL : Things (kTab ti) L) (hx : Fits (kTab ti) x)
 (hr : Rd w w.heap.size A L.flatten) (hO : TellsO (kTab ti) w K cap ord) :
 Calls Tryz.prog (fFindT ti) #[.agg #[.func (.func K) #[] cap], .slice A n c, .agg x.toArray] w fun e w' => e = .returned (firstV (findG ord L x)) ∧ Below w.heap.size w w' := by
 have HTI := Lib.hid hti
 have HTA : Hid (TIa ti) := Lib.hid hti
 obtain ⟨d, hu0, hd0⟩ := undT ti HTA.out
 have HU := Lib.hid hu0
 have HUS := Lib.hid (undST ti HTA.out)
 have HK := Lib.hid (kT_le ti HTA.out)
 clear hu0 hti
 have hmf : ∀ (fn : Fn) (first cap : Array Value) (w : World), (Instr.makeFunc fn first cap).run Tryz.prog w = .ok (.func fn first cap) w := fun _ _ _ _ => rfl
 have HB := Lib.hid (tabW_below w K cap x (bTab ti) (tTab ti))
 have HF := Lib.hid (firstT _ HTA.out A n c (fFind1 ti) _ _ L _ hn hn63 hL ((hr.below HB.out).mono HB.out.size) (tellsFindT _ HTA.out w _ K cap ord x (Below.refl _ _) hO hx))
 clear hn hr hL hx hO
 rcases HTI.out with rfl | rfl | rfl
 all_goals
  first
   | go_enter Tryz.func90, Tryz.ntmps90
   | go_enter Tryz.func80, Tryz.ntmps80
   | go_enter Tryz.func92, Tryz.ntmps92
  go_wp2_with fail
  refine HF.out.mono ?_
  rintro e w1 ⟨rfl, hb⟩
  have B1 := Lib.hid (HB.out.trans (hb.mono HB.out.size))
  clear hb
  go_wp2_with fail
  go_ret2
  exact ⟨rfl, B1.out⟩
theorem findZone (A : Option Addr) (n c K : Nat) (cap : Array Value) (ord : List Value → List Value → Int) (x : List Value) (L : List (List Value)) (w : World) (hn : n = L.length) (hn63 : n ≤ 1000000) (hL : Things kZone L) (hx : Fits kZone x)
 (hr : Rd w w.heap.size A L.flatten) (hO : TellsO kZone w K cap ord) :
 Calls Tryz.prog 90 #[.agg #[.func (.func K) #[] cap], .slice A n c, .agg x.toArray] w fun e w' => e = .returned (firstV (findG ord L x)) ∧ Below w.heap.size w w' := findT 0 (Or.inl rfl) A n c K cap ord x L w hn hn63 hL hx hr hO
theorem findBin (A : Option Addr) (n c K : Nat) (cap : Array Value) (ord : List Value → List Value → Int) (x : List Value) (L : List (List Value)) (w : World) (hn : n = L.length) (hn63 : n ≤ 1000000) (hL : Things kBin L) (hx : Fits kBin x)
 (hr : Rd w w.heap.size A L.flatten) (hO : TellsO kBin w K cap ord) :
 Calls Tryz.prog 80 #[.agg #[.func (.func K) #[] cap], .slice A n c, .agg x.toArray] w fun e w' => e = .returned (firstV (findG ord L x)) ∧ Below w.heap.size w w' := findT 1 (Or.inr (Or.inl rfl)) A n c K cap ord x L w hn hn63 hL hx hr hO
theorem holdsBin (K : Nat) (cap : Array Value) (f : List Value → Bool) (s : List Value) (w : World) (h : TellsF kBin w K cap f) (hs : Fits kBin s) :
 Calls Tryz.prog 95 #[.func (.func K) #[] cap, .agg s.toArray] w fun e w' => e = .returned (.bool (f s)) ∧ Below w.heap.size w w' := holdsT 1 (Or.inr (Or.inl rfl)) K cap f s w h hs
theorem findLot (A : Option Addr) (n c K : Nat) (cap : Array Value) (ord : List Value → List Value → Int) (x : List Value) (L : List (List Value)) (w : World) (hn : n = L.length) (hn63 : n ≤ 1000000) (hL : Things kLot L) (hx : Fits kLot x)
 (hr : Rd w w.heap.size A L.flatten) (hO : TellsO kLot w K cap ord) :
 Calls Tryz.prog 92 #[.agg #[.func (.func K) #[] cap], .slice A n c, .agg x.toArray] w fun e w' => e = .returned (firstV (findG ord L x)) ∧ Below w.heap.size w w' := findT 2 (Or.inr (Or.inr (rfl))) A n c K cap ord x L w hn hn63 hL hx hr hO
end Go.Proofs.YtnkhnbpopdmkhaaGreat
