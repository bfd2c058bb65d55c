/-
 CONTRACTS of the code's inUse, begun, hasTask, claimsOf; of slices.ContainsFunc over claims. (By wip/tools/gen_acode.py.)
-/
import Derived.Test.YtlkmccmbpnbgbaaGreatAFacts
import Derived.Test.YtlkmccmbpnbgbaaGreatKLines
import Derived.Test.YtlkmccmbpnbgbaaGreatKP
import Derived.Test.YtlkmccmbpnbgbaaGreatKD
import Derived.Test.YtlkmccmbpnbgbaaGreatHHouse
import Derived.Test.YtlkmccmbpnbgbaaGreatGT
import Derived.Test.YtlkmccmbpnbgbaaGreatHAppK
import Derived.Test.YtlkmccmbpnbgbaaGreatJHead
import Derived.Deep.CutRange
import Derived.BigQuiet
namespace Go.Proofs.YtlkmccmbpnbgbaaGreat
set_option linter.unusedVariables false
open Go.RowKit
open Pl (firstG firstG_none firstG_some findG overG putG dropG It)

set_option maxRecDepth 100000 in
set_option maxHeartbeats 3200000 in
theorem cuseA (xi : ByteArray) (xa xg xb xp xo : Int) (w : World) : Calls Tryz.prog 66 #[.agg #[.string xi, .int .i64 xa, .int .i64 xg, .int .i64 xb, .int .i64 xp, .int .i64 xo]] w fun e w' => e = .returned (.bool (!(emp xi))) ∧ Below w.heap.size w w' := by
 obtain ⟨u, hu⟩ : ∃ u, emp xi = u := ⟨_, rfl⟩
 have hu' : xi.toList.isEmpty = u := hu
 have HB : Hid (Below w.heap.size w (w.alloc (.cells #[.string xi, .int .i64 xa, .int .i64 xg, .int .i64 xb, .int .i64 xp, .int .i64 xo] 39))) := Lib.hid ((Below.refl _ _).alloc (Nat.le_refl _) _)
 rw [hu]
 clear hu
 go_enter Tryz.func66, Tryz.ntmps66
 cases u <;> (go_wp2_with fail; go_ret; exact ⟨rfl, HB.out⟩)
set_option maxRecDepth 100000 in
set_option maxHeartbeats 3200000 in
theorem cbegun (xi : ByteArray) (xa xg xb xp xo : Int) (w : World) : Calls Tryz.prog 73 #[.agg #[.string xi, .int .i64 xa, .int .i64 xg, .int .i64 xb, .int .i64 xp, .int .i64 xo]] w fun e w' => e = .returned (.bool (!(emp xi) && decide (xg ≠ 0))) ∧ Below w.heap.size w w' := by
 obtain ⟨u, hu⟩ : ∃ u, emp xi = u := ⟨_, rfl⟩
 have CU : Hid (∀ W, Calls Tryz.prog 66 #[.agg #[.string xi, .int .i64 xa, .int .i64 xg, .int .i64 xb, .int .i64 xp, .int .i64 xo]] W fun e w' => e = .returned (.bool (!u)) ∧ Below W.heap.size W w') := Lib.hid (fun W => by rw [← hu]; exact cuseA xi xa xg xb xp xo W)
 obtain ⟨w0, hw0⟩ : ∃ w0, w0 = w.alloc (.cells #[.string xi, .int .i64 xa, .int .i64 xg, .int .i64 xb, .int .i64 xp, .int .i64 xo] 39) := ⟨_, rfl⟩
 have HB0 : Hid (Below w.heap.size w w0) := Lib.hid (by rw [hw0]; exact (Below.refl _ _).alloc (Nat.le_refl _) _)
 have HX0 : Hid (w0.heap[w.heap.size]? = some (.cells #[.string xi, .int .i64 xa, .int .i64 xg, .int .i64 xb, .int .i64 xp, .int .i64 xo] 39 (0, 0))) := Lib.hid (by rw [hw0]; exact heap_alloc_new _ _)
 have HW0 := Lib.hid hw0
 have huLI := Tryz.underlying39
 have HSLI : Hid ((Tryz.prog.info? 39).map (·.size) = some (#[.string xi, .int .i64 xa, .int .i64 xg, .int .i64 xb, .int .i64 xp, .int .i64 xo] : Array Value).size) := Lib.hid (by kernel_rfl)
 rw [hu]
 clear hu hw0
 go_enter Tryz.func73, Tryz.ntmps73
 go_upto_region 1 with fail
 rw [← HW0.out]
 clear HW0
 go_wp2_with (first
  | (refine wpList_load_row rfl 39 (.tmp 1) rfl w.heap.size rfl _ _ _ _ HX0.out huLI rfl HSLI.out ?_)
  | fail)
 refine (CU.out _).mono ?_
 rintro e w1 ⟨rfl, hb1⟩
 have HX1 := Lib.hid ((hb1.block _ (lt_of_block HX0.out)).trans HX0.out)
 have HB1 := Lib.hid (HB0.out.trans (hb1.mono HB0.out.size))
 clear hb1
 cases u with
 | true =>
  go_wp2_with fail
  go_ret
  exact ⟨rfl, HB1.out⟩
 | false =>
  have c2 : w1.cell? ⟨w.heap.size, 2, none⟩ = some (.int .i64 xg) := by rw [cell_of_block HX1.out]; rfl
  have clt := lt_of_block HX1.out
  by_cases q : xg = 0
  · have b1 : (xg != 0) = false := by simpa using q
    have HV : Hid (decide (xg ≠ 0) = false) := Lib.hid (by simpa using q)
    clear q
    go_wp2_with fail
    go_ret
    exact ⟨by rw [HV.out]; rfl, HB1.out⟩
  · have b1 : (xg != 0) = true := by simpa using q
    have HV : Hid (decide (xg ≠ 0) = true) := Lib.hid (by simpa using q)
    clear q
    go_wp2_with fail
    go_ret
    exact ⟨by rw [HV.out]; rfl, HB1.out⟩
set_option maxRecDepth 100000 in
set_option maxHeartbeats 3200000 in
theorem ctask (yo : ByteArray) (yn : Int) (yb yi yl : ByteArray) (ys yq yt : Int) (w : World) : Calls Tryz.prog 75 #[.agg #[.string yo, .int .i64 yn, .string yb, .string yi, .string yl, .int .i64 ys, .int .i64 yq, .int .i64 yt]] w fun e w' => e = .returned (.bool (decide (yt ≠ 0))) ∧ Below w.heap.size w w' := by
 have HB : Hid (Below w.heap.size w (w.alloc (.cells #[.string yo, .int .i64 yn, .string yb, .string yi, .string yl, .int .i64 ys, .int .i64 yq, .int .i64 yt] 46))) := Lib.hid ((Below.refl _ _).alloc (Nat.le_refl _) _)
 by_cases q : yt = 0
 · have b1 : (yt != 0) = false := by simpa using q
   have HV : Hid (decide (yt ≠ 0) = false) := Lib.hid (by simpa using q)
   clear q
   go_enter Tryz.func75, Tryz.ntmps75
   go_wp2_with fail
   go_ret
   exact ⟨by rw [HV.out]; rfl, HB.out⟩
 · have b1 : (yt != 0) = true := by simpa using q
   have HV : Hid (decide (yt ≠ 0) = true) := Lib.hid (by simpa using q)
   clear q
   go_enter Tryz.func75, Tryz.ntmps75
   go_wp2_with fail
   go_ret
   exact ⟨by rw [HV.out]; rfl, HB.out⟩
set_option maxRecDepth 100000 in
set_option maxHeartbeats 3200000 in
theorem cof1 (gi : Nat) (s : ByteArray) (yo : ByteArray) (yn : Int) (yb yi yl : ByteArray) (ys yq yt : Int) (w : World) (hc : w.cell? ⟨gi, 0, none⟩ = some (.string s)) (hl : gi < w.heap.size) : Calls Tryz.prog 108 #[.agg #[.string yo, .int .i64 yn, .string yb, .string yi, .string yl, .int .i64 ys, .int .i64 yq, .int .i64 yt], .pointer (some ⟨gi, 0, none⟩)] w fun e w' => e = .returned (.bool (Pl.eqv yo s)) ∧ Below w.heap.size w w' := by
 obtain ⟨v, hv⟩ : ∃ v, Pl.eqv yo s = v := ⟨_, rfl⟩
 have HV : (yo.toList == s.toList) = v := hv
 rw [hv]
 have HB : Hid (Below w.heap.size w (w.alloc (.cells #[.string yo, .int .i64 yn, .string yb, .string yi, .string yl, .int .i64 ys, .int .i64 yq, .int .i64 yt] 46))) := Lib.hid ((Below.refl _ _).alloc (Nat.le_refl _) _)
 have hc2 : (w.alloc (.cells #[.string yo, .int .i64 yn, .string yb, .string yi, .string yl, .int .i64 ys, .int .i64 yq, .int .i64 yt] 46)).cell? ⟨gi, 0, none⟩ = some (.string s) := (HB.out.cell (p := ⟨gi, 0, none⟩) hl).trans hc
 clear hv
 go_enter Tryz.func108, Tryz.ntmps108
 go_wp2_with fail
 go_ret
 exact ⟨rfl, HB.out⟩
set_option maxRecDepth 100000 in
set_option maxHeartbeats 800000 in
theorem indexClaim (A : Option Addr) (n c K : Nat) (cap : Array Value) (f : List Value → Bool) (L : List (List Value)) (w : World) (hn : n = L.length) (hn63 : n ≤ 1000000) (hL : Things kClaim L)
 (hr : Rd w w.heap.size A L.flatten) (hT : TellsF kClaim w K cap f) :
 Calls Tryz.prog 110 #[.slice A n c, .func (.func K) #[] cap] w fun e w' => e = .returned (.int .i64 (idxI (firstG f L))) ∧ Below w.heap.size w w' := by
 have HN := Lib.hid hn
 have HR := Lib.hid hr
 have HT := Lib.hid hT
 have HL := Lib.hid hL
 have hent := hT.1
 have hk : kClaim.length = 8 := by decide
 have hu := Tryz.underlying46
 have HSZ : Hid (∀ y, Fits kClaim y → (Tryz.prog.info? 46).map (·.size) = some y.length) := Lib.hid (fun y hy => by rw [show (Tryz.prog.info? 46).map (·.size) = some 8 from by kernel_rfl, hy.length]; rfl)
 clear hn hr hT hL
 go_enter Tryz.func110, Tryz.ntmps110
 go_wp2_with fail
 go_loopw [8] (fun i wr => ∃ k : Nat, k ≤ n ∧ i = .int .i64 (k : Int) ∧ Hid (∀ j (hj : j < L.length), j < k → f L[j] = false) ∧ Hid (Below w.heap.size w wr)) (fun i _ => n - (intOf i).toNat)
 case atStart => exact ⟨0, by omega, rfl, Lib.hid (fun j hj h => by omega), Lib.hid (Below.refl _ _)⟩
 case round =>
  obtain ⟨k, hkn, rfl, hno, hbel⟩ := hrel
  by_cases hlt : k < n
  · have hl : k < L.length := by rw [← HN.out]; exact hlt
    obtain ⟨b, off, rfl, hb, hc⟩ := HR.out.thing HL.out (by rw [hk]; decide) hl
    have fx := HL.out _ (List.getElem_mem hl)
    have r1 := rangeAt_below (hc k hl) hb hbel.out
    rw [hk] at r1
    have hlb : b < wr.heap.size := Nat.lt_of_lt_of_le hb hbel.out.size
    have h1 : (0 : Int) ≤ (k : Int) := by omega
    have h2 : (k : Int) < (n : Int) := by omega
    obtain ⟨x, hx⟩ : ∃ x, L[k] = x := ⟨_, rfl⟩
    rw [hx] at fx r1
    have HX := Lib.hid hx
    have HF := Lib.hid fx
    have HR1 := Lib.hid r1
    have HIX := Lib.hid (HSZ.out x fx)
    clear hc r1 hx fx hb
    cases hf : f x with
    | true =>
     have HFX := Lib.hid hf
     have HV : Hid (firstG f L = some k) := Lib.hid (firstG_some hl (fun j hj hjk => hno.out j hj hjk) (by rw [HX.out]; exact hf))
     clear hf
     go_wp2_with (first
      | (refine wpList_load_mid rfl 46 (.tmp 14) rfl b (off + k * 8) rfl x _ HR1.out hu rfl HIX.out ?_)
      | fail)
     refine (HT.out.2 _ hbel.out x HF.out).mono ?_
     rintro e w1 ⟨rfl, hb1⟩
     have B1 := Lib.hid (hbel.out.trans (hb1.mono hbel.out.size))
     clear hb1
     have hf := HFX.out
     go_wp2_with fail
     go_ret
     exact ⟨by rw [HV.out]; rfl, B1.out⟩
    | false =>
     have HFX := Lib.hid hf
     have HNO : Hid (∀ j (hj : j < L.length), j < k + 1 → f L[j] = false) := Lib.hid (fun j hj hjk => by
      by_cases e : j = k
      · subst e; rw [HX.out]; exact hf
      · exact hno.out j hj (by omega))
     clear hf
     go_wp2_with (first
      | (refine wpList_load_mid rfl 46 (.tmp 14) rfl b (off + k * 8) rfl x _ HR1.out hu rfl HIX.out ?_)
      | fail)
     refine (HT.out.2 _ hbel.out x HF.out).mono ?_
     rintro e w1 ⟨rfl, hb1⟩
     have B1 := Lib.hid (hbel.out.trans (hb1.mono hbel.out.size))
     clear hb1
     have hf := HFX.out
     go_wp2_with fail
     go_roundw
     case rel => exact ⟨k + 1, by omega, by go_num, HNO, B1⟩
     case measure => simp [intOf]; omega
  · have HV : Hid (firstG f L = none) := Lib.hid (firstG_none (fun j hj => hno.out j hj (by have := HN.out; omega)))
    go_wp2_with fail
    go_ret
    exact ⟨by rw [HV.out]; rfl, hbel.out⟩

set_option maxRecDepth 100000 in
theorem hasClaim (A : Option Addr) (n c K : Nat) (cap : Array Value) (f : List Value → Bool) (L : List (List Value)) (w : World) (hn : n = L.length) (hn63 : n ≤ 1000000) (hL : Things kClaim L)
 (hr : Rd w w.heap.size A L.flatten) (hT : TellsF kClaim w K cap f) :
 Calls Tryz.prog 74 #[.slice A n c, .func (.func K) #[] cap] w fun e w' => e = .returned (.bool (L.any f)) ∧ Below w.heap.size w w' := by
 have H := Lib.hid (indexClaim A n c K cap f L w hn hn63 hL hr hT)
 have HA := Lib.hid (idx_any f L)
 clear hr hT hL hn
 go_enter Tryz.func74, Tryz.ntmps74
 go_wp2_with fail
 refine H.out.mono ?_
 rintro e w1 ⟨rfl, hb1⟩
 have B1 := Lib.hid hb1
 clear hb1
 obtain ⟨r, hr⟩ : ∃ r, idxI (firstG f L) = r := ⟨_, rfl⟩
 rw [hr]
 have HR := Lib.hid hr
 clear hr
 go_wp2_with fail
 go_ret
 exact ⟨by rw [← HA.out, HR.out]; rfl, B1.out⟩

/-- The call hands back a new list: L. -/
def Fresh (T : TypeId) (sz : Nat) (w : World) (L : List (List Value)) (e : Ending) (w' : World) : Prop :=
 ∃ A n c, n = L.length ∧ e = .returned (.slice A n c) ∧ w'.ownsRow w.heap.size T sz (.slice A n c) n L.flatten ∧ Below w.heap.size w w'
theorem filt_le (f : List Value → Bool) (L : List (List Value)) (k : Nat) : ((L.take k).filter f).length ≤ k := Nat.le_trans (List.length_filter_le _ _) (List.length_take_le _ _)
set_option maxRecDepth 100000 in
set_option maxHeartbeats 1600000 in
theorem keepClaim (A : Option Addr) (n c K : Nat) (cap : Array Value) (f : List Value → Bool) (L : List (List Value)) (w : World) (hn : n = L.length) (hn6 : n ≤ 100000) (hL : Things kClaim L)
 (hr : Rd w w.heap.size A L.flatten) (hT : TellsF kClaim w K cap f) :
 Calls Tryz.prog 107 #[.slice A n c, .func (.func K) #[] cap] w (Fresh 46 8 w (L.filter f)) := by
 obtain ⟨i0, z0, hi0, hz0, hz1, hz2, hz3⟩ := info_thing (P := Tryz.prog) (T := 46) (sz := 8) (by kernel_rfl)
 have hby : ∀ x, x ≤ 1000000 → x * i0.bytes ≤ 140737488355328 := fun x hx => Nat.le_trans (Nat.mul_le_mul hx hz3) (by decide)
 have HBY := Lib.hid hby
 have HN := Lib.hid hn
 have HR := Lib.hid hr
 have HT := Lib.hid hT
 have HL := Lib.hid hL
 have HLE := Lib.hid (filt_le f L)
 have hk : kClaim.length = 8 := by decide
 have hu := Tryz.underlying46
 have HSZ : Hid (∀ y, Fits kClaim y → (Tryz.prog.info? 46).map (·.size) = some y.toArray.size) := Lib.hid (fun y hy => by rw [show (Tryz.prog.info? 46).map (·.size) = some 8 from by kernel_rfl, List.size_toArray, hy.length]; rfl)
 clear hn hr hT hL hby
 go_enter Tryz.func107, Tryz.ntmps107
 go_wp2_with fail
 go_loopw [5, 10] (fun v i wr => ∃ (k m c' : Nat) (A' : Option Addr), k ≤ n ∧ i = .int .i64 (k : Int) ∧ m ≤ k ∧ v = .slice A' m c' ∧ Hid (m = ((L.take k).filter f).length) ∧ Hid (wr.ownsRow w.heap.size 46 8 (.slice A' m c') m ((L.take k).filter f).flatten) ∧ Hid (Below w.heap.size w wr)) (fun _ i _ => n - (intOf i).toNat)
 case atStart => exact ⟨0, 0, 0, none, by omega, rfl, by omega, rfl, Lib.hid (by simp), Lib.hid (by simpa using World.ownsRow_nil _ _ _ _), Lib.hid (Below.refl _ _)⟩
 case round =>
  obtain ⟨k, m, c', A', hkn, rfl, hmk, rfl, hm, hown, hbel⟩ := hrel
  by_cases hlt : k < n
  · have hl : k < L.length := by rw [← HN.out]; exact hlt
    obtain ⟨b, off, rfl, hb, hc⟩ := HR.out.thing HL.out (by rw [hk]; decide) hl
    have fx := HL.out _ (List.getElem_mem hl)
    have r1 := rangeAt_below (hc k hl) hb hbel.out
    rw [hk] at r1
    have hlb : b < wr.heap.size := Nat.lt_of_lt_of_le hb hbel.out.size
    have h1 : (0 : Int) ≤ (k : Int) := by omega
    have h2 : (k : Int) < (n : Int) := by omega
    have hsu : (L.take (k + 1)).filter f = (L.take k).filter f ++ (if f L[k] = true then [L[k]] else []) := by
     rw [List.take_succ_eq_append_getElem hl, List.filter_append]
     by_cases e : f L[k] = true <;> simp [e]
    obtain ⟨x, hx⟩ : ∃ x, L[k] = x := ⟨_, rfl⟩
    rw [hx] at fx r1 hsu
    have HX := Lib.hid hx
    have HF := Lib.hid fx
    have HR1 := Lib.hid r1
    have HIX : Hid ((Tryz.prog.info? 46).map (·.size) = some x.length) := Lib.hid (by have := HSZ.out x fx; rwa [List.size_toArray] at this)
    have HW2 : Hid (Below w.heap.size w (wr.alloc (.cells #[.string ⟨#[]⟩, .int .i64 0, .string ⟨#[]⟩, .string ⟨#[]⟩, .string ⟨#[]⟩, .int .i64 0, .int .i64 0, .int .i64 0] 46))) := Lib.hid (hbel.out.alloc hbel.out.size _)
    have HBX : Hid ((wr.alloc (.cells #[.string ⟨#[]⟩, .int .i64 0, .string ⟨#[]⟩, .string ⟨#[]⟩, .string ⟨#[]⟩, .int .i64 0, .int .i64 0, .int .i64 0] 46)).heap[wr.heap.size]? = some (.cells #[.string ⟨#[]⟩, .int .i64 0, .string ⟨#[]⟩, .string ⟨#[]⟩, .string ⟨#[]⟩, .int .i64 0, .int .i64 0, .int .i64 0] 46 (0, 0))) := Lib.hid (heap_alloc_new _ _)
    have HSRW : Hid (Below wr.heap.size wr ((wr.alloc (.cells #[.string ⟨#[]⟩, .int .i64 0, .string ⟨#[]⟩, .string ⟨#[]⟩, .string ⟨#[]⟩, .int .i64 0, .int .i64 0, .int .i64 0] 46)).setRow wr.heap.size x.toArray)) := Lib.hid (setRow_below ((Below.refl _ _).alloc (Nat.le_refl _) _) (Nat.le_refl _) _)
    have HSR : Hid (Below w.heap.size w ((wr.alloc (.cells #[.string ⟨#[]⟩, .int .i64 0, .string ⟨#[]⟩, .string ⟨#[]⟩, .string ⟨#[]⟩, .int .i64 0, .int .i64 0, .int .i64 0] 46)).setRow wr.heap.size x.toArray)) := Lib.hid (hbel.out.trans (HSRW.out.mono hbel.out.size))
    have HRX : Hid (((wr.alloc (.cells #[.string ⟨#[]⟩, .int .i64 0, .string ⟨#[]⟩, .string ⟨#[]⟩, .string ⟨#[]⟩, .int .i64 0, .int .i64 0, .int .i64 0] 46)).setRow wr.heap.size x.toArray).heap[wr.heap.size]? = some (.cells x.toArray 46 (0, 0))) := Lib.hid (setRow_heap _ _ _ _ _ _ HBX.out)
    have HO : Hid ((#[.string ⟨#[]⟩, .int .i64 0, .string ⟨#[]⟩, .string ⟨#[]⟩, .string ⟨#[]⟩, .int .i64 0, .int .i64 0, .int .i64 0] : Array Value).size = x.toArray.size) := Lib.hid (by rw [List.size_toArray, List.size_toArray, HF.out.length]; rfl)
    have HOC : Hid (x.toArray.all (·.oneCell') = true) := Lib.hid (all_oneCell_toArray (fits_one HF.out))
    have HXL : Hid (x.length = 8) := Lib.hid HF.out.length
    have HE1 := Lib.hid (fits_one HF.out)
    have hle := HLE.out (k + 1)
    clear hc r1 hx fx hb
    cases hf : f x with
    | true =>
     rw [if_pos hf] at hsu
     have HSU := Lib.hid hsu
     have HFX := Lib.hid hf
     clear hf hsu hle
     go_wp2_with (first
      | (refine wpList_load_mid rfl 46 (.tmp 12) rfl b (off + k * 8) rfl x _ HR1.out hu rfl HIX.out ?_)
      | (refine wpList_store_row rfl 46 (.tmp 7) (.tmp 13) rfl wr.heap.size x.toArray rfl rfl _ _ HBX.out (HSZ.out _ HF.out) HO.out HOC.out ?_)
      | (refine wpList_load_row rfl 46 (.tmp 7) rfl wr.heap.size rfl _ _ _ _ HRX.out hu rfl (HSZ.out _ HF.out) ?_)
      | fail)
     refine (holdsClaim K cap f x _ (HT.out.later HSR.out) HF.out).mono ?_
     rintro e w1 ⟨rfl, hb1⟩
     have B1 := Lib.hid (HSR.out.trans (hb1.mono HSR.out.size))
     have HOW1 := Lib.hid (own_below (own_below hown.out HSRW.out) (hb1.mono (by simp)))
     have HRX1 := Lib.hid ((hb1.block wr.heap.size (lt_of_block HRX.out)).trans HRX.out)
     clear hb1
     have hf := HFX.out
     have HG1 : Hid (w.heap.size ≤ (w1.alloc (.cells x.toArray 46)).heap.size) := Lib.hid (by have := B1.out.size; simp; omega)
     go_wp2_with (first
      | (refine wpList_load_row rfl 46 (.tmp 7) rfl wr.heap.size rfl _ _ _ _ HRX1.out hu rfl (HSZ.out _ HF.out) ?_)
      | (refine wpList_buildOne rfl _ 46 _ rfl w1.heap.size rfl _ rfl i0 z0 8 Tryz.underlying30 hi0 hz0 hz1 (by decide) (by decide) x (by rfl) HXL.out ?_)
      | (at_builtin; refine wpList_app rfl (.tmp 17) (.tmp 19) _ rfl w.heap.size 46 i0 z0 8 i0.bytes Tryz.underlying30 hi0 hz0 hz1 rfl hz2 (by decide) A' m c' _ rfl (HOW1.out.alloc _) (w1.heap.size + 1) (some ⟨w1.heap.size, 0, none⟩) 1 1 x rfl (by rw [HXL.out]) (rd_one w1 x _) HE1.out (by simp only [maxLen]; omega) (HBY.out _ (by omega)) HG1.out ?_; intro A5 c5 w4 hown4 hb4; have HO4 := Lib.hid hown4; have HB4 := Lib.hid ((B1.out.alloc B1.out.size _).trans hb4); clear hown4 hb4)
      | fail)
     go_roundw
     case rel => exact ⟨k + 1, m + 1, c5, A5, by omega, by go_num, by omega, rfl, Lib.hid (by rw [HSU.out, List.length_append, ← hm.out]; rfl), Lib.hid (by rw [HSU.out, List.flatten_append]; simpa using HO4.out), HB4⟩
     case measure => simp [intOf]; omega
    | false =>
     rw [if_neg (by rw [hf]; simp), List.append_nil] at hsu
     have HSU := Lib.hid hsu
     have HFX := Lib.hid hf
     clear hf hsu hle
     go_wp2_with (first
      | (refine wpList_load_mid rfl 46 (.tmp 12) rfl b (off + k * 8) rfl x _ HR1.out hu rfl HIX.out ?_)
      | (refine wpList_store_row rfl 46 (.tmp 7) (.tmp 13) rfl wr.heap.size x.toArray rfl rfl _ _ HBX.out (HSZ.out _ HF.out) HO.out HOC.out ?_)
      | (refine wpList_load_row rfl 46 (.tmp 7) rfl wr.heap.size rfl _ _ _ _ HRX.out hu rfl (HSZ.out _ HF.out) ?_)
      | fail)
     refine (holdsClaim K cap f x _ (HT.out.later HSR.out) HF.out).mono ?_
     rintro e w1 ⟨rfl, hb1⟩
     have B1 := Lib.hid (HSR.out.trans (hb1.mono HSR.out.size))
     have HOW1 := Lib.hid (own_below (own_below hown.out HSRW.out) (hb1.mono (by simp)))
     have HRX1 := Lib.hid ((hb1.block wr.heap.size (lt_of_block HRX.out)).trans HRX.out)
     clear hb1
     have hf := HFX.out
     go_wp2_with fail
     go_roundw
     case rel => exact ⟨k + 1, m, c', A', by omega, by go_num, by omega, rfl, Lib.hid (by rw [HSU.out]; exact hm.out), Lib.hid (by rw [HSU.out]; exact HOW1.out), B1⟩
     case measure => simp [intOf]; omega
  · have ht : L.take k = L := List.take_of_length_le (by rw [← HN.out]; omega)
    rw [ht] at hown hm
    clear ht
    go_wp2_with fail
    go_ret
    exact ⟨A', m, c', hm.out, rfl, hown.out, hbel.out⟩
set_option maxRecDepth 100000 in
set_option maxHeartbeats 3200000 in
theorem ccof (h : Hs) (L : Nat → List (List Value)) (s : ByteArray) (w : World) (hh : HT h L w) (hn8 : h.n 8 ≤ 100000) :
 Calls Tryz.prog 71 #[.agg h.cells, .string s] w fun e w' => Below w.heap.size w w' ∧ ∃ A c, e = .returned (.slice A (claimsL (L 8) s).length c) ∧ Rd w' w'.heap.size A (claimsL (L 8) s).flatten := by
 obtain ⟨hn, hn6, hL, hr⟩ := hh 8 (by decide)
 obtain ⟨W0, hW0⟩ : ∃ W0, W0 = (w.alloc (.cells h.cells 37)).alloc (.cells #[.string s] 9) := ⟨_, rfl⟩
 have H0 : Hid (Below w.heap.size w W0) := Lib.hid (by rw [hW0]; exact ((Below.refl _ _).alloc (Nat.le_refl _) _).alloc (by simp) _)
 have HH : Hid (W0.heap[w.heap.size]? = some (.cells h.cells 37 (0, 0))) := Lib.hid (by rw [hW0]; exact (Below.heap_alloc _ _ _ (by simp)).trans (heap_alloc_new _ _))
 have HX : Hid (W0.heap[w.heap.size + 1]? = some (.cells #[.string s] 9 (0, 0))) := Lib.hid (by
  rw [hW0]
  have hq := heap_alloc_new (w.alloc (.cells h.cells 37)) (.cells #[.string s] 9)
  simpa using hq)
 have c2 : W0.cell? ⟨w.heap.size, 8, none⟩ = some (.slice (h.A 8) (h.n 8) (h.c 8)) := by rw [cell_of_block HH.out]; rfl
 have l2 : w.heap.size < W0.heap.size := lt_of_block HH.out
 have HTL : Hid (TellsF kClaim W0 108 #[.pointer (some ⟨w.heap.size + 1, 0, none⟩)] (ofOrd s)) := Lib.hid ⟨fun args W => by kernel_rfl, fun W hW e he => by
  have hx1 := (hW.block _ (lt_of_block HX.out)).trans HX.out
  have h1 := cof1 (w.heap.size + 1) s (clOf e).ord (clOf e).line (clOf e).bin (clOf e).item (clOf e).lot (clOf e).st (clOf e).qty (clOf e).task W (by rw [cell_of_block hx1]; rfl) (lt_of_block hx1)
  have h2 : e.toArray = (clOf e).cells.toArray := by conv => lhs; rw [cl_cells he]
  rw [h2]
  exact h1⟩
 have HK := Lib.hid (keepClaim (h.A 8) (h.n 8) (h.c 8) _ _ _ (L 8) W0 hn hn8 hL (hr.below H0.out |>.mono H0.out.size) HTL.out)
 have hmf : ∀ (fn : Fn) (first cap : Array Value) (w : World), (Instr.makeFunc fn first cap).run Tryz.prog w = .ok (.func fn first cap) w := fun _ _ _ _ => rfl
 have HW0 := Lib.hid hW0
 clear hn hn6 hL hr hh hW0
 go_enter Tryz.func71, Tryz.ntmps71
 go_upto_region 1 with fail
 rw [← HW0.out]
 clear HW0
 go_wp2_with fail
 refine HK.out.mono ?_
 rintro e w1 ⟨A, n, c, hl, rfl, hown, hb1⟩
 have H1 := Lib.hid (H0.out.trans (hb1.mono H0.out.size))
 have HR := Lib.hid (Rd.of_own hown)
 have HL := Lib.hid hl
 clear hb1 c2 l2 hown hl
 go_wp2_with fail
 go_ret
 exact ⟨H1.out, A, c, by rw [HL.out]; rfl, HR.out⟩
end Go.Proofs.YtlkmccmbpnbgbaaGreat
