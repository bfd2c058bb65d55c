/-
 CONTRACTS of slices.IndexFunc over lines, of inbound's inUse, lineOf. (By wip/tools/gen_kin.py.)
 CONTRACTS of slices.ContainsFunc over lines, of inbound's checkUnused, checkLine, Lines. (By wip/tools/gen_kin.py.)
 CONTRACTS of slices.IndexFunc, slices.ContainsFunc over zones, of inbound's isSite. (By wip/tools/gen_kin.py.)
 (By wip/tools/merge.py.)
-/
import Derived.Test.YtlkmccmbpnbgbaaGreatOPl
import Derived.Test.YtlkmccmbpnbgbaaGreatHHouse
import Derived.Test.YtlkmccmbpnbgbaaGreatGT
import Derived.Deep.CutRange
import Derived.Test.YtlkmccmbpnbgbaaGreatKL
import Derived.Test.YtlkmccmbpnbgbaaGreatJHead
import Derived.BigQuiet
namespace Go.Proofs.YtlkmccmbpnbgbaaGreat
set_option linter.unusedVariables false
open Go.RowKit
open Pl (firstG findG putG It firstG_none firstG_some)

/-- A place, -1 where there is none. -/
def idxI : Option Nat → Int
 | some i => (i : Int)
 | none => -1
theorem idx_any (f : List Value → Bool) (L : List (List Value)) : decide (0 ≤ idxI (firstG f L)) = L.any f := by
 unfold firstG
 cases h : L.findIdx? f with
 | none =>
  rw [List.findIdx?_eq_none_iff] at h
  rw [show L.any f = false from List.any_eq_false.2 (fun p hp => by rw [h p hp]; simp)]
  rfl
 | some i =>
  obtain ⟨hi, h1, _⟩ := List.findIdx?_eq_some_iff_getElem.1 h
  rw [show L.any f = true from List.any_eq_true.2 ⟨L[i], List.getElem_mem hi, h1⟩]
  simp [idxI]

set_option maxRecDepth 100000 in
set_option maxHeartbeats 800000 in
theorem indexLine (A : Option Addr) (n c K : Nat) (cap : Array Value) (f : List Value → Bool) (L : List (List Value)) (w : World) (hn : n = L.length) (hn63 : n ≤ 1000000) (hL : Things kLine L)
 (hr : Rd w w.heap.size A L.flatten) (hT : TellsF kLine w K cap f) :
 Calls Tryz.prog 109 #[.slice A n c, .func (.func K) #[] cap] w fun e w' => e = .returned (.int .i64 (idxI (firstG f L))) ∧ Below w.heap.size w w' := by
 have HN := Lib.hid hn
 have HR := Lib.hid hr
 have HT := Lib.hid hT
 have HL := Lib.hid hL
 have hent := hT.1
 have hk : kLine.length = 6 := by decide
 have hu := Tryz.underlying39
 have HSZ : Hid (∀ y, Fits kLine y → (Tryz.prog.info? 39).map (·.size) = some y.length) := Lib.hid (fun y hy => by rw [show (Tryz.prog.info? 39).map (·.size) = some 6 from by kernel_rfl, hy.length]; rfl)
 clear hn hr hT hL
 go_enter Tryz.func109, Tryz.ntmps109
 go_wp2_with fail
 go_loopw [8] (fun i wr => ∃ k : Nat, k ≤ n ∧ i = .int .i64 (k : Int) ∧ Hid (∀ j (hj : j < L.length), j < k → f L[j] = false) ∧ Hid (Below w.heap.size w wr)) (fun i _ => n - (intOf i).toNat)
 case atStart => exact ⟨0, by omega, rfl, Lib.hid (fun j hj h => by omega), Lib.hid (Below.refl _ _)⟩
 case round =>
  obtain ⟨k, hkn, rfl, hno, hbel⟩ := hrel
  by_cases hlt : k < n
  · have hl : k < L.length := by rw [← HN.out]; exact hlt
    obtain ⟨b, off, rfl, hb, hc⟩ := HR.out.thing HL.out (by rw [hk]; decide) hl
    have fx := HL.out _ (List.getElem_mem hl)
    have r1 := rangeAt_below (hc k hl) hb hbel.out
    rw [hk] at r1
    have hlb : b < wr.heap.size := Nat.lt_of_lt_of_le hb hbel.out.size
    have h1 : (0 : Int) ≤ (k : Int) := by omega
    have h2 : (k : Int) < (n : Int) := by omega
    obtain ⟨x, hx⟩ : ∃ x, L[k] = x := ⟨_, rfl⟩
    rw [hx] at fx r1
    have HX := Lib.hid hx
    have HF := Lib.hid fx
    have HR1 := Lib.hid r1
    have HIX := Lib.hid (HSZ.out x fx)
    clear hc r1 hx fx hb
    cases hf : f x with
    | true =>
     have HFX := Lib.hid hf
     have HV : Hid (firstG f L = some k) := Lib.hid (firstG_some hl (fun j hj hjk => hno.out j hj hjk) (by rw [HX.out]; exact hf))
     clear hf
     go_wp2_with (first
      | (refine wpList_load_mid rfl 39 (.tmp 14) rfl b (off + k * 6) rfl x _ HR1.out hu rfl HIX.out ?_)
      | fail)
     refine (HT.out.2 _ hbel.out x HF.out).mono ?_
     rintro e w1 ⟨rfl, hb1⟩
     have B1 := Lib.hid (hbel.out.trans (hb1.mono hbel.out.size))
     clear hb1
     have hf := HFX.out
     go_wp2_with fail
     go_ret
     exact ⟨by rw [HV.out]; rfl, B1.out⟩
    | false =>
     have HFX := Lib.hid hf
     have HNO : Hid (∀ j (hj : j < L.length), j < k + 1 → f L[j] = false) := Lib.hid (fun j hj hjk => by
      by_cases e : j = k
      · subst e; rw [HX.out]; exact hf
      · exact hno.out j hj (by omega))
     clear hf
     go_wp2_with (first
      | (refine wpList_load_mid rfl 39 (.tmp 14) rfl b (off + k * 6) rfl x _ HR1.out hu rfl HIX.out ?_)
      | fail)
     refine (HT.out.2 _ hbel.out x HF.out).mono ?_
     rintro e w1 ⟨rfl, hb1⟩
     have B1 := Lib.hid (hbel.out.trans (hb1.mono hbel.out.size))
     clear hb1
     have hf := HFX.out
     go_wp2_with fail
     go_roundw
     case rel => exact ⟨k + 1, by omega, by go_num, HNO, B1⟩
     case measure => simp [intOf]; omega
  · have HV : Hid (firstG f L = none) := Lib.hid (firstG_none (fun j hj => hno.out j hj (by have := HN.out; omega)))
    go_wp2_with fail
    go_ret
    exact ⟨by rw [HV.out]; rfl, hbel.out⟩

/-- The first n of lines that stand cell by cell, as things. -/
def lnsL (l : List Value) (n : Nat) : List (List Value) := (List.range n).map fun i => (lnAt l i).cells
theorem Ln.fitsK (x : Ln) : Fits kLine x.cells := ⟨⟨_, rfl⟩, ⟨_, rfl⟩, ⟨_, rfl⟩, ⟨_, rfl⟩, ⟨_, rfl⟩, ⟨_, rfl⟩, trivial⟩
theorem lnsL_things (l : List Value) (n : Nat) : Things kLine (lnsL l n) := fun e he => by
 obtain ⟨i, _, rfl⟩ := List.mem_map.1 he
 exact Ln.fitsK _
theorem lnsL_len (l : List Value) (n : Nat) : (lnsL l n).length = n := by unfold lnsL; simp
theorem lnsL_flat {l : List Value} (hf : Fits kLine8 l) : ∀ n, n ≤ 8 → (lnsL l n).flatten = l.take (n * 6)
 | 0, _ => by simp [lnsL]
 | n + 1, h => by
  have ih := lnsL_flat hf n (by omega)
  unfold lnsL at ih ⊢
  rw [List.range_succ, List.map_append, List.flatten_append, ih]
  simp only [List.map_cons, List.map_nil, List.flatten_cons, List.flatten_nil, List.append_nil]
  rw [← lnAt_cells hf (by omega), show (n + 1) * 6 = n * 6 + 6 from by omega, List.take_add]
theorem lines_rd {w : World} {b o : Nat} {l : List Value} (hf : Fits kLine8 l) (hr : w.rangeAt b o l) (hb : b < w.heap.size) {n : Nat} (hn : n ≤ 8) : Rd w w.heap.size (some ⟨b, o, none⟩) (lnsL l n).flatten := fun _ => ⟨b, o, rfl, hb, fun j u hu => by
 rw [lnsL_flat hf n hn] at hu
 rw [List.getElem?_take] at hu
 split at hu
 · exact hr j u hu
 · cases hu⟩
/-- Is a line one, and of an item? -/
def usedB (e : List Value) : Bool := !(emp (lnOf e).item)
def forC (s : ByteArray) (e : List Value) : Bool := !(emp (lnOf e).item) && Pl.eqv (lnOf e).item s
set_option maxRecDepth 100000 in
set_option maxHeartbeats 3200000 in
theorem cuse (xi : ByteArray) (xa xg xb xp xo : Int) (w : World) : Calls Tryz.prog 116 #[.agg #[.string xi, .int .i64 xa, .int .i64 xg, .int .i64 xb, .int .i64 xp, .int .i64 xo]] w fun e w' => e = .returned (.bool (!(emp xi))) ∧ Below w.heap.size w w' := by
 obtain ⟨v, hv⟩ : ∃ v, (emp xi) = v := ⟨_, rfl⟩
 have HV : Hid (xi.toList.isEmpty = v) := Lib.hid hv
 rw [hv]
 have HB : Hid (Below w.heap.size w (w.alloc (.cells #[.string xi, .int .i64 xa, .int .i64 xg, .int .i64 xb, .int .i64 xp, .int .i64 xo] 39))) := Lib.hid ((Below.refl _ _).alloc (Nat.le_refl _) _)
 clear hv
 have hv := HV.out
 cases v with
 | true =>
  go_enter Tryz.func116, Tryz.ntmps116
  go_wp2_with fail
  go_ret
  exact ⟨rfl, HB.out⟩
 | false =>
  go_enter Tryz.func116, Tryz.ntmps116
  go_wp2_with fail
  go_ret
  exact ⟨rfl, HB.out⟩
set_option maxRecDepth 100000 in
set_option maxHeartbeats 3200000 in
theorem cline1 (gi : Nat) (s xi : ByteArray) (xa xg xb xp xo : Int) (w : World) (hc : w.cell? ⟨gi, 0, none⟩ = some (.string s)) (hl : gi < w.heap.size) : Calls Tryz.prog 160 #[.agg #[.string xi, .int .i64 xa, .int .i64 xg, .int .i64 xb, .int .i64 xp, .int .i64 xo], .pointer (some ⟨gi, 0, none⟩)] w fun e w' => e = .returned (.bool (!(emp xi) && Pl.eqv xi s)) ∧ Below w.heap.size w w' := by
 obtain ⟨W0, hW0⟩ : ∃ W0, W0 = w.alloc (.cells #[.string xi, .int .i64 xa, .int .i64 xg, .int .i64 xb, .int .i64 xp, .int .i64 xo] 39) := ⟨_, rfl⟩
 have HB : Hid (Below w.heap.size w W0) := Lib.hid (by rw [hW0]; exact (Below.refl _ _).alloc (Nat.le_refl _) _)
 have HX : Hid (W0.heap[w.heap.size]? = some (.cells #[.string xi, .int .i64 xa, .int .i64 xg, .int .i64 xb, .int .i64 xp, .int .i64 xo] 39 (0, 0))) := Lib.hid (by rw [hW0]; exact heap_alloc_new _ _)
 have HC : Hid (∀ W, Below w.heap.size w W → W.cell? ⟨gi, 0, none⟩ = some (.string s) ∧ gi < W.heap.size) := Lib.hid (fun W hW => ⟨(hW.cell (p := ⟨gi, 0, none⟩) hl).trans hc, Nat.lt_of_lt_of_le hl hW.size⟩)
 have hu := Tryz.underlying39
 have HS : Hid ((Tryz.prog.info? 39).map (·.size) = some (#[.string xi, .int .i64 xa, .int .i64 xg, .int .i64 xb, .int .i64 xp, .int .i64 xo] : Array Value).size) := Lib.hid (by kernel_rfl)
 obtain ⟨u, hu1⟩ : ∃ u, emp xi = u := ⟨_, rfl⟩
 obtain ⟨v, hv⟩ : ∃ v, Pl.eqv xi s = v := ⟨_, rfl⟩
 have HU : Hid (∀ W, Calls Tryz.prog 116 #[.agg #[.string xi, .int .i64 xa, .int .i64 xg, .int .i64 xb, .int .i64 xp, .int .i64 xo]] W fun e w' => e = .returned (.bool (!u)) ∧ Below W.heap.size W w') := Lib.hid (fun W => by rw [← hu1]; exact cuse xi xa xg xb xp xo W)
 have HV : (xi.toList == s.toList) = v := hv
 rw [hu1, hv]
 clear hc hl hu1 hv
 subst hW0
 go_enter Tryz.func160, Tryz.ntmps160
 go_wp2_with (first
  | (refine wpList_load_row rfl 39 (.tmp 1) rfl w.heap.size rfl _ _ _ _ HX.out hu rfl HS.out ?_)
  | fail)
 refine (HU.out _).mono ?_
 rintro e w1 ⟨rfl, hb1⟩
 have H1 := Lib.hid (HB.out.trans (hb1.mono HB.out.size))
 have HX1 := (hb1.block _ (lt_of_block HX.out)).trans HX.out
 have d0 : w1.cell? ⟨w.heap.size, 0, none⟩ = some (.string xi) := by rw [cell_of_block HX1]; rfl
 have dl := lt_of_block HX1
 obtain ⟨c0, cl⟩ := HC.out _ H1.out
 clear hb1 HX1
 cases u with
 | true =>
  go_wp2_with fail
  go_ret
  exact ⟨rfl, H1.out⟩
 | false =>
  go_wp2_with fail
  go_ret
  exact ⟨rfl, H1.out⟩
set_option maxRecDepth 100000 in
set_option maxHeartbeats 3200000 in
theorem clineOf (A : Option Addr) (n c : Nat) (L : List (List Value)) (s : ByteArray) (w : World) (hn : n = L.length) (hn6 : n ≤ 1000000) (hL : Things kLine L) (hr : Rd w w.heap.size A L.flatten) :
 Calls Tryz.prog 143 #[.slice A n c, .string s] w fun e w' => e = .returned (.int .i64 (idxI (firstG (forC s) L))) ∧ Below w.heap.size w w' := by
 obtain ⟨W0, hW0⟩ : ∃ W0, W0 = w.alloc (.cells #[.string s] 9) := ⟨_, rfl⟩
 have H0 : Hid (Below w.heap.size w W0) := Lib.hid (by rw [hW0]; exact (Below.refl _ _).alloc (Nat.le_refl _) _)
 have HX : Hid (W0.heap[w.heap.size]? = some (.cells #[.string s] 9 (0, 0))) := Lib.hid (by rw [hW0]; exact heap_alloc_new _ _)
 have HTL : Hid (TellsF kLine W0 160 #[.pointer (some ⟨w.heap.size, 0, none⟩)] (forC s)) := Lib.hid ⟨fun args W => by kernel_rfl, fun W hW e he => by
  have hx1 := (hW.block _ (lt_of_block HX.out)).trans HX.out
  have h1 := cline1 w.heap.size s (lnOf e).item (lnOf e).asked (lnOf e).got (lnOf e).back (lnOf e).packed (lnOf e).out W (by rw [cell_of_block hx1]; rfl) (lt_of_block hx1)
  have h2 : e.toArray = (lnOf e).cells.toArray := by conv => lhs; rw [ln_cells he]
  rw [h2]
  exact h1⟩
 have HK := Lib.hid (indexLine A n c _ _ _ L W0 hn hn6 hL (hr.below H0.out |>.mono H0.out.size) HTL.out)
 have hmf : ∀ (fn : Fn) (first cap : Array Value) (w : World), (Instr.makeFunc fn first cap).run Tryz.prog w = .ok (.func fn first cap) w := fun _ _ _ _ => rfl
 have HW0 := Lib.hid hW0
 clear hn hn6 hL hr hW0
 go_enter Tryz.func143, Tryz.ntmps143
 go_upto_region 1 with fail
 rw [← HW0.out]
 clear HW0
 go_wp2_with fail
 refine HK.out.mono ?_
 rintro e w1 ⟨rfl, hb1⟩
 have H1 := Lib.hid (H0.out.trans (hb1.mono H0.out.size))
 clear hb1
 go_wp2_with fail
 go_ret
 exact ⟨rfl, H1.out⟩
set_option maxRecDepth 100000 in
theorem slice_all (b o : Nat) (W : World) : (Instr.sliceAt 40 (.pointer (some ⟨b, o, none⟩)) none none none).run Tryz.prog W = .ok (.slice (some ⟨b, o, none⟩) 8 8) W := by
 simp [go_sem]
end Go.Proofs.YtlkmccmbpnbgbaaGreat

namespace Go.Proofs.YtlkmccmbpnbgbaaGreat
set_option linter.unusedVariables false
open Go.RowKit
open Pl (firstG findG putG It firstG_none firstG_some)

set_option maxRecDepth 100000 in
theorem hasLine (A : Option Addr) (n c K : Nat) (cap : Array Value) (f : List Value → Bool) (L : List (List Value)) (w : World) (hn : n = L.length) (hn63 : n ≤ 1000000) (hL : Things kLine L)
 (hr : Rd w w.heap.size A L.flatten) (hT : TellsF kLine w K cap f) :
 Calls Tryz.prog 72 #[.slice A n c, .func (.func K) #[] cap] w fun e w' => e = .returned (.bool (L.any f)) ∧ Below w.heap.size w w' := by
 have H := Lib.hid (indexLine A n c K cap f L w hn hn63 hL hr hT)
 have HA := Lib.hid (idx_any f L)
 clear hr hT hL hn
 go_enter Tryz.func72, Tryz.ntmps72
 go_wp2_with fail
 refine H.out.mono ?_
 rintro e w1 ⟨rfl, hb1⟩
 have B1 := Lib.hid hb1
 clear hb1
 obtain ⟨r, hr⟩ : ∃ r, idxI (firstG f L) = r := ⟨_, rfl⟩
 rw [hr]
 have HR := Lib.hid hr
 clear hr
 go_wp2_with fail
 go_ret
 exact ⟨by rw [← HA.out, HR.out]; rfl, B1.out⟩

set_option maxRecDepth 100000 in
set_option maxHeartbeats 3200000 in
theorem cunused (xi : ByteArray) (xa xg xb xp xo : Int) (w : World) (hx : emp xi = true) : Calls Tryz.prog 141 #[.agg #[.string xi, .int .i64 xa, .int .i64 xg, .int .i64 xb, .int .i64 xp, .int .i64 xo]] w fun e w' => e = .returned (.int .i64 ((if Ln.nil (Ln.mk xi xa xg xb xp xo) = true then 0 else 5 : Nat) : Int)) ∧ Below w.heap.size w w' := by
 have hxi : xi = ⟨#[]⟩ := emp_eq hx
 obtain ⟨q, hq⟩ : ∃ q : Nat, (if Ln.nil (Ln.mk xi xa xg xb xp xo) = true then 0 else 5) = q := ⟨_, rfl⟩
 rw [hq]
 have HB : Hid (Below w.heap.size w (w.alloc (.cells #[.string xi, .int .i64 xa, .int .i64 xg, .int .i64 xb, .int .i64 xp, .int .i64 xo] 39))) := Lib.hid ((Below.refl _ _).alloc (Nat.le_refl _) _)
 have HX : Hid ((w.alloc (.cells #[.string xi, .int .i64 xa, .int .i64 xg, .int .i64 xb, .int .i64 xp, .int .i64 xo] 39)).heap[w.heap.size]? = some (.cells #[.string xi, .int .i64 xa, .int .i64 xg, .int .i64 xb, .int .i64 xp, .int .i64 xo] 39 (0, 0))) := Lib.hid (heap_alloc_new _ _)
 have hu := Tryz.underlying39
 have HS : Hid ((Tryz.prog.info? 39).map (·.size) = some (#[.string xi, .int .i64 xa, .int .i64 xg, .int .i64 xb, .int .i64 xp, .int .i64 xo] : Array Value).size) := Lib.hid (by kernel_rfl)
 by_cases hz : Ln.nil (Ln.mk xi xa xg xb xp xo) = true
 · have hne : ∀ W, (binOp .neq 39 (.agg #[.string xi, .int .i64 xa, .int .i64 xg, .int .i64 xb, .int .i64 xp, .int .i64 xo]) (.agg #[.string ⟨#[]⟩, .int .i64 0, .int .i64 0, .int .i64 0, .int .i64 0, .int .i64 0])).run Tryz.prog W = .ok (.bool false) W := fun W => by
    obtain ⟨b, e1, e2⟩ := neq_struct (P := Tryz.prog) eqLine (by decide) [.string xi, .int .i64 xa, .int .i64 xg, .int .i64 xb, .int .i64 xp, .int .i64 xo] [.string ⟨#[]⟩, .int .i64 0, .int .i64 0, .int .i64 0, .int .i64 0, .int .i64 0] W ⟨⟨_, rfl⟩, ⟨_, rfl⟩, ⟨_, rfl⟩, ⟨_, rfl⟩, ⟨_, rfl⟩, ⟨_, rfl⟩, trivial⟩ ⟨⟨_, rfl⟩, ⟨_, rfl⟩, ⟨_, rfl⟩, ⟨_, rfl⟩, ⟨_, rfl⟩, ⟨_, rfl⟩, trivial⟩
    have hb : b = false := by
     simp [Ln.nil] at hz
     obtain ⟨⟨⟨⟨z1, z2⟩, z3⟩, z4⟩, z5⟩ := hz
     exact e2.2 (by rw [hxi, z1, z2, z3, z4, z5])
    rw [hb] at e1
    exact e1
   have HV : Hid (q = 0) := Lib.hid (by rw [← hq]; exact if_pos hz)
   clear hz hxi hx hq
   go_enter Tryz.func141, Tryz.ntmps141
   go_wp2_with (first
    | (refine wpList_load_row rfl 39 (.tmp 1) rfl w.heap.size rfl _ _ _ _ HX.out hu rfl HS.out ?_)
    | fail)
   go_ret
   exact ⟨by rw [HV.out]; rfl, HB.out⟩
 · have hne : ∀ W, (binOp .neq 39 (.agg #[.string xi, .int .i64 xa, .int .i64 xg, .int .i64 xb, .int .i64 xp, .int .i64 xo]) (.agg #[.string ⟨#[]⟩, .int .i64 0, .int .i64 0, .int .i64 0, .int .i64 0, .int .i64 0])).run Tryz.prog W = .ok (.bool true) W := fun W => by
    obtain ⟨b, e1, e2⟩ := neq_struct (P := Tryz.prog) eqLine (by decide) [.string xi, .int .i64 xa, .int .i64 xg, .int .i64 xb, .int .i64 xp, .int .i64 xo] [.string ⟨#[]⟩, .int .i64 0, .int .i64 0, .int .i64 0, .int .i64 0, .int .i64 0] W ⟨⟨_, rfl⟩, ⟨_, rfl⟩, ⟨_, rfl⟩, ⟨_, rfl⟩, ⟨_, rfl⟩, ⟨_, rfl⟩, trivial⟩ ⟨⟨_, rfl⟩, ⟨_, rfl⟩, ⟨_, rfl⟩, ⟨_, rfl⟩, ⟨_, rfl⟩, ⟨_, rfl⟩, trivial⟩
    have hb : b = true := by
     cases b with
     | true => rfl
     | false =>
      have h := e2.1 rfl
      simp only [List.cons.injEq, Value.int.injEq, true_and, and_true] at h
      exact absurd (by simp [Ln.nil, h]) hz
    rw [hb] at e1
    exact e1
   have HV : Hid (q = 5) := Lib.hid (by rw [← hq]; exact if_neg hz)
   clear hz hxi hx hq
   go_enter Tryz.func141, Tryz.ntmps141
   go_wp2_with (first
    | (refine wpList_load_row rfl 39 (.tmp 1) rfl w.heap.size rfl _ _ _ _ HX.out hu rfl HS.out ?_)
    | fail)
   go_ret
   exact ⟨by rw [HV.out]; rfl, HB.out⟩
/-- What is wrong with a line, some ahead of it being of its item. -/
def chkE (LI : List (List Value)) (x : Ln) (b : Bool) : Nat :=
 if emp x.item = true then (if x.nil = true then 0 else 5)
 else if (atItem LI x.item).isSome = false then 12 else if b = true then 11
 else if x.asked < 1 ∨ 1000000000 < x.asked then 10
 else if x.got ≠ 0 ∨ x.back ≠ 0 ∨ x.packed ≠ 0 ∨ x.out ≠ 0 then 5 else 0
theorem chk_line (LI : List (List Value)) (l : List Value) (i : Nat) : chkE LI (lnAt l i) ((lnsL l i).any (forC (lnAt l i).item)) = lineE LI l i := by
 rw [lineE_at LI l i _ rfl]
 unfold chkE
 cases he : emp (lnAt l i).item with
 | true => rfl
 | false =>
  have ha : (lnsL l i).any (forC (lnAt l i).item) = (List.range i).any fun k => Pl.eqv (lnAt l k).item (lnAt l i).item := by
   unfold lnsL
   rw [List.any_map]
   congr 1
   funext k
   show (!(emp (lnAt l k).item) && Pl.eqv (lnAt l k).item (lnAt l i).item) = _
   cases hq : Pl.eqv (lnAt l k).item (lnAt l i).item with
   | false => simp
   | true => rw [(Pl.eqv_iff _ _).1 hq, he]; rfl
  rw [ha]
theorem used_any (l : List Value) (n : Nat) : (lnsL l n).any usedB = decide (usedN l n ≠ 0) := by
 unfold lnsL usedN
 rw [List.any_map]
 cases h : (List.range n).any (usedB ∘ fun i => (lnAt l i).cells) with
 | true =>
  obtain ⟨k, hk, hp⟩ := List.any_eq_true.1 h
  have : k ∈ (List.range n).filter fun i => !(emp (lnAt l i).item) := List.mem_filter.2 ⟨hk, hp⟩
  have := List.length_pos_of_mem this
  symm; simp only [ne_eq, decide_eq_true_eq]; omega
 | false =>
  have h2 : (List.range n).filter (fun i => !(emp (lnAt l i).item)) = [] := List.filter_eq_nil_iff.2 (fun k hk => by
   have := List.any_eq_false.1 h k hk
   exact this)
  rw [h2]; rfl
set_option maxRecDepth 100000 in
set_option maxHeartbeats 3200000 in
theorem cchkl (h : Hs) (L : Nat → List (List Value)) (xi : ByteArray) (xa xg xb xp xo : Int) (A : Option Addr) (n c : Nat) (LA : List (List Value)) (w : World) (hh : HT h L w) (hn : n = LA.length) (hn6 : n ≤ 1000000) (hL : Things kLine LA) (hr : Rd w w.heap.size A LA.flatten) :
 Calls Tryz.prog 115 #[.agg h.cells, .agg #[.string xi, .int .i64 xa, .int .i64 xg, .int .i64 xb, .int .i64 xp, .int .i64 xo], .slice A n c] w fun e w' => e = .returned (.int .i64 (chkE (L 0) (Ln.mk xi xa xg xb xp xo) (LA.any (forC xi)) : Nat)) ∧ Below w.heap.size w w' := by
 obtain ⟨r, hr0⟩ : ∃ r, chkE (L 0) (Ln.mk xi xa xg xb xp xo) (LA.any (forC xi)) = r := ⟨_, rfl⟩
 rw [hr0]
 obtain ⟨y, hy, _⟩ := item_it hh xi
 obtain ⟨is, his⟩ : ∃ z, (atItem (L 0) xi).isSome = z := ⟨_, rfl⟩
 obtain ⟨z, hz⟩ : ∃ z, idxI (firstG (forC xi) LA) = z := ⟨_, rfl⟩
 obtain ⟨u, hu⟩ : ∃ u, emp xi = u := ⟨_, rfl⟩
 obtain ⟨un, hun⟩ : ∃ z : Nat, (if Ln.nil (Ln.mk xi xa xg xb xp xo) = true then 0 else 5) = z := ⟨_, rfl⟩
 have HA : Hid (r = if u = true then un else if is = false then 12 else if 0 ≤ z then 11 else if xa < 1 ∨ 1000000000 < xa then 10 else if xg ≠ 0 ∨ xb ≠ 0 ∨ xp ≠ 0 ∨ xo ≠ 0 then 5 else 0) := Lib.hid (by
  rw [← hr0, ← hun, ← hu, ← his, ← idx_any, hz]
  unfold chkE
  simp only [decide_eq_true_eq])
 have CU : Hid (∀ W, Calls Tryz.prog 116 #[.agg #[.string xi, .int .i64 xa, .int .i64 xg, .int .i64 xb, .int .i64 xp, .int .i64 xo]] W fun e w' => e = .returned (.bool (!u)) ∧ Below W.heap.size W w') := Lib.hid (fun W => by rw [← hu]; exact cuse xi xa xg xb xp xo W)
 have CUN : Hid (u = true → ∀ W, Calls Tryz.prog 141 #[.agg #[.string xi, .int .i64 xa, .int .i64 xg, .int .i64 xb, .int .i64 xp, .int .i64 xo]] W fun e w' => e = .returned (.int .i64 (un : Nat)) ∧ Below W.heap.size W w') := Lib.hid (fun hut W => by rw [← hun]; exact cunused xi xa xg xb xp xo W (hu.trans hut))
 have CI : Hid (∀ W, Below w.heap.size w W → Calls Tryz.prog 142 #[.agg h.cells, .string xi] W fun e w' => e = .returned (.tuple #[.agg #[.string y.code, .string (y.nm 0), .int .i64 (y.fc 0), .string (y.nm 1), .int .i64 (y.fc 1), .string (y.nm 2), .int .i64 (y.fc 2), .string (y.nm 3), .int .i64 (y.fc 3), .int .i64 y.vol, .int .i64 y.wei, .bool y.lots, .bool y.serial, .bool y.chk], .bool is]) ∧ Below W.heap.size W w') := Lib.hid (fun W hW => by have := fcItem (hh.below hW) xi; rw [hy, his] at this; exact this)
 have CL : Hid (∀ W, Below w.heap.size w W → Calls Tryz.prog 143 #[.slice A n c, .string xi] W fun e w' => e = .returned (.int .i64 z) ∧ Below W.heap.size W w') := Lib.hid (fun W hW => by have := clineOf A n c LA xi W hn hn6 hL ((hr.below hW).mono hW.size); rw [hz] at this; exact this)
 clear hr0 hy his hz hu hun
 obtain ⟨W0, hW0⟩ : ∃ W0, W0 = ((w.alloc (.cells h.cells 37)).alloc (.cells #[.string xi, .int .i64 xa, .int .i64 xg, .int .i64 xb, .int .i64 xp, .int .i64 xo] 39)) := ⟨_, rfl⟩
 have hb0 : Below w.heap.size w W0 := by rw [hW0]; exact ((Below.refl _ _).alloc (Nat.le_refl _) _).alloc (by simp <;> omega) _
 have hs0 : W0.heap.size = w.heap.size + 2 := by rw [hW0]; simp
 have HH : Hid (∀ W, Below W0.heap.size W0 W → W.heap[w.heap.size]? = some (.cells h.cells 37 (0, 0))) := Lib.hid (fun W hW => (hW.block _ (by omega)).trans (by
  rw [hW0]
  have hq := heap_alloc_new w (.cells h.cells 37)
  exact (Below.heap_alloc _ _ _ (by simp <;> omega)).trans ((by simpa using hq))))
 have HX : Hid (∀ W, Below W0.heap.size W0 W → W.heap[w.heap.size + 1]? = some (.cells #[.string xi, .int .i64 xa, .int .i64 xg, .int .i64 xb, .int .i64 xp, .int .i64 xo] 39 (0, 0))) := Lib.hid (fun W hW => (hW.block _ (by omega)).trans (by
  rw [hW0]
  have hq := heap_alloc_new (w.alloc (.cells h.cells 37)) (.cells #[.string xi, .int .i64 xa, .int .i64 xg, .int .i64 xb, .int .i64 xp, .int .i64 xo] 39)
  exact (by simpa using hq)))
 have HBW : Hid (∀ W, Below W0.heap.size W0 W → Below w.heap.size w W ∧ w.heap.size + 2 ≤ W.heap.size) := Lib.hid (fun W hW => ⟨hb0.trans (hW.mono (by omega)), by have := hW.size; omega⟩)
 have huh := Tryz.underlying37
 have HSH : Hid (∀ a : Hs, (Tryz.prog.info? 37).map (·.size) = some a.cells.size) := Lib.hid (fun a => by kernel_rfl)
 have huHX := Tryz.underlying39
 have HSHX : Hid ((Tryz.prog.info? 39).map (·.size) = some 6) := Lib.hid (by kernel_rfl)
 have HCHX : Hid (∀ W, Below W0.heap.size W0 W → W.cell? ⟨w.heap.size + 1, 0, none⟩ = some (.string xi) ∧ W.cell? ⟨w.heap.size + 1, 1, none⟩ = some (.int .i64 xa) ∧ W.cell? ⟨w.heap.size + 1, 2, none⟩ = some (.int .i64 xg) ∧ W.cell? ⟨w.heap.size + 1, 3, none⟩ = some (.int .i64 xb) ∧ W.cell? ⟨w.heap.size + 1, 4, none⟩ = some (.int .i64 xp) ∧ W.cell? ⟨w.heap.size + 1, 5, none⟩ = some (.int .i64 xo) ∧ w.heap.size + 1 < W.heap.size) := Lib.hid (fun W hW => ⟨by rw [cell_of_block (HX.out W hW)]; rfl, by rw [cell_of_block (HX.out W hW)]; rfl, by rw [cell_of_block (HX.out W hW)]; rfl, by rw [cell_of_block (HX.out W hW)]; rfl, by rw [cell_of_block (HX.out W hW)]; rfl, by rw [cell_of_block (HX.out W hW)]; rfl, by have := hW.size; omega⟩)
 have H0 := Lib.hid (Below.refl W0.heap.size W0)
 clear hb0 hs0 hh hn hn6 hL hr
 subst hW0
 go_enter Tryz.func115, Tryz.ntmps115
 go_wp2_with (first
  | (refine wpList_load_row rfl 39 (.tmp 4) rfl (w.heap.size + 1) rfl _ _ _ _ (HX.out _ H0.out) huHX rfl HSHX.out ?_)
  | fail)
 refine (CU.out _).mono ?_
 rintro e w1 ⟨rfl, hb1⟩
 have H1 := Lib.hid (H0.out.trans (hb1.mono H0.out.size))
 clear hb1
 cases u with
 | true =>
  go_wp2_with (first
   | (refine wpList_load_row rfl 39 (.tmp 4) rfl (w.heap.size + 1) rfl _ _ _ _ (HX.out _ H1.out) huHX rfl HSHX.out ?_)
   | fail)
  refine (CUN.out (by first | rfl | trivial) _).mono ?_
  rintro e w2 ⟨rfl, hb2⟩
  have H2 := Lib.hid (H1.out.trans (hb2.mono H1.out.size))
  clear hb2
  have HE : Hid (r = un) := Lib.hid (by rw [HA.out]; simp)
  go_wp2_with fail
  go_ret
  exact ⟨by rw [HE.out]; rfl, (HBW.out _ H2.out).1⟩
 | false =>
  obtain ⟨hx0, hx1, hx2, hx3, hx4, hx5, hlthx⟩ := HCHX.out _ H1.out
  go_wp2_with (first
   | (refine wpList_load_row rfl 37 (.tmp 3) rfl w.heap.size rfl _ _ _ _ (HH.out _ H1.out) huh rfl (HSH.out _) ?_)
   | fail)
  refine (CI.out _ (HBW.out _ H1.out).1).mono ?_
  rintro e w2 ⟨rfl, hb2⟩
  have H2 := Lib.hid (H1.out.trans (hb2.mono H1.out.size))
  clear hb2
  clear hx0 hx1 hx2 hx3 hx4 hx5 hlthx
  have H3 := Lib.hid (H2.out.alloc H2.out.size (.cells #[.string y.code, .string (y.nm 0), .int .i64 (y.fc 0), .string (y.nm 1), .int .i64 (y.fc 1), .string (y.nm 2), .int .i64 (y.fc 2), .string (y.nm 3), .int .i64 (y.fc 3), .int .i64 y.vol, .int .i64 y.wei, .bool y.lots, .bool y.serial, .bool y.chk] 70))
  have HA2 : Hid (r = if is = false then 12 else if 0 ≤ z then 11 else if xa < 1 ∨ 1000000000 < xa then 10 else if xg ≠ 0 ∨ xb ≠ 0 ∨ xp ≠ 0 ∨ xo ≠ 0 then 5 else 0) := Lib.hid (by rw [HA.out]; simp)
  cases is with
  | false =>
   have HE : Hid (r = 12) := Lib.hid (by rw [HA2.out]; simp)
   go_wp2_with fail
   go_ret
   exact ⟨by rw [HE.out]; rfl, (HBW.out _ H3.out).1⟩
  | true =>
   obtain ⟨w3, hw3⟩ : ∃ W, W = w2.alloc (.cells #[.string y.code, .string (y.nm 0), .int .i64 (y.fc 0), .string (y.nm 1), .int .i64 (y.fc 1), .string (y.nm 2), .int .i64 (y.fc 2), .string (y.nm 3), .int .i64 (y.fc 3), .int .i64 y.vol, .int .i64 y.wei, .bool y.lots, .bool y.serial, .bool y.chk] 70) := ⟨_, rfl⟩
   have HW3 := Lib.hid hw3
   rw [← hw3] at H3
   clear hw3
   go_upto_region 6 with fail
   rw [← HW3.out]
   obtain ⟨hx0, hx1, hx2, hx3, hx4, hx5, hlthx⟩ := HCHX.out _ H3.out
   go_wp2_with fail
   refine (CL.out _ (HBW.out _ H3.out).1).mono ?_
   rintro e w4 ⟨rfl, hb4⟩
   have H4 := Lib.hid (H3.out.trans (hb4.mono H3.out.size))
   clear hb4
   clear hx0 hx1 hx2 hx3 hx4 hx5 hlthx
   obtain ⟨hx0, hx1, hx2, hx3, hx4, hx5, hlthx⟩ := HCHX.out _ H4.out
   by_cases qz : 0 ≤ z
   ·
    have HE : Hid (r = 11) := Lib.hid (by rw [HA2.out]; simp [qz])
    go_wp2_with fail
    go_ret
    exact ⟨by rw [HE.out]; rfl, (HBW.out _ H4.out).1⟩
   ·
    have HA3 : Hid (r = if xa < 1 ∨ 1000000000 < xa then 10 else if xg ≠ 0 ∨ xb ≠ 0 ∨ xp ≠ 0 ∨ xo ≠ 0 then 5 else 0) := Lib.hid (by rw [HA2.out]; simp [qz])
    by_cases q1 : xa < 1
    ·
     have HE : Hid (r = 10) := Lib.hid (by rw [HA3.out, if_pos (.inl q1)])
     go_wp2_with fail
     go_ret
     exact ⟨by rw [HE.out]; rfl, (HBW.out _ H4.out).1⟩
    · by_cases q2 : 1000000000 < xa
      ·
       have HE : Hid (r = 10) := Lib.hid (by rw [HA3.out, if_pos (.inr q2)])
       go_wp2_with fail
       go_ret
       exact ⟨by rw [HE.out]; rfl, (HBW.out _ H4.out).1⟩
      · have HA4 : Hid (r = if xg ≠ 0 ∨ xb ≠ 0 ∨ xp ≠ 0 ∨ xo ≠ 0 then 5 else 0) := Lib.hid (by rw [HA3.out, if_neg (by omega)])
        by_cases z_xg : xg = 0
        ·
         subst z_xg
         by_cases z_xb : xb = 0
         ·
          subst z_xb
          by_cases z_xp : xp = 0
          ·
           subst z_xp
           by_cases z_xo : xo = 0
           ·
            subst z_xo
            have HE : Hid (r = 0) := Lib.hid (by rw [HA4.out]; simp)
            go_wp2_with fail
            go_ret
            exact ⟨by rw [HE.out]; rfl, (HBW.out _ H4.out).1⟩
           ·
            have b_xo : (xo != 0) = true := by simpa using z_xo
            have HE : Hid (r = 5) := Lib.hid (by rw [HA4.out]; simp [z_xo])
            clear z_xo
            go_wp2_with fail
            go_ret
            exact ⟨by rw [HE.out]; rfl, (HBW.out _ H4.out).1⟩
          ·
           have b_xp : (xp != 0) = true := by simpa using z_xp
           have HE : Hid (r = 5) := Lib.hid (by rw [HA4.out]; simp [z_xp])
           clear z_xp
           go_wp2_with fail
           go_ret
           exact ⟨by rw [HE.out]; rfl, (HBW.out _ H4.out).1⟩
         ·
          have b_xb : (xb != 0) = true := by simpa using z_xb
          have HE : Hid (r = 5) := Lib.hid (by rw [HA4.out]; simp [z_xb])
          clear z_xb
          go_wp2_with fail
          go_ret
          exact ⟨by rw [HE.out]; rfl, (HBW.out _ H4.out).1⟩
        ·
         have b_xg : (xg != 0) = true := by simpa using z_xg
         have HE : Hid (r = 5) := Lib.hid (by rw [HA4.out]; simp [z_xg])
         clear z_xg
         go_wp2_with fail
         go_ret
         exact ⟨by rw [HE.out]; rfl, (HBW.out _ H4.out).1⟩
set_option maxRecDepth 100000 in
theorem index_line {ls : List Value} (hf : Fits kLine8 ls) {k : Nat} (hk : k < 8) (W : World) : (Instr.index 40 (.agg ls.toArray) (.int .i64 (k : Int))).run Tryz.prog W = .ok (.agg (lnAt ls k).cells.toArray) W := by
 have hx := lnAt_cells hf hk
 have hu : Tryz.prog.underlying 40 = some (.array 8 39) := by kernel_rfl
 simp [Instr.index, run_underlying hu, asIntOf, go_sem]
 rw [if_pos hk, hx]
set_option maxRecDepth 100000 in
theorem slice_lines (b o k : Nat) (hk : k ≤ 8) (W : World) : (Instr.sliceAt 40 (.pointer (some ⟨b, o, none⟩)) none (some (.int .i64 (k : Int))) none).run Tryz.prog W = .ok (.slice (some ⟨b, o, none⟩) k 8) W := by
 have hk2 : (k : Int) ≤ 8 := by omega
 simp [go_sem, hk2]
set_option maxRecDepth 100000 in
set_option maxHeartbeats 3200000 in
theorem clines (h : Hs) (L : Nat → List (List Value)) (ls : List Value) (w : World) (hh : HT h L w) (hf : Fits kLine8 ls) :
 Calls Tryz.prog 81 #[.agg h.cells, .agg ls.toArray] w fun e w' => e = .returned (.int .i64 (linesE (L 0) ls : Nat)) ∧ Below w.heap.size w w' := by
 have HHT := Lib.hid hh
 have HF := Lib.hid hf
 obtain ⟨r, hr⟩ : ∃ r, linesE (L 0) ls = r := ⟨_, rfl⟩
 rw [hr]
 have HR : Hid (r = if firstE (lineE (L 0) ls) 8 ≠ 0 then firstE (lineE (L 0) ls) 8 else if usedN ls 8 = 0 then 12 else 0) := Lib.hid hr.symm
 clear hr
 have HSLI : Hid ((Tryz.prog.info? 39).map (·.size) = some 6) := Lib.hid (by kernel_rfl)
 have huLI := Tryz.underlying39
 have HSL8 : Hid ((Tryz.prog.info? 40).map (·.size) = some ls.length) := Lib.hid (by rw [hf.length]; kernel_rfl)
 have HSHL : Hid (∀ a : Hs, (Tryz.prog.info? 37).map (·.size) = some a.cells.toList.length) := Lib.hid (fun a => by kernel_rfl)
 obtain ⟨W0, hW0⟩ : ∃ W0, W0 = ((w.alloc (.cells h.cells 37)).alloc (.cells ls.toArray 40)) := ⟨_, rfl⟩
 have hb0 : Below w.heap.size w W0 := by rw [hW0]; exact ((Below.refl _ _).alloc (Nat.le_refl _) _).alloc (by simp <;> omega) _
 have hs0 : W0.heap.size = w.heap.size + 2 := by rw [hW0]; simp
 have HH : Hid (∀ W, Below W0.heap.size W0 W → W.heap[w.heap.size]? = some (.cells h.cells 37 (0, 0))) := Lib.hid (fun W hW => (hW.block _ (by omega)).trans (by
  rw [hW0]
  have hq := heap_alloc_new w (.cells h.cells 37)
  exact (Below.heap_alloc _ _ _ (by simp <;> omega)).trans ((by simpa using hq))))
 have HX : Hid (∀ W, Below W0.heap.size W0 W → W.heap[w.heap.size + 1]? = some (.cells ls.toArray 40 (0, 0))) := Lib.hid (fun W hW => (hW.block _ (by omega)).trans (by
  rw [hW0]
  have hq := heap_alloc_new (w.alloc (.cells h.cells 37)) (.cells ls.toArray 40)
  exact (by simpa using hq)))
 have HBW : Hid (∀ W, Below W0.heap.size W0 W → Below w.heap.size w W ∧ w.heap.size + 2 ≤ W.heap.size) := Lib.hid (fun W hW => ⟨hb0.trans (hW.mono (by omega)), by have := hW.size; omega⟩)
 have huh := Tryz.underlying37
 have HSH : Hid (∀ a : Hs, (Tryz.prog.info? 37).map (·.size) = some a.cells.size) := Lib.hid (fun a => by kernel_rfl)
 have huHX := Tryz.underlying40
 have HRW : Hid (∀ W, Below W0.heap.size W0 W → W.rangeAt (w.heap.size + 1) 0 ls ∧ w.heap.size + 1 < W.heap.size) := Lib.hid (fun W hW => ⟨range_cells (HX.out W hW), lt_of_block (HX.out W hW)⟩)
 have H0 := Lib.hid (Below.refl W0.heap.size W0)
 clear hb0 hs0 hh hf
 subst hW0
 go_enter Tryz.func81, Tryz.ntmps81
 obtain ⟨hx0, hxlt⟩ := HRW.out _ H0.out
 go_wp2_with (first
  | (refine wpList_load_mid rfl 40 (.tmp 3) rfl (w.heap.size + 1) 0 rfl ls _ hx0 huHX rfl HSL8.out ?_)
  | fail)
 clear hx0 hxlt
 go_loopw [9] (fun i wr => ∃ k : Nat, k ≤ 8 ∧ i = .int .i64 (k : Int) ∧ Hid (firstE (lineE (L 0) ls) k = 0) ∧ Hid (Below ((w.alloc (.cells h.cells 37)).alloc (.cells ls.toArray 40)).heap.size ((w.alloc (.cells h.cells 37)).alloc (.cells ls.toArray 40)) wr)) (fun i _ => 8 - (intOf i).toNat)
 case atStart => exact ⟨0, by omega, rfl, Lib.hid rfl, H0⟩
 case round =>
  obtain ⟨k, hk, rfl, hno, hw⟩ := hrel
  by_cases hlt : k < 8
  · obtain ⟨x, hx⟩ : ∃ x, lnAt ls k = x := ⟨_, rfl⟩
    have HL8 := Lib.hid hlt
    have hle := chk_line (L 0) ls k
    rw [hx] at hle
    have hhit := firstE_hit (lineE (L 0) ls) hlt hno.out
    have hgo : lineE (L 0) ls k = 0 → firstE (lineE (L 0) ls) (k + 1) = 0 := fun h => by show (if firstE (lineE (L 0) ls) k ≠ 0 then _ else _) = _; rw [if_neg (by rw [hno.out]; simp)]; exact h
    have hidx : ∀ W, (Instr.index 40 (.agg ls.toArray) (.int .i64 (k : Int))).run Tryz.prog W = .ok (.agg x.cells.toArray) W := fun W => by rw [← hx]; exact index_line HF.out hlt W
    obtain ⟨xi, xa, xg, xb, xp, xo⟩ := x
    obtain ⟨le, hle2⟩ : ∃ e, lineE (L 0) ls k = e := ⟨_, rfl⟩
    rw [hle2] at hle hhit hgo
    have HHIT : Hid (le ≠ 0 → r = le) := Lib.hid (fun h => by rw [HR.out, if_pos (by rw [hhit h]; exact h), hhit h])
    have HGO := Lib.hid hgo
    have HLE := Lib.hid hle
    have CC : Hid (∀ W, Below ((w.alloc (.cells h.cells 37)).alloc (.cells ls.toArray 40)).heap.size ((w.alloc (.cells h.cells 37)).alloc (.cells ls.toArray 40)) W → Calls Tryz.prog 115 #[.agg h.cells, .agg #[.string xi, .int .i64 xa, .int .i64 xg, .int .i64 xb, .int .i64 xp, .int .i64 xo], .slice (some ⟨w.heap.size + 1, 0, none⟩) k 8] W fun e w' => e = .returned (.int .i64 (le : Nat)) ∧ Below W.heap.size W w') := Lib.hid (fun W hW => by
     obtain ⟨g1, g2⟩ := HRW.out _ hW
     have := cchkl h L xi xa xg xb xp xo (some ⟨w.heap.size + 1, 0, none⟩) k 8 (lnsL ls k) W (HHT.out.below (HBW.out _ hW).1) (lnsL_len ls k).symm (by omega) (lnsL_things ls k) (lines_rd HF.out g1 g2 (by omega))
     rw [HLE.out] at this
     exact this)
    have HSLK : Hid (∀ W, (Instr.sliceAt 40 (.pointer (some ⟨w.heap.size + 1, 0, none⟩)) none (some (.int .i64 (k : Int))) none).run Tryz.prog W = .ok (.slice (some ⟨w.heap.size + 1, 0, none⟩) k 8) W) := Lib.hid (fun W => slice_lines _ _ k (by omega) W)
    unfold Ln.cells at hidx
    clear hle hle2 hhit hgo hx
    obtain ⟨w1, hw1⟩ : ∃ w1, w1 = wr.alloc (.cells #[.string xi, .int .i64 xa, .int .i64 xg, .int .i64 xb, .int .i64 xp, .int .i64 xo] 39) := ⟨_, rfl⟩
    have hb1 : Below wr.heap.size wr w1 := by rw [hw1]; exact (Below.refl _ _).alloc (Nat.le_refl _) _
    have HX1 : Hid (∀ W, Below w1.heap.size w1 W → W.heap[wr.heap.size]? = some (.cells #[.string xi, .int .i64 xa, .int .i64 xg, .int .i64 xb, .int .i64 xp, .int .i64 xo] 39 (0, 0))) := Lib.hid (fun W hW => (hW.block _ (by rw [hw1]; simp)).trans (by rw [hw1]; exact heap_alloc_new _ _))
    have HW1 := Lib.hid hw1
    have HB1 := Lib.hid (hw.out.trans (hb1.mono hw.out.size))
    have h1 : (0 : Int) ≤ (k : Int) := by omega
    have h2 : (k : Int) < 8 := by omega
    clear hb1 hw1
    go_upto_region 4 with fail
    rw [← HW1.out]
    obtain ⟨hx0, hxlt⟩ := HRW.out _ HB1.out
    have RH : Hid (∀ X : BW w1, X.W.heap[w.heap.size]? = some (.cells h.cells 37 (0, 0))) := Lib.hid (fun X => HH.out _ (HB1.out.trans (X.h.mono HB1.out.size)))
    have RX : Hid (∀ X : BW w1, X.W.heap[wr.heap.size]? = some (.cells #[.string xi, .int .i64 xa, .int .i64 xg, .int .i64 xb, .int .i64 xp, .int .i64 xo] 39 (0, 0))) := Lib.hid (fun X => HX1.out _ X.h)
    have CCX : Hid (∀ X : BW w1, Calls Tryz.prog 115 #[.agg h.cells, .agg #[.string xi, .int .i64 xa, .int .i64 xg, .int .i64 xb, .int .i64 xp, .int .i64 xo], .slice (some ⟨w.heap.size + 1, 0, none⟩) k 8] X.W fun e w' => e = .returned (.int .i64 (le : Nat)) ∧ Below X.W.heap.size X.W w') := Lib.hid (fun X => CC.out _ (HB1.out.trans (X.h.mono HB1.out.size)))
    go_wp2_with fail
    refine wp_grow w1 (by kernel_rfl) (by kernel_rfl) (Below.refl _ _) ?_
    simp only []
    refine BigFrame.wpQuiet_want (by kernel_rfl) (fun K hK => quiet_load_mid 37 (.tmp 2) rfl w.heap.size 0 rfl h.cells.toList _ (fun W ⟨X, hX⟩ => by rw [hX]; exact range_row0 (RH.out X)) huh rfl (HSHL.out _) (hK _ ?_))
    simp only [ax]
    refine BigFrame.wpQuiet_want (by kernel_rfl) (fun K hK => quiet_load_mid 39 (.tmp 6) rfl wr.heap.size 0 rfl [.string xi, .int .i64 xa, .int .i64 xg, .int .i64 xb, .int .i64 xp, .int .i64 xo] _ (fun W ⟨X, hX⟩ => by rw [hX]; exact range_row0 (RX.out X)) huLI rfl HSLI.out (hK _ ?_))
    simp only [ax]
    have hsl := HSLK.out
    iterate 2 go_big_quiet_step (fail)
    clear hsl
    go_big_quiet_step (exact grow_call _ (CCX.out _))
    go_big_quiet_step (fail)
    refine wpQuiet_nil ?_
    intro X
    obtain ⟨w2, hb2⟩ := X
    simp only []
    have H2 := Lib.hid (HB1.out.trans (hb2.mono HB1.out.size))
    clear hb2 hidx hx0 hxlt
    by_cases q : le = 0
    · have HV : Hid (firstE (lineE (L 0) ls) (k + 1) = 0) := Lib.hid (HGO.out q)
      subst q
      go_wp2_with fail
      go_roundw
      case rel => exact ⟨k + 1, by omega, by go_num, HV, H2⟩
      case measure => simp [intOf]; omega
    · have bn : ((le : Int) != 0) = true := by simpa using q
      have HV : Hid (r = le) := Lib.hid (HHIT.out q)
      clear q
      go_wp2_with fail
      go_ret
      exact ⟨by rw [HV.out]; rfl, (HBW.out _ H2.out).1⟩
  · have hk8 : k = 8 := by omega
    subst hk8
    have HTL : Hid (TellsF kLine wr 116 #[] usedB) := Lib.hid ⟨fun args W => by kernel_rfl, fun W hW e he => by
     have h1 := cuse (lnOf e).item (lnOf e).asked (lnOf e).got (lnOf e).back (lnOf e).packed (lnOf e).out W
     have h2 : e.toArray = (lnOf e).cells.toArray := by conv => lhs; rw [ln_cells he]
     rw [h2]
     exact h1⟩
    obtain ⟨g1, g2⟩ := HRW.out _ hw.out
    obtain ⟨b, hb⟩ : ∃ b, decide (usedN ls 8 ≠ 0) = b := ⟨_, rfl⟩
    have hK := hasLine (some ⟨w.heap.size + 1, 0, none⟩) 8 8 116 #[] usedB (lnsL ls 8) wr (lnsL_len ls 8).symm (by omega) (lnsL_things ls 8) (lines_rd HF.out g1 g2 (by omega)) HTL.out
    rw [used_any, hb] at hK
    have HK := Lib.hid hK
    have HV : Hid (r = if b = true then 0 else 12) := Lib.hid (by rw [HR.out, if_neg (by rw [hno.out]; simp), ← hb]; by_cases h0 : usedN ls 8 = 0 <;> simp [h0])
    clear hK hb g1
    go_wp2_with fail
    refine HK.out.mono ?_
    rintro e w2 ⟨rfl, hb2⟩
    have H2 := Lib.hid (hw.out.trans (hb2.mono hw.out.size))
    clear hb2 g2
    cases b with
    | true =>
     have HE : Hid (r = 0) := Lib.hid (by rw [HV.out]; simp)
     go_wp2_with fail
     go_ret
     exact ⟨by rw [HE.out]; rfl, (HBW.out _ H2.out).1⟩
    | false =>
     have HE : Hid (r = 12) := Lib.hid (by rw [HV.out]; simp)
     go_wp2_with fail
     go_ret
     exact ⟨by rw [HE.out]; rfl, (HBW.out _ H2.out).1⟩
end Go.Proofs.YtlkmccmbpnbgbaaGreat

namespace Go.Proofs.YtlkmccmbpnbgbaaGreat
set_option linter.unusedVariables false
open Go.RowKit
open Pl (firstG findG putG It firstG_none firstG_some)

set_option maxRecDepth 100000 in
set_option maxHeartbeats 800000 in
theorem indexZone (A : Option Addr) (n c K : Nat) (cap : Array Value) (f : List Value → Bool) (L : List (List Value)) (w : World) (hn : n = L.length) (hn63 : n ≤ 1000000) (hL : Things kZone L)
 (hr : Rd w w.heap.size A L.flatten) (hT : TellsF kZone w K cap f) :
 Calls Tryz.prog 140 #[.slice A n c, .func (.func K) #[] cap] w fun e w' => e = .returned (.int .i64 (idxI (firstG f L))) ∧ Below w.heap.size w w' := by
 have HN := Lib.hid hn
 have HR := Lib.hid hr
 have HT := Lib.hid hT
 have HL := Lib.hid hL
 have hent := hT.1
 have hk : kZone.length = 2 := by decide
 have hu := Tryz.underlying76
 have HSZ : Hid (∀ y, Fits kZone y → (Tryz.prog.info? 76).map (·.size) = some y.length) := Lib.hid (fun y hy => by rw [show (Tryz.prog.info? 76).map (·.size) = some 2 from by kernel_rfl, hy.length]; rfl)
 clear hn hr hT hL
 go_enter Tryz.func140, Tryz.ntmps140
 go_wp2_with fail
 go_loopw [8] (fun i wr => ∃ k : Nat, k ≤ n ∧ i = .int .i64 (k : Int) ∧ Hid (∀ j (hj : j < L.length), j < k → f L[j] = false) ∧ Hid (Below w.heap.size w wr)) (fun i _ => n - (intOf i).toNat)
 case atStart => exact ⟨0, by omega, rfl, Lib.hid (fun j hj h => by omega), Lib.hid (Below.refl _ _)⟩
 case round =>
  obtain ⟨k, hkn, rfl, hno, hbel⟩ := hrel
  by_cases hlt : k < n
  · have hl : k < L.length := by rw [← HN.out]; exact hlt
    obtain ⟨b, off, rfl, hb, hc⟩ := HR.out.thing HL.out (by rw [hk]; decide) hl
    have fx := HL.out _ (List.getElem_mem hl)
    have r1 := rangeAt_below (hc k hl) hb hbel.out
    rw [hk] at r1
    have hlb : b < wr.heap.size := Nat.lt_of_lt_of_le hb hbel.out.size
    have h1 : (0 : Int) ≤ (k : Int) := by omega
    have h2 : (k : Int) < (n : Int) := by omega
    obtain ⟨x, hx⟩ : ∃ x, L[k] = x := ⟨_, rfl⟩
    rw [hx] at fx r1
    have HX := Lib.hid hx
    have HF := Lib.hid fx
    have HR1 := Lib.hid r1
    have HIX := Lib.hid (HSZ.out x fx)
    clear hc r1 hx fx hb
    cases hf : f x with
    | true =>
     have HFX := Lib.hid hf
     have HV : Hid (firstG f L = some k) := Lib.hid (firstG_some hl (fun j hj hjk => hno.out j hj hjk) (by rw [HX.out]; exact hf))
     clear hf
     go_wp2_with (first
      | (refine wpList_load_mid rfl 76 (.tmp 14) rfl b (off + k * 2) rfl x _ HR1.out hu rfl HIX.out ?_)
      | fail)
     refine (HT.out.2 _ hbel.out x HF.out).mono ?_
     rintro e w1 ⟨rfl, hb1⟩
     have B1 := Lib.hid (hbel.out.trans (hb1.mono hbel.out.size))
     clear hb1
     have hf := HFX.out
     go_wp2_with fail
     go_ret
     exact ⟨by rw [HV.out]; rfl, B1.out⟩
    | false =>
     have HFX := Lib.hid hf
     have HNO : Hid (∀ j (hj : j < L.length), j < k + 1 → f L[j] = false) := Lib.hid (fun j hj hjk => by
      by_cases e : j = k
      · subst e; rw [HX.out]; exact hf
      · exact hno.out j hj (by omega))
     clear hf
     go_wp2_with (first
      | (refine wpList_load_mid rfl 76 (.tmp 14) rfl b (off + k * 2) rfl x _ HR1.out hu rfl HIX.out ?_)
      | fail)
     refine (HT.out.2 _ hbel.out x HF.out).mono ?_
     rintro e w1 ⟨rfl, hb1⟩
     have B1 := Lib.hid (hbel.out.trans (hb1.mono hbel.out.size))
     clear hb1
     have hf := HFX.out
     go_wp2_with fail
     go_roundw
     case rel => exact ⟨k + 1, by omega, by go_num, HNO, B1⟩
     case measure => simp [intOf]; omega
  · have HV : Hid (firstG f L = none) := Lib.hid (firstG_none (fun j hj => hno.out j hj (by have := HN.out; omega)))
    go_wp2_with fail
    go_ret
    exact ⟨by rw [HV.out]; rfl, hbel.out⟩

set_option maxRecDepth 100000 in
theorem hasZone (A : Option Addr) (n c K : Nat) (cap : Array Value) (f : List Value → Bool) (L : List (List Value)) (w : World) (hn : n = L.length) (hn63 : n ≤ 1000000) (hL : Things kZone L)
 (hr : Rd w w.heap.size A L.flatten) (hT : TellsF kZone w K cap f) :
 Calls Tryz.prog 113 #[.slice A n c, .func (.func K) #[] cap] w fun e w' => e = .returned (.bool (L.any f)) ∧ Below w.heap.size w w' := by
 have H := Lib.hid (indexZone A n c K cap f L w hn hn63 hL hr hT)
 have HA := Lib.hid (idx_any f L)
 clear hr hT hL hn
 go_enter Tryz.func113, Tryz.ntmps113
 go_wp2_with fail
 refine H.out.mono ?_
 rintro e w1 ⟨rfl, hb1⟩
 have B1 := Lib.hid hb1
 clear hb1
 obtain ⟨r, hr⟩ : ∃ r, idxI (firstG f L) = r := ⟨_, rfl⟩
 rw [hr]
 have HR := Lib.hid hr
 clear hr
 go_wp2_with fail
 go_ret
 exact ⟨by rw [← HA.out, HR.out]; rfl, B1.out⟩

set_option maxRecDepth 100000 in
set_option maxHeartbeats 3200000 in
theorem csite1 (gi : Nat) (s r0 r1 : ByteArray) (w : World) (hc : w.cell? ⟨gi, 0, none⟩ = some (.string s)) (hl : gi < w.heap.size) : Calls Tryz.prog 114 #[.agg #[.string r0, .string r1], .pointer (some ⟨gi, 0, none⟩)] w fun e w' => e = .returned (.bool (Pl.eqv r1 s)) ∧ Below w.heap.size w w' := by
 obtain ⟨v, hv⟩ : ∃ v, Pl.eqv r1 s = v := ⟨_, rfl⟩
 have HV : (r1.toList == s.toList) = v := hv
 rw [hv]
 have HB : Hid (Below w.heap.size w (w.alloc (.cells #[.string r0, .string r1] 76))) := Lib.hid ((Below.refl _ _).alloc (Nat.le_refl _) _)
 have hc2 : (w.alloc (.cells #[.string r0, .string r1] 76)).cell? ⟨gi, 0, none⟩ = some (.string s) := (HB.out.cell (p := ⟨gi, 0, none⟩) hl).trans hc
 clear hv
 go_enter Tryz.func114, Tryz.ntmps114
 go_wp2_with fail
 go_ret
 exact ⟨rfl, HB.out⟩
set_option maxRecDepth 100000 in
set_option maxHeartbeats 3200000 in
theorem cisSite (h : Hs) (L : Nat → List (List Value)) (s : ByteArray) (w : World) (hh : HT h L w) :
 Calls Tryz.prog 80 #[.agg h.cells, .string s] w fun e w' => e = .returned (.bool (zonedB (L 2) s)) ∧ Below w.heap.size w w' := by
 obtain ⟨hn, hn6, hL, hr⟩ := hh 2 (by decide)
 obtain ⟨W0, hW0⟩ : ∃ W0, W0 = (w.alloc (.cells h.cells 37)).alloc (.cells #[.string s] 9) := ⟨_, rfl⟩
 have H0 : Hid (Below w.heap.size w W0) := Lib.hid (by rw [hW0]; exact ((Below.refl _ _).alloc (Nat.le_refl _) _).alloc (by simp) _)
 have HH : Hid (W0.heap[w.heap.size]? = some (.cells h.cells 37 (0, 0))) := Lib.hid (by rw [hW0]; exact (Below.heap_alloc _ _ _ (by simp)).trans (heap_alloc_new _ _))
 have HX : Hid (W0.heap[w.heap.size + 1]? = some (.cells #[.string s] 9 (0, 0))) := Lib.hid (by
  rw [hW0]
  have hq := heap_alloc_new (w.alloc (.cells h.cells 37)) (.cells #[.string s] 9)
  simpa using hq)
 have c2 : W0.cell? ⟨w.heap.size, 2, none⟩ = some (.slice (h.A 2) (h.n 2) (h.c 2)) := by rw [cell_of_block HH.out]; rfl
 have l2 : w.heap.size < W0.heap.size := lt_of_block HH.out
 have HTL : Hid (TellsF kZone W0 114 #[.pointer (some ⟨w.heap.size + 1, 0, none⟩)] (fun e => Pl.eqv (siteZ e) s)) := Lib.hid ⟨fun args W => by kernel_rfl, fun W hW e he => by
  have hx1 := (hW.block _ (lt_of_block HX.out)).trans HX.out
  have h1 := csite1 (w.heap.size + 1) s (codeOf e) (siteZ e) W (by rw [cell_of_block hx1]; rfl) (lt_of_block hx1)
  have h2 : e.toArray = #[.string (codeOf e), .string (siteZ e)] := by conv => lhs; rw [zone_cells he]
  rw [← h2] at h1
  exact h1⟩
 have HK := Lib.hid (hasZone (h.A 2) (h.n 2) (h.c 2) _ _ _ (L 2) W0 hn hn6 hL (hr.below H0.out |>.mono H0.out.size) HTL.out)
 have hmf : ∀ (fn : Fn) (first cap : Array Value) (w : World), (Instr.makeFunc fn first cap).run Tryz.prog w = .ok (.func fn first cap) w := fun _ _ _ _ => rfl
 have HW0 := Lib.hid hW0
 clear hn hn6 hL hr hh hW0
 go_enter Tryz.func80, Tryz.ntmps80
 go_upto_region 1 with fail
 rw [← HW0.out]
 clear HW0
 go_wp2_with fail
 refine HK.out.mono ?_
 rintro e w1 ⟨rfl, hb1⟩
 have H1 := Lib.hid (H0.out.trans (hb1.mono H0.out.size))
 clear hb1 c2 l2
 go_wp2_with fail
 go_ret
 exact ⟨rfl, H1.out⟩
end Go.Proofs.YtlkmccmbpnbgbaaGreat
