/-
 CONTRACTS of slices.IndexFunc over lines, of inbound's inUse, lineOf. (By wip/tools/gen_kin.py.)
 CONTRACTS of slices.ContainsFunc over lines, of inbound's checkUnused, checkLine, Lines. (By wip/tools/gen_kin.py.)
 CONTRACTS of slices.IndexFunc, slices.ContainsFunc over zones, of inbound's isSite. (By wip/tools/gen_kin.py.)
 (By wip/tools/merge.py.)
-/
import Derived.Test.YtlkmccmbpnbgbaaGreatOPl
import Derived.Test.YtlkmccmbpnbgbaaGreatHHouse
import Derived.Test.YtlkmccmbpnbgbaaGreatGT
import Derived.Deep.CutRange
import Derived.Test.YtlkmccmbpnbgbaaGreatKL
import Derived.Test.YtlkmccmbpnbgbaaGreatJHead
import Derived.BigQuiet
namespace Go.Proofs.YtlkmccmbpnbgbaaGreat
set_option linter.unusedVariables false
open Go.RowKit
open Pl (firstG findG putG It firstG_none firstG_some)

/-- A place, -1 where there is none. -/
def idxI : Option Nat → Int
 | some i => (i : Int)
 | none => -1
theorem idx_any (f : List Value → Bool) (L : List (List Value)) : decide (0 ≤ idxI (firstG f L)) = L.any f := by
 unfold firstG
 cases h : L.findIdx? f with
 | none =>
  rw [List.findIdx?_eq_none_iff] at h
  rw [show L.any f = false from List.any_eq_false.2 (fun p hp => by rw [h p hp]; simp)]
  rfl
 | some i =>
  obtain ⟨hi, h1, _⟩ := List.findIdx?_eq_some_iff_getElem.1 h
  rw [show L.any f = true from List.any_eq_true.2 ⟨L[i], List.getElem_mem hi, h1⟩]
  simp [idxI]

set_option maxRecDepth 100000 in
set_option maxHeartbeats 800000 in
theorem indexLine (A : Option Addr) (n c K : Nat) (cap : Array Value) (f : List Value → Bool) (L : List (List Value)) (w : World) (hn : n = L.length) (hn63 : n ≤ 1000000) (hL : Things kLine L)
 (hr : Rd w w.heap.size A L.flatten) (hT : TellsF kLine w K cap f) :
 Calls Tryz.prog 109 #[.slice A n c, .func (.func K) #[] cap] w fun e w' => e = .returned (.int .i64 (idxI (firstG f L))) ∧ Below w.heap.size w w' := by
 have HN := Lib.hid hn
 have HR := Lib.hid hr
 have HT := Lib.hid hT
 have HL := Lib.hid hL
 have hent := hT.1
 have hk : kLine.length = 6 := by decide
 have hu := Tryz.underlying39
 have HSZ : Hid (∀ y, Fits kLine y → (Tryz.prog.info? 39).map (·.size) = some y.length) := Lib.hid (fun y hy => by rw [show (Tryz.prog.info? 39).map (·.size) = some 6 from by kernel_rfl, hy.length]; rfl)
 clear hn hr hT hL
 go_enter Tryz.func109, Tryz.ntmps109
 go_wp2_with fail
 go_loopw [8] (fun i wr => ∃ k : Nat, k ≤ n ∧ i = .int .i64 (k : Int) ∧ Hid (∀ j (hj : j < L.length), j < k → f L[j] = false) ∧ Hid (Below w.heap.size w wr)) (fun i _ => n - (intOf i).toNat)
 case atStart => exact ⟨0, by omega, rfl, Lib.hid (fun j hj h => by omega), Lib.hid (Below.refl _ _)⟩
 case round =>
  obtain ⟨k, hkn, rfl, hno, hbel⟩ := hrel
  by_cases hlt : k < n
  · have hl : k < L.length := by rw [← HN.out]; exact hlt
    obtain ⟨b, off, rfl, hb, hc⟩ := HR.out.thing HL.out (by rw [hk]; decide) hl
    have fx := HL.out _ (List.getElem_mem hl)
    have r1 := rangeAt_below (hc k hl) hb hbel.out
    rw [hk] at r1
    have hlb : b < wr.heap.size := Nat.lt_of_lt_of_le hb hbel.out.size
    have h1 : (0 : Int) ≤ (k : Int) := by omega
    have h2 : (k : Int) < (n : Int) := by omega
    obtain ⟨x, hx⟩ : ∃ x, L[k] = x := ⟨_, rfl⟩
    rw [hx] at fx r1
    have HX := Lib.hid hx
    have HF := Lib.hid fx
    have HR1 := Lib.hid r1
    have HIX := Lib.hid (HSZ.out x fx)
    clear hc r1 hx fx hb
    cases hf : f x with
    | true =>
     have HFX := Lib.hid hf
     have HV : Hid (firstG f L = some k) := Lib.hid (firstG_some hl (fun j hj hjk => hno.out j hj hjk) (by rw [HX.out]; exact hf))
     clear hf
     go_wp2_with (first
      | (refine wpList_load_mid rfl 39 (.tmp 14) rfl b (off + k * 6) rfl x _ HR1.out hu rfl HIX.out ?_)
      | fail)
     refine (HT.out.2 _ hbel.out x HF.out).mono ?_
     rintro e w1 ⟨rfl, hb1⟩
     have B1 := Lib.hid (hbel.out.trans (hb1.mono hbel.out.size))
     clear hb1
     have hf := HFX.out
     go_wp2_with fail
     go_ret
     exact ⟨by rw [HV.out]; rfl, B1.out⟩
    | false =>
     have HFX := Lib.hid hf
     have HNO : Hid (∀ j (hj : j < L.length), j < k + 1 → f L[j] = false) := Lib.hid (fun j hj hjk => by
      by_cases e : j = k
      · subst e; rw [HX.out]; exact hf
      · exact hno.out j hj (by omega))
     clear hf
     go_wp2_with (first
      | (refine wpList_load_mid rfl 39 (.tmp 14) rfl b (off + k * 6) rfl x _ HR1.out hu rfl HIX.out ?_)
      | fail)
     refine (HT.out.2 _ hbel.out x HF.out).mono ?_
     rintro e w1 ⟨rfl, hb1⟩
     have B1 := Lib.hid (hbel.out.trans (hb1.mono hbel.out.size))
     clear hb1
     have hf := HFX.out
     go_wp2_with fail
     go_roundw
     case rel => exact ⟨k + 1, by omega, by go_num, HNO, B1⟩
     case measure => simp [intOf]; omega
  · have HV : Hid (firstG f L = none) := Lib.hid (firstG_none (fun j hj => hno.out j hj (by have := HN.out; omega)))
    go_wp2_with fail
    go_ret
    exact ⟨by rw [HV.out]; rfl, hbel.out⟩

/-- The first n of lines that stand cell by cell, as things. -/
def lnsL (l : List Value) (n : Nat) : List (List Value) := (List.range n).map fun i => (lnAt l i).cells
theorem Ln.fitsK (x : Ln) : Fits kLine x.cells := ⟨⟨_, rfl⟩, ⟨_, rfl⟩, ⟨_, rfl⟩, ⟨_, rfl⟩, ⟨_, rfl⟩, ⟨_, rfl⟩, trivial⟩
theorem lnsL_things (l : List Value) (n : Nat) : Things kLine (lnsL l n) := fun e he => by
 obtain ⟨i, _, rfl⟩ := List.mem_map.1 he
 exact Ln.fitsK _
theorem lnsL_len (l : List Value) (n : Nat) : (lnsL l n).length = n := by unfold lnsL; simp
theorem lnsL_flat {l : List Value} (hf : Fits kLine8 l) : ∀ n, n ≤ 8 → (lnsL l n).flatten = l.take (n * 6)
 | 0, _ => by simp [lnsL]
 | n + 1, h => by
  have ih := lnsL_flat hf n (by omega)
  unfold lnsL at ih ⊢
  rw [List.range_succ, List.map_append, List.flatten_append, ih]
  simp only [List.map_cons, List.map_nil, List.flatten_cons, List.flatten_nil, List.append_nil]
  rw [← lnAt_cells hf (by omega), show (n + 1) * 6 = n * 6 + 6 from by omega, List.take_add]
theorem lines_rd {w : World} {b o : Nat} {l : List Value} (hf : Fits kLine8 l) (hr : w.rangeAt b o l) (hb : b < w.heap.size) {n : Nat} (hn : n ≤ 8) : Rd w w.heap.size (some ⟨b, o, none⟩) (lnsL l n).flatten := fun _ => ⟨b, o, rfl, hb, fun j u hu => by
 rw [lnsL_flat hf n hn] at hu
 rw [List.getElem?_take] at hu
 split at hu
 · exact hr j u hu
 · cases hu⟩
set_option maxRecDepth 100000 in
theorem slice_all (b o : Nat) (W : World) : (Instr.sliceAt 40 (.pointer (some ⟨b, o, none⟩)) none none none).run Tryz.prog W = .ok (.slice (some ⟨b, o, none⟩) 8 8) W := by
 simp [go_sem]
end Go.Proofs.YtlkmccmbpnbgbaaGreat

namespace Go.Proofs.YtlkmccmbpnbgbaaGreat
set_option linter.unusedVariables false
open Go.RowKit
open Pl (firstG findG putG It firstG_none firstG_some)

set_option maxRecDepth 100000 in
theorem hasLine (A : Option Addr) (n c K : Nat) (cap : Array Value) (f : List Value → Bool) (L : List (List Value)) (w : World) (hn : n = L.length) (hn63 : n ≤ 1000000) (hL : Things kLine L)
 (hr : Rd w w.heap.size A L.flatten) (hT : TellsF kLine w K cap f) :
 Calls Tryz.prog 72 #[.slice A n c, .func (.func K) #[] cap] w fun e w' => e = .returned (.bool (L.any f)) ∧ Below w.heap.size w w' := by
 have H := Lib.hid (indexLine A n c K cap f L w hn hn63 hL hr hT)
 have HA := Lib.hid (idx_any f L)
 clear hr hT hL hn
 go_enter Tryz.func72, Tryz.ntmps72
 go_wp2_with fail
 refine H.out.mono ?_
 rintro e w1 ⟨rfl, hb1⟩
 have B1 := Lib.hid hb1
 clear hb1
 obtain ⟨r, hr⟩ : ∃ r, idxI (firstG f L) = r := ⟨_, rfl⟩
 rw [hr]
 have HR := Lib.hid hr
 clear hr
 go_wp2_with fail
 go_ret
 exact ⟨by rw [← HA.out, HR.out]; rfl, B1.out⟩

set_option maxRecDepth 100000 in
theorem index_line {ls : List Value} (hf : Fits kLine8 ls) {k : Nat} (hk : k < 8) (W : World) : (Instr.index 40 (.agg ls.toArray) (.int .i64 (k : Int))).run Tryz.prog W = .ok (.agg (lnAt ls k).cells.toArray) W := by
 have hx := lnAt_cells hf hk
 have hu : Tryz.prog.underlying 40 = some (.array 8 39) := by kernel_rfl
 simp [Instr.index, run_underlying hu, asIntOf, go_sem]
 rw [if_pos hk, hx]
end Go.Proofs.YtlkmccmbpnbgbaaGreat

namespace Go.Proofs.YtlkmccmbpnbgbaaGreat
set_option linter.unusedVariables false
open Go.RowKit
open Pl (firstG findG putG It firstG_none firstG_some)

end Go.Proofs.YtlkmccmbpnbgbaaGreat
