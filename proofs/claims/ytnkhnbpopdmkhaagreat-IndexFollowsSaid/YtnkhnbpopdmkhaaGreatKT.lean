/-
 CONTRACTS of the table's closures, for any things. (By wip/tools/gen_ktab.py.)
-/
import Derived.Test.YtnkhnbpopdmkhaaGreatGT
import Derived.Test.YtnkhnbpopdmkhaaGreatHHouse
import Derived.Defers
import Derived.Recover
import Derived.Laws.MakeOwn
import Derived.Laws.Rows
namespace Go.Proofs.YtnkhnbpopdmkhaaGreat
set_option linter.unusedVariables false
open Go.RowKit
open Pl (firstG firstG_none firstG_some findG overG putG)

def TIa (ti : Nat) : Prop := ti = 0 ∨ ti = 1 ∨ ti = 2
def TIp (ti : Nat) : Prop := False
theorem tip_a {ti : Nat} (h : TIp ti) : TIa ti := by unfold TIp at h; unfold TIa; first | omega | exact h.elim
abbrev ixOf {ti : Nat} (_ : Hid (TIa ti)) : Nat := ti
def tTab : Nat → TypeId
 | 0 => 74
 | 1 => 77
 | 2 => 71
 | _ => 0
def sTab : Nat → TypeId
 | 0 => 24
 | 1 => 25
 | 2 => 23
 | _ => 0
def bTab : Nat → TypeId
 | 0 => 178
 | 1 => 171
 | 2 => 183
 | _ => 0
def kTab : Nat → List CK
 | 0 => kZone
 | 1 => kBin
 | 2 => kLot
 | _ => []
def zTab (ti : Nat) : List Value := (kTab ti).map fun | .s => .string ⟨#[]⟩ | .i => .int .i64 0 | .b => .bool false
theorem zTab_len (ti : Nat) : (zTab ti).length = (kTab ti).length := List.length_map _
def fFind1 : Nat → FuncId
 | 0 => 98
 | 1 => 88
 | 2 => 101
 | _ => 0
def fHoldsI : Nat → FuncId
 | 0 => 105
 | 1 => 102
 | 2 => 106
 | _ => 0
def fHolds : Nat → FuncId
 | 0 => 103
 | 1 => 95
 | 2 => 104
 | _ => 0
def fFirst : Nat → FuncId
 | 0 => 97
 | 1 => 87
 | 2 => 100
 | _ => 0
def fFindT : Nat → FuncId
 | 0 => 90
 | 1 => 80
 | 2 => 92
 | _ => 0
def fSplice : Nat → FuncId
 | _ => 0
def fPut1 : Nat → FuncId
 | _ => 0
def fPutT : Nat → FuncId
 | _ => 0
theorem undT (ti : Nat) (hti : TIa ti) : ∃ d, Tryz.prog.underlying (tTab ti) = some d ∧ d.isRow = true := by
 rcases hti with rfl | rfl | rfl
 · exact ⟨_, Tryz.underlying74, rfl⟩
 · exact ⟨_, Tryz.underlying77, rfl⟩
 · exact ⟨_, Tryz.underlying71, rfl⟩
theorem undST (ti : Nat) (hti : TIa ti) : Tryz.prog.underlying (sTab ti) = some (.slice (tTab ti)) := by
 rcases hti with rfl | rfl | rfl
 · exact Tryz.underlying24
 · exact Tryz.underlying25
 · exact Tryz.underlying23
theorem infoT (ti : Nat) (hti : TIa ti) : (Tryz.prog.info? (tTab ti)).map (fun x => (x.size, x.zero.map (·.cells.size), decide (x.bytes ≤ 1000))) = some ((kTab ti).length, some (kTab ti).length, true) := by
 rcases hti with rfl | rfl | rfl <;> (show _ = _; kernel_rfl)
theorem sizeT (ti : Nat) (hti : TIa ti) : (Tryz.prog.info? (tTab ti)).map (·.size) = some (kTab ti).length := by
 rcases hti with rfl | rfl | rfl <;> (show _ = _; kernel_rfl)
theorem kT_le (ti : Nat) (hti : TIa ti) : 1 ≤ (kTab ti).length ∧ (kTab ti).length ≤ 1000 := by
 rcases hti with rfl | rfl | rfl <;> decide
def NewT (ti : Nat) (w : World) (L : List (List Value)) (e : Ending) (w' : World) : Prop :=
 ∃ A n c, n = L.length ∧ e = .returned (.slice A n c) ∧ w'.ownsRow w.heap.size (tTab ti) (kTab ti).length (.slice A n c) n L.flatten ∧ Below w.heap.size w w'

set_option maxRecDepth 100000 in
set_option linter.unusedSimpArgs false in
set_option maxHeartbeats 6400000 in
theorem find1T (ti : Nat) (hti : TIa ti) (bp bq K : Nat) (cap : Array Value) (ord : List Value → List Value → Int) (x s : List Value) (w : World) (hp : w.cell? ⟨bp, 0, none⟩ = some (.func (.func K) #[] cap)) (hq : w.heap[bq]? = some (.cells x.toArray (tTab ti) (0, 0))) (lp : bp < w.heap.size) (hO : TellsO (kTab ti) w K cap ord) (hx : Fits (kTab ti) x) (hs : Fits (kTab ti) s) :
 Calls Tryz.prog (fFind1 ti) #[.agg s.toArray, .pointer (some ⟨bp, 0, none⟩), .pointer (some ⟨bq, 0, none⟩)] w fun e w' => e = .returned (.bool (ord s x == 0)) ∧ Below w.heap.size w w' := by
 have HTI := Lib.hid hti
 have HTA : Hid (TIa ti) := Lib.hid hti
 obtain ⟨d, hu0, hd0⟩ := undT ti HTA.out
 have HU := Lib.hid hu0
 have HUS := Lib.hid (undST ti HTA.out)
 have HK := Lib.hid (kT_le ti HTA.out)
 clear hu0 hti
 have hent := hO.1
 have HT := Lib.hid hO.2
 have HSZ : Hid (∀ y, Fits (kTab ti) y → (Tryz.prog.info? (tTab ti)).map (·.size) = some y.toArray.size) := Lib.hid (fun y hy => by rw [sizeT ti HTA.out, List.size_toArray, hy.length])
 have HQ : Hid ((w.alloc (.cells s.toArray (tTab ti))).heap[bq]? = some (.cells x.toArray (tTab ti) (0, 0))) := Lib.hid ((((Below.refl w.heap.size w).alloc (Nat.le_refl _) _).block _ (lt_of_block hq)).trans hq)
 have HS : Hid ((w.alloc (.cells s.toArray (tTab ti))).heap[w.heap.size]? = some (.cells s.toArray (tTab ti) (0, 0))) := Lib.hid (heap_alloc_new _ _)
 have HX := Lib.hid hx
 have HE := Lib.hid hs
 clear hO hq hx hs
 rcases HTI.out with rfl | rfl | rfl
 all_goals
  first
   | go_enter Tryz.func98, Tryz.ntmps98
   | go_enter Tryz.func88, Tryz.ntmps88
   | go_enter Tryz.func101, Tryz.ntmps101
  go_wp2_with (first
   | (refine wpList_load_row rfl (tTab (ixOf HTA)) (.tmp 3) rfl w.heap.size rfl _ _ _ _ HS.out HU.out (by cases d <;> first | rfl | cases hd0) (HSZ.out _ HE.out) ?_)
   | (refine wpList_load_row rfl (tTab (ixOf HTA)) (.tmp 2) rfl bq rfl _ _ _ _ HQ.out HU.out (by cases d <;> first | rfl | cases hd0) (HSZ.out _ HX.out) ?_)
   | fail)
  refine (HT.out _ ((Below.refl _ w).alloc (Nat.le_refl _) _) s x HE.out HX.out).mono ?_
  rintro e w1 ⟨rfl, hb⟩
  have B1 := Lib.hid (((Below.refl _ w).alloc (Nat.le_refl _) (.cells s.toArray (tTab (ixOf HTA)))).trans (hb.mono (by simp)))
  clear hb
  go_wp2_with fail
  go_ret
  exact ⟨rfl, B1.out⟩

set_option maxRecDepth 100000 in
set_option linter.unusedSimpArgs false in
theorem holdsIdleT (ti : Nat) (hti : TIa ti) (p : Addr) (w : World) :
 CallsD Tryz.prog (fHoldsI ti) #[.pointer (some p)] .returning w fun e u' w' => e = .returned (.tuple #[]) ∧ u' = .returning ∧ w' = w := by
 rcases hti with rfl | rfl | rfl
 all_goals
  first
   | refine callsD_of_wpS Tryz.func105 rfl fun c₀ cs hu => ?_
   | refine callsD_of_wpS Tryz.func102 rfl fun c₀ cs hu => ?_
   | refine callsD_of_wpS Tryz.func106 rfl fun c₀ cs hu => ?_
  apply wpS_seq
  apply wpS_region
  simp [wpOpsS, go_sem, recoverD, hu, Tryz.ntmps105, Tryz.ntmps102, Tryz.ntmps106, Exit.thenS]
  refine wpS_cond (t := false) (by simp [Act.eval, Array.replicate]) ?_
  simp only [Bool.false_eq_true, if_false]
  refine wpS_of_wp (wp_skip ?_)
  cases c₀
  simp_all [bodyPostS, results, Tryz.results105, Tryz.results102, Tryz.results106]

set_option maxRecDepth 100000 in
set_option linter.unusedSimpArgs false in
set_option maxHeartbeats 6400000 in
theorem holdsT (ti : Nat) (hti : TIa ti) (K : Nat) (cap : Array Value) (f : List Value → Bool) (s : List Value) (w : World) (h : TellsF (kTab ti) w K cap f) (hs : Fits (kTab ti) s) :
 Calls Tryz.prog (fHolds ti) #[.func (.func K) #[] cap, .agg s.toArray] w fun e w' => e = .returned (.bool (f s)) ∧ Below w.heap.size w w' := by
 have HTI := Lib.hid hti
 have HTA : Hid (TIa ti) := Lib.hid hti
 obtain ⟨d, hu0, hd0⟩ := undT ti HTA.out
 have HU := Lib.hid hu0
 have HUS := Lib.hid (undST ti HTA.out)
 have HK := Lib.hid (kT_le ti HTA.out)
 clear hu0 hti
 have hent := h.1
 have HT := Lib.hid h.2
 have HSZ : Hid (∀ y, Fits (kTab ti) y → (Tryz.prog.info? (tTab ti)).map (·.size) = some y.toArray.size) := Lib.hid (fun y hy => by rw [sizeT ti HTA.out, List.size_toArray, hy.length])
 have HS : Hid (((w.alloc (.cells s.toArray (tTab ti))).alloc (.cells #[.bool false] 4)).heap[w.heap.size]? = some (.cells s.toArray (tTab ti) (0, 0))) := Lib.hid ((Below.heap_alloc _ _ _ (by simp)).trans (heap_alloc_new _ _))
 have HE := Lib.hid hs
 clear h hs
 have hmf : ∀ (fn : Fn) (first cap : Array Value) (w : World), (Instr.makeFunc fn first cap).run Tryz.prog w = .ok (.func fn first cap) w := fun _ _ _ _ => rfl
 rcases HTI.out with rfl | rfl | rfl
 all_goals
  first
   | go_enter_defers Tryz.func103, Tryz.ntmps103
   | go_enter_defers Tryz.func95, Tryz.ntmps95
   | go_enter_defers Tryz.func104, Tryz.ntmps104
  go_wp2_with (first
   | (refine wpList_load_row rfl (tTab (ixOf HTA)) (.tmp 3) rfl w.heap.size rfl _ _ _ _ HS.out HU.out (by cases d <;> first | rfl | cases hd0) (HSZ.out _ HE.out) ?_)
   | fail)
  refine (HT.out _ (((Below.refl _ w).alloc (Nat.le_refl _) _).alloc (by simp) _) s HE.out).mono ?_
  rintro e w1 ⟨rfl, hb⟩
  have hc : w1.cell? ⟨w.heap.size + 1, 0, none⟩ = some (.bool false) := (hb.cell (p := ⟨w.heap.size + 1, 0, none⟩) (by simp)).trans (by simp [go_sem])
  have hf : w1.frozen? ⟨w.heap.size + 1, 0, none⟩ = false := (hb.frozen (p := ⟨w.heap.size + 1, 0, none⟩) (by simp)).trans (by simp [go_sem])
  have B1 := Lib.hid ((((Below.refl _ w).alloc (Nat.le_refl _) (.cells s.toArray (tTab (ixOf HTA)))).alloc (by simp) (.cells #[.bool false] 4)).trans (hb.mono (by simp; omega)))
  have hsz : w.heap.size + 1 < w1.heap.size := by have := hb.size; simp at this; omega
  clear hb
  go_wp2_with fail
  first
   | (refine leaves_cons (f := 105) (args := #[.pointer (some ⟨w.heap.size + 1, 0, none⟩)]) (by simp) ?hh ?_; case hh => (simp [go_sem]; done))
   | (refine leaves_cons (f := 102) (args := #[.pointer (some ⟨w.heap.size + 1, 0, none⟩)]) (by simp) ?hh ?_; case hh => (simp [go_sem]; done))
   | (refine leaves_cons (f := 106) (args := #[.pointer (some ⟨w.heap.size + 1, 0, none⟩)]) (by simp) ?hh ?_; case hh => (simp [go_sem]; done))
  refine (holdsIdleT _ HTA.out ⟨w.heap.size + 1, 0, none⟩ _).mono ?_
  rintro e u' w'' ⟨rfl, rfl, rfl⟩
  have hs := World.cell?_setCell_same w1 ⟨w.heap.size + 1, 0, none⟩ (.bool (f s)) hc
  simp [Leaves, settle, results, Tryz.results103, Tryz.results95, Tryz.results104, go_sem, hs]
  exact B1.out.setCell (by simp) _
end Go.Proofs.YtnkhnbpopdmkhaaGreat
