/-
 CONTRACTS of the table's closures, for any things. (By wip/tools/gen_ktab.py.)
 CONTRACTS of the table's functions, for any things. (By wip/tools/gen_ktab.py.)
 (By wip/tools/merge.py.)
-/
import Derived.Test.YtlkmccmbpnbgbaaGreatGT
import Derived.Test.YtlkmccmbpnbgbaaGreatHHouse
import Derived.Defers
import Derived.Recover
import Derived.Laws.MakeOwn
import Derived.Laws.Rows
namespace Go.Proofs.YtlkmccmbpnbgbaaGreat
set_option linter.unusedVariables false
open Go.RowKit
open Pl (firstG firstG_none firstG_some findG overG putG)

def TIa (ti : Nat) : Prop := ti = 0 ∨ ti = 1 ∨ ti = 2 ∨ ti = 3 ∨ ti = 4 ∨ ti = 5 ∨ ti = 6
def TIp (ti : Nat) : Prop := ti = 4 ∨ ti = 5 ∨ ti = 6
theorem tip_a {ti : Nat} (h : TIp ti) : TIa ti := by unfold TIp at h; unfold TIa; first | omega | exact h.elim
abbrev ixOf {ti : Nat} (_ : Hid (TIa ti)) : Nat := ti
def tTab : Nat → TypeId
 | 0 => 70
 | 1 => 76
 | 2 => 79
 | 3 => 73
 | 4 => 62
 | 5 => 42
 | 6 => 46
 | _ => 0
def sTab : Nat → TypeId
 | 0 => 22
 | 1 => 24
 | 2 => 25
 | 3 => 23
 | 4 => 26
 | 5 => 29
 | 6 => 30
 | _ => 0
def bTab : Nat → TypeId
 | 0 => 211
 | 1 => 230
 | 2 => 219
 | 3 => 235
 | 4 => 200
 | 5 => 144
 | 6 => 111
 | _ => 0
def kTab : Nat → List CK
 | 0 => kItem
 | 1 => kZone
 | 2 => kBin
 | 3 => kLot
 | 4 => kQuant
 | 5 => kOrder
 | 6 => kClaim
 | _ => []
def zTab (ti : Nat) : List Value := (kTab ti).map fun | .s => .string ⟨#[]⟩ | .i => .int .i64 0 | .b => .bool false
theorem zTab_len (ti : Nat) : (zTab ti).length = (kTab ti).length := List.length_map _
def fFind1 : Nat → FuncId
 | 0 => 174
 | 1 => 189
 | 2 => 178
 | 3 => 192
 | 4 => 164
 | 5 => 127
 | 6 => 91
 | _ => 0
def fHoldsI : Nat → FuncId
 | 0 => 193
 | 1 => 197
 | 2 => 194
 | 3 => 198
 | 4 => 185
 | 5 => 161
 | 6 => 146
 | _ => 0
def fHolds : Nat → FuncId
 | 0 => 184
 | 1 => 195
 | 2 => 186
 | 3 => 196
 | 4 => 175
 | 5 => 144
 | 6 => 122
 | _ => 0
def fFirst : Nat → FuncId
 | 0 => 173
 | 1 => 188
 | 2 => 177
 | 3 => 191
 | 4 => 163
 | 5 => 117
 | 6 => 90
 | _ => 0
def fFindT : Nat → FuncId
 | 0 => 159
 | 1 => 180
 | 2 => 168
 | 3 => 182
 | 4 => 148
 | 5 => 97
 | 6 => 48
 | _ => 0
def fSplice : Nat → FuncId
 | 4 => 165
 | 5 => 112
 | 6 => 123
 | _ => 0
def fPut1 : Nat → FuncId
 | 4 => 166
 | 5 => 118
 | 6 => 124
 | _ => 0
def fPutT : Nat → FuncId
 | 4 => 150
 | 5 => 82
 | 6 => 93
 | _ => 0
theorem undT (ti : Nat) (hti : TIa ti) : ∃ d, Tryz.prog.underlying (tTab ti) = some d ∧ d.isRow = true := by
 rcases hti with rfl | rfl | rfl | rfl | rfl | rfl | rfl
 · exact ⟨_, Tryz.underlying70, rfl⟩
 · exact ⟨_, Tryz.underlying76, rfl⟩
 · exact ⟨_, Tryz.underlying79, rfl⟩
 · exact ⟨_, Tryz.underlying73, rfl⟩
 · exact ⟨_, Tryz.underlying62, rfl⟩
 · exact ⟨_, Tryz.underlying42, rfl⟩
 · exact ⟨_, Tryz.underlying46, rfl⟩
theorem undST (ti : Nat) (hti : TIa ti) : Tryz.prog.underlying (sTab ti) = some (.slice (tTab ti)) := by
 rcases hti with rfl | rfl | rfl | rfl | rfl | rfl | rfl
 · exact Tryz.underlying22
 · exact Tryz.underlying24
 · exact Tryz.underlying25
 · exact Tryz.underlying23
 · exact Tryz.underlying26
 · exact Tryz.underlying29
 · exact Tryz.underlying30
theorem infoT (ti : Nat) (hti : TIa ti) : (Tryz.prog.info? (tTab ti)).map (fun x => (x.size, x.zero.map (·.cells.size), decide (x.bytes ≤ 1000))) = some ((kTab ti).length, some (kTab ti).length, true) := by
 rcases hti with rfl | rfl | rfl | rfl | rfl | rfl | rfl <;> (show _ = _; kernel_rfl)
theorem sizeT (ti : Nat) (hti : TIa ti) : (Tryz.prog.info? (tTab ti)).map (·.size) = some (kTab ti).length := by
 rcases hti with rfl | rfl | rfl | rfl | rfl | rfl | rfl <;> (show _ = _; kernel_rfl)
theorem kT_le (ti : Nat) (hti : TIa ti) : 1 ≤ (kTab ti).length ∧ (kTab ti).length ≤ 1000 := by
 rcases hti with rfl | rfl | rfl | rfl | rfl | rfl | rfl <;> decide
def NewT (ti : Nat) (w : World) (L : List (List Value)) (e : Ending) (w' : World) : Prop :=
 ∃ A n c, n = L.length ∧ e = .returned (.slice A n c) ∧ w'.ownsRow w.heap.size (tTab ti) (kTab ti).length (.slice A n c) n L.flatten ∧ Below w.heap.size w w'

set_option maxRecDepth 100000 in
set_option linter.unusedSimpArgs false in
set_option maxHeartbeats 6400000 in
theorem find1T (ti : Nat) (hti : TIa ti) (bp bq K : Nat) (cap : Array Value) (ord : List Value → List Value → Int) (x s : List Value) (w : World) (hp : w.cell? ⟨bp, 0, none⟩ = some (.func (.func K) #[] cap)) (hq : w.heap[bq]? = some (.cells x.toArray (tTab ti) (0, 0))) (lp : bp < w.heap.size) (hO : TellsO (kTab ti) w K cap ord) (hx : Fits (kTab ti) x) (hs : Fits (kTab ti) s) :
 Calls Tryz.prog (fFind1 ti) #[.agg s.toArray, .pointer (some ⟨bp, 0, none⟩), .pointer (some ⟨bq, 0, none⟩)] w fun e w' => e = .returned (.bool (ord s x == 0)) ∧ Below w.heap.size w w' := by
 have HTI := Lib.hid hti
 have HTA : Hid (TIa ti) := Lib.hid hti
 obtain ⟨d, hu0, hd0⟩ := undT ti HTA.out
 have HU := Lib.hid hu0
 have HUS := Lib.hid (undST ti HTA.out)
 have HK := Lib.hid (kT_le ti HTA.out)
 clear hu0 hti
 have hent := hO.1
 have HT := Lib.hid hO.2
 have HSZ : Hid (∀ y, Fits (kTab ti) y → (Tryz.prog.info? (tTab ti)).map (·.size) = some y.toArray.size) := Lib.hid (fun y hy => by rw [sizeT ti HTA.out, List.size_toArray, hy.length])
 have HQ : Hid ((w.alloc (.cells s.toArray (tTab ti))).heap[bq]? = some (.cells x.toArray (tTab ti) (0, 0))) := Lib.hid ((((Below.refl w.heap.size w).alloc (Nat.le_refl _) _).block _ (lt_of_block hq)).trans hq)
 have HS : Hid ((w.alloc (.cells s.toArray (tTab ti))).heap[w.heap.size]? = some (.cells s.toArray (tTab ti) (0, 0))) := Lib.hid (heap_alloc_new _ _)
 have HX := Lib.hid hx
 have HE := Lib.hid hs
 clear hO hq hx hs
 rcases HTI.out with rfl | rfl | rfl | rfl | rfl | rfl | rfl
 all_goals
  first
   | go_enter Tryz.func174, Tryz.ntmps174
   | go_enter Tryz.func189, Tryz.ntmps189
   | go_enter Tryz.func178, Tryz.ntmps178
   | go_enter Tryz.func192, Tryz.ntmps192
   | go_enter Tryz.func164, Tryz.ntmps164
   | go_enter Tryz.func127, Tryz.ntmps127
   | go_enter Tryz.func91, Tryz.ntmps91
  go_wp2_with (first
   | (refine wpList_load_row rfl (tTab (ixOf HTA)) (.tmp 3) rfl w.heap.size rfl _ _ _ _ HS.out HU.out (by cases d <;> first | rfl | cases hd0) (HSZ.out _ HE.out) ?_)
   | (refine wpList_load_row rfl (tTab (ixOf HTA)) (.tmp 2) rfl bq rfl _ _ _ _ HQ.out HU.out (by cases d <;> first | rfl | cases hd0) (HSZ.out _ HX.out) ?_)
   | fail)
  refine (HT.out _ ((Below.refl _ w).alloc (Nat.le_refl _) _) s x HE.out HX.out).mono ?_
  rintro e w1 ⟨rfl, hb⟩
  have B1 := Lib.hid (((Below.refl _ w).alloc (Nat.le_refl _) (.cells s.toArray (tTab (ixOf HTA)))).trans (hb.mono (by simp)))
  clear hb
  go_wp2_with fail
  go_ret
  exact ⟨rfl, B1.out⟩

set_option maxRecDepth 100000 in
set_option linter.unusedSimpArgs false in
theorem holdsIdleT (ti : Nat) (hti : TIa ti) (p : Addr) (w : World) :
 CallsD Tryz.prog (fHoldsI ti) #[.pointer (some p)] .returning w fun e u' w' => e = .returned (.tuple #[]) ∧ u' = .returning ∧ w' = w := by
 rcases hti with rfl | rfl | rfl | rfl | rfl | rfl | rfl
 all_goals
  first
   | refine callsD_of_wpS Tryz.func193 rfl fun c₀ cs hu => ?_
   | refine callsD_of_wpS Tryz.func197 rfl fun c₀ cs hu => ?_
   | refine callsD_of_wpS Tryz.func194 rfl fun c₀ cs hu => ?_
   | refine callsD_of_wpS Tryz.func198 rfl fun c₀ cs hu => ?_
   | refine callsD_of_wpS Tryz.func185 rfl fun c₀ cs hu => ?_
   | refine callsD_of_wpS Tryz.func161 rfl fun c₀ cs hu => ?_
   | refine callsD_of_wpS Tryz.func146 rfl fun c₀ cs hu => ?_
  apply wpS_seq
  apply wpS_region
  simp [wpOpsS, go_sem, recoverD, hu, Tryz.ntmps193, Tryz.ntmps197, Tryz.ntmps194, Tryz.ntmps198, Tryz.ntmps185, Tryz.ntmps161, Tryz.ntmps146, Exit.thenS]
  refine wpS_cond (t := false) (by simp [Act.eval, Array.replicate]) ?_
  simp only [Bool.false_eq_true, if_false]
  refine wpS_of_wp (wp_skip ?_)
  cases c₀
  simp_all [bodyPostS, results, Tryz.results193, Tryz.results197, Tryz.results194, Tryz.results198, Tryz.results185, Tryz.results161, Tryz.results146]

set_option maxRecDepth 100000 in
set_option linter.unusedSimpArgs false in
set_option maxHeartbeats 6400000 in
theorem holdsT (ti : Nat) (hti : TIa ti) (K : Nat) (cap : Array Value) (f : List Value → Bool) (s : List Value) (w : World) (h : TellsF (kTab ti) w K cap f) (hs : Fits (kTab ti) s) :
 Calls Tryz.prog (fHolds ti) #[.func (.func K) #[] cap, .agg s.toArray] w fun e w' => e = .returned (.bool (f s)) ∧ Below w.heap.size w w' := by
 have HTI := Lib.hid hti
 have HTA : Hid (TIa ti) := Lib.hid hti
 obtain ⟨d, hu0, hd0⟩ := undT ti HTA.out
 have HU := Lib.hid hu0
 have HUS := Lib.hid (undST ti HTA.out)
 have HK := Lib.hid (kT_le ti HTA.out)
 clear hu0 hti
 have hent := h.1
 have HT := Lib.hid h.2
 have HSZ : Hid (∀ y, Fits (kTab ti) y → (Tryz.prog.info? (tTab ti)).map (·.size) = some y.toArray.size) := Lib.hid (fun y hy => by rw [sizeT ti HTA.out, List.size_toArray, hy.length])
 have HS : Hid (((w.alloc (.cells s.toArray (tTab ti))).alloc (.cells #[.bool false] 4)).heap[w.heap.size]? = some (.cells s.toArray (tTab ti) (0, 0))) := Lib.hid ((Below.heap_alloc _ _ _ (by simp)).trans (heap_alloc_new _ _))
 have HE := Lib.hid hs
 clear h hs
 have hmf : ∀ (fn : Fn) (first cap : Array Value) (w : World), (Instr.makeFunc fn first cap).run Tryz.prog w = .ok (.func fn first cap) w := fun _ _ _ _ => rfl
 rcases HTI.out with rfl | rfl | rfl | rfl | rfl | rfl | rfl
 all_goals
  first
   | go_enter_defers Tryz.func184, Tryz.ntmps184
   | go_enter_defers Tryz.func195, Tryz.ntmps195
   | go_enter_defers Tryz.func186, Tryz.ntmps186
   | go_enter_defers Tryz.func196, Tryz.ntmps196
   | go_enter_defers Tryz.func175, Tryz.ntmps175
   | go_enter_defers Tryz.func144, Tryz.ntmps144
   | go_enter_defers Tryz.func122, Tryz.ntmps122
  go_wp2_with (first
   | (refine wpList_load_row rfl (tTab (ixOf HTA)) (.tmp 3) rfl w.heap.size rfl _ _ _ _ HS.out HU.out (by cases d <;> first | rfl | cases hd0) (HSZ.out _ HE.out) ?_)
   | fail)
  refine (HT.out _ (((Below.refl _ w).alloc (Nat.le_refl _) _).alloc (by simp) _) s HE.out).mono ?_
  rintro e w1 ⟨rfl, hb⟩
  have hc : w1.cell? ⟨w.heap.size + 1, 0, none⟩ = some (.bool false) := (hb.cell (p := ⟨w.heap.size + 1, 0, none⟩) (by simp)).trans (by simp [go_sem])
  have hf : w1.frozen? ⟨w.heap.size + 1, 0, none⟩ = false := (hb.frozen (p := ⟨w.heap.size + 1, 0, none⟩) (by simp)).trans (by simp [go_sem])
  have B1 := Lib.hid ((((Below.refl _ w).alloc (Nat.le_refl _) (.cells s.toArray (tTab (ixOf HTA)))).alloc (by simp) (.cells #[.bool false] 4)).trans (hb.mono (by simp; omega)))
  have hsz : w.heap.size + 1 < w1.heap.size := by have := hb.size; simp at this; omega
  clear hb
  go_wp2_with fail
  first
   | (refine leaves_cons (f := 193) (args := #[.pointer (some ⟨w.heap.size + 1, 0, none⟩)]) (by simp) ?hh ?_; case hh => (simp [go_sem]; done))
   | (refine leaves_cons (f := 197) (args := #[.pointer (some ⟨w.heap.size + 1, 0, none⟩)]) (by simp) ?hh ?_; case hh => (simp [go_sem]; done))
   | (refine leaves_cons (f := 194) (args := #[.pointer (some ⟨w.heap.size + 1, 0, none⟩)]) (by simp) ?hh ?_; case hh => (simp [go_sem]; done))
   | (refine leaves_cons (f := 198) (args := #[.pointer (some ⟨w.heap.size + 1, 0, none⟩)]) (by simp) ?hh ?_; case hh => (simp [go_sem]; done))
   | (refine leaves_cons (f := 185) (args := #[.pointer (some ⟨w.heap.size + 1, 0, none⟩)]) (by simp) ?hh ?_; case hh => (simp [go_sem]; done))
   | (refine leaves_cons (f := 161) (args := #[.pointer (some ⟨w.heap.size + 1, 0, none⟩)]) (by simp) ?hh ?_; case hh => (simp [go_sem]; done))
   | (refine leaves_cons (f := 146) (args := #[.pointer (some ⟨w.heap.size + 1, 0, none⟩)]) (by simp) ?hh ?_; case hh => (simp [go_sem]; done))
  refine (holdsIdleT _ HTA.out ⟨w.heap.size + 1, 0, none⟩ _).mono ?_
  rintro e u' w'' ⟨rfl, rfl, rfl⟩
  have hs := World.cell?_setCell_same w1 ⟨w.heap.size + 1, 0, none⟩ (.bool (f s)) hc
  simp [Leaves, settle, results, Tryz.results184, Tryz.results195, Tryz.results186, Tryz.results196, Tryz.results175, Tryz.results144, Tryz.results122, go_sem, hs]
  exact B1.out.setCell (by simp) _
set_option maxRecDepth 100000 in
set_option linter.unusedSimpArgs false in
set_option maxHeartbeats 6400000 in
theorem put1T (ti : Nat) (hti : TIp ti) (bp bq K : Nat) (cap : Array Value) (ord : List Value → List Value → Int) (x s : List Value) (w : World) (hp : w.cell? ⟨bp, 0, none⟩ = some (.func (.func K) #[] cap)) (hq : w.heap[bq]? = some (.cells x.toArray (tTab ti) (0, 0))) (lp : bp < w.heap.size) (hO : TellsO (kTab ti) w K cap ord) (hx : Fits (kTab ti) x) (hs : Fits (kTab ti) s) :
 Calls Tryz.prog (fPut1 ti) #[.agg s.toArray, .pointer (some ⟨bp, 0, none⟩), .pointer (some ⟨bq, 0, none⟩)] w fun e w' => e = .returned (.bool (decide (0 < ord s x))) ∧ Below w.heap.size w w' := by
 have HTI := Lib.hid hti
 have HTA : Hid (TIa ti) := Lib.hid (tip_a hti)
 obtain ⟨d, hu0, hd0⟩ := undT ti HTA.out
 have HU := Lib.hid hu0
 have HUS := Lib.hid (undST ti HTA.out)
 have HK := Lib.hid (kT_le ti HTA.out)
 clear hu0 hti
 have hent := hO.1
 have HT := Lib.hid hO.2
 have HSZ : Hid (∀ y, Fits (kTab ti) y → (Tryz.prog.info? (tTab ti)).map (·.size) = some y.toArray.size) := Lib.hid (fun y hy => by rw [sizeT ti HTA.out, List.size_toArray, hy.length])
 have HQ : Hid ((w.alloc (.cells s.toArray (tTab ti))).heap[bq]? = some (.cells x.toArray (tTab ti) (0, 0))) := Lib.hid ((((Below.refl w.heap.size w).alloc (Nat.le_refl _) _).block _ (lt_of_block hq)).trans hq)
 have HS : Hid ((w.alloc (.cells s.toArray (tTab ti))).heap[w.heap.size]? = some (.cells s.toArray (tTab ti) (0, 0))) := Lib.hid (heap_alloc_new _ _)
 have HX := Lib.hid hx
 have HE := Lib.hid hs
 clear hO hq hx hs
 rcases HTI.out with rfl | rfl | rfl
 all_goals
  first
   | go_enter Tryz.func166, Tryz.ntmps166
   | go_enter Tryz.func118, Tryz.ntmps118
   | go_enter Tryz.func124, Tryz.ntmps124
  go_wp2_with (first
   | (refine wpList_load_row rfl (tTab (ixOf HTA)) (.tmp 3) rfl w.heap.size rfl _ _ _ _ HS.out HU.out (by cases d <;> first | rfl | cases hd0) (HSZ.out _ HE.out) ?_)
   | (refine wpList_load_row rfl (tTab (ixOf HTA)) (.tmp 2) rfl bq rfl _ _ _ _ HQ.out HU.out (by cases d <;> first | rfl | cases hd0) (HSZ.out _ HX.out) ?_)
   | fail)
  refine (HT.out _ ((Below.refl _ w).alloc (Nat.le_refl _) _) s x HE.out HX.out).mono ?_
  rintro e w1 ⟨rfl, hb⟩
  have B1 := Lib.hid (((Below.refl _ w).alloc (Nat.le_refl _) (.cells s.toArray (tTab (ixOf HTA)))).trans (hb.mono (by simp)))
  clear hb
  go_wp2_with fail
  go_ret
  exact ⟨rfl, B1.out⟩

end Go.Proofs.YtlkmccmbpnbgbaaGreat

namespace Go.Proofs.YtlkmccmbpnbgbaaGreat
set_option linter.unusedVariables false
open Go.RowKit
open Pl (firstG firstG_none firstG_some findG overG putG)

set_option maxRecDepth 100000 in
set_option maxHeartbeats 800000 in
set_option linter.unusedSimpArgs false in
set_option maxHeartbeats 6400000 in
theorem firstT (ti : Nat) (hti : TIa ti) (A : Option Addr) (n c K : Nat) (cap : Array Value) (f : List Value → Bool) (L : List (List Value)) (w : World) (hn : n = L.length) (hn63 : n ≤ 1000000) (hL : Things (kTab ti) L)
 (hr : Rd w w.heap.size A L.flatten) (hT : TellsF (kTab ti) w K cap f) :
 Calls Tryz.prog (fFirst ti) #[.slice A n c, .func (.func K) #[] cap] w fun e w' => e = .returned (firstV (firstG f L)) ∧ Below w.heap.size w w' := by
 have HTI := Lib.hid hti
 have HTA : Hid (TIa ti) := Lib.hid hti
 obtain ⟨d, hu0, hd0⟩ := undT ti HTA.out
 have HU := Lib.hid hu0
 have HUS := Lib.hid (undST ti HTA.out)
 have HK := Lib.hid (kT_le ti HTA.out)
 clear hu0 hti
 have HN := Lib.hid hn
 have HR := Lib.hid hr
 have HT := Lib.hid hT
 have HL := Lib.hid hL
 have HSZ : Hid (∀ y, Fits (kTab ti) y → (Tryz.prog.info? (tTab ti)).map (·.size) = some y.toArray.size) := Lib.hid (fun y hy => by rw [sizeT ti HTA.out, List.size_toArray, hy.length])
 clear hn hr hT hL
 rcases HTI.out with rfl | rfl | rfl | rfl | rfl | rfl | rfl
 all_goals
  first
   | go_enter Tryz.func173, Tryz.ntmps173
   | go_enter Tryz.func188, Tryz.ntmps188
   | go_enter Tryz.func177, Tryz.ntmps177
   | go_enter Tryz.func191, Tryz.ntmps191
   | go_enter Tryz.func163, Tryz.ntmps163
   | go_enter Tryz.func117, Tryz.ntmps117
   | go_enter Tryz.func90, Tryz.ntmps90
  go_wp2_with fail
  go_loopw [10] (fun i wr => ∃ k : Nat, k ≤ n ∧ i = .int .i64 (k : Int) ∧ Hid (∀ j (hj : j < L.length), j < k → f L[j] = false) ∧ Hid (Below w.heap.size w wr)) (fun i _ => n - (intOf i).toNat)
  case atStart => exact ⟨0, by omega, rfl, Lib.hid (fun j hj h => by omega), Lib.hid (Below.refl _ _)⟩
  case round =>
   obtain ⟨k, hkn, rfl, hno, hbel⟩ := hrel
   by_cases hlt : k < n
   · have hl : k < L.length := by rw [← HN.out]; exact hlt
     obtain ⟨b, off, rfl, hb, hc⟩ := HR.out.thing HL.out HK.out.1 hl
     have fx := HL.out _ (List.getElem_mem hl)
     have r1 := rangeAt_below (hc k hl) hb hbel.out
     have hlb : b < wr.heap.size := Nat.lt_of_lt_of_le hb hbel.out.size
     have h1 : (0 : Int) ≤ (k : Int) := by omega
     have h2 : (k : Int) < (n : Int) := by omega
     obtain ⟨x, hx⟩ : ∃ x, L[k] = x := ⟨_, rfl⟩
     rw [hx] at fx r1
     have HX := Lib.hid hx
     have HF := Lib.hid fx
     have HR1 := Lib.hid r1
     have hix : (Tryz.prog.info? (tTab (ixOf HTA))).map (·.size) = some x.length := by have := HSZ.out x fx; rwa [List.size_toArray] at this
     have HIX := Lib.hid hix
     have HW2 : Hid (Below w.heap.size w (wr.alloc (.cells (zTab (ixOf HTA)).toArray (tTab (ixOf HTA))))) := Lib.hid (hbel.out.alloc hbel.out.size _)
     have HBX : Hid ((wr.alloc (.cells (zTab (ixOf HTA)).toArray (tTab (ixOf HTA)))).heap[wr.heap.size]? = some (.cells (zTab (ixOf HTA)).toArray (tTab (ixOf HTA)) (0, 0))) := Lib.hid (heap_alloc_new _ _)
     have HSR : Hid (Below w.heap.size w ((wr.alloc (.cells (zTab (ixOf HTA)).toArray (tTab (ixOf HTA)))).setRow wr.heap.size x.toArray)) := Lib.hid ⟨HW2.out.os, HW2.out.tape, HW2.out.output, by simpa using HW2.out.size, fun k hk => (setRow_other _ wr.heap.size k x.toArray (by have := hbel.out.size; omega)).trans (HW2.out.block k hk)⟩
     have HRX : Hid (((wr.alloc (.cells (zTab (ixOf HTA)).toArray (tTab (ixOf HTA)))).setRow wr.heap.size x.toArray).heap[wr.heap.size]? = some (.cells x.toArray (tTab (ixOf HTA)) (0, 0))) := Lib.hid (setRow_heap _ _ _ _ _ _ HBX.out)
     have HO : Hid (((zTab (ixOf HTA)).toArray : Array Value).size = x.toArray.size) := Lib.hid (by rw [List.size_toArray, List.size_toArray, HF.out.length, zTab_len])
     have HOC : Hid (x.toArray.all (·.oneCell') = true) := Lib.hid (all_oneCell_toArray (fits_one HF.out))
     clear hc r1 hx fx hix hb
     cases hf : f x with
     | true =>
      have HFX := Lib.hid hf
      have HV : Hid (firstV (firstG f L) = .tuple #[.int .i64 (k : Int), .bool true]) := Lib.hid (by
       rw [firstG_some hl (fun j hj hjk => hno.out j hj hjk) (by rw [HX.out]; exact hf)]; rfl)
      clear hf
      go_wp2_with (first
       | (refine wpList_load_mid rfl (tTab (ixOf HTA)) (.tmp 13) rfl b (off + k * (kTab (ixOf HTA)).length) rfl x _ HR1.out HU.out (by cases d <;> first | rfl | cases hd0) HIX.out ?_)
       | (refine wpList_store_row rfl (tTab (ixOf HTA)) (.tmp 7) (.tmp 14) rfl wr.heap.size x.toArray rfl rfl _ _ HBX.out (HSZ.out _ HF.out) HO.out HOC.out ?_)
       | (refine wpList_load_row rfl (tTab (ixOf HTA)) (.tmp 7) rfl wr.heap.size rfl _ _ _ _ HRX.out HU.out (by cases d <;> first | rfl | cases hd0) (HSZ.out _ HF.out) ?_)
       | fail)
      refine (holdsT _ HTA.out K cap f x _ (HT.out.later HSR.out) HF.out).mono ?_
      rintro e w1 ⟨rfl, hb1⟩
      have B1 := Lib.hid (HSR.out.trans (hb1.mono HSR.out.size))
      clear hb1
      have hf := HFX.out
      go_wp2_with fail
      go_ret2
      exact ⟨by rw [HV.out]; rfl, B1.out⟩
     | false =>
      have HFX := Lib.hid hf
      have HNO : Hid (∀ j (hj : j < L.length), j < k + 1 → f L[j] = false) := Lib.hid (fun j hj hjk => by
       by_cases e : j = k
       · subst e; rw [HX.out]; exact hf
       · exact hno.out j hj (by omega))
      clear hf
      go_wp2_with (first
       | (refine wpList_load_mid rfl (tTab (ixOf HTA)) (.tmp 13) rfl b (off + k * (kTab (ixOf HTA)).length) rfl x _ HR1.out HU.out (by cases d <;> first | rfl | cases hd0) HIX.out ?_)
       | (refine wpList_store_row rfl (tTab (ixOf HTA)) (.tmp 7) (.tmp 14) rfl wr.heap.size x.toArray rfl rfl _ _ HBX.out (HSZ.out _ HF.out) HO.out HOC.out ?_)
       | (refine wpList_load_row rfl (tTab (ixOf HTA)) (.tmp 7) rfl wr.heap.size rfl _ _ _ _ HRX.out HU.out (by cases d <;> first | rfl | cases hd0) (HSZ.out _ HF.out) ?_)
       | fail)
      refine (holdsT _ HTA.out K cap f x _ (HT.out.later HSR.out) HF.out).mono ?_
      rintro e w1 ⟨rfl, hb1⟩
      have B1 := Lib.hid (HSR.out.trans (hb1.mono HSR.out.size))
      clear hb1
      have hf := HFX.out
      go_wp2_with fail
      go_roundw
      case rel => exact ⟨k + 1, by omega, by go_num, HNO, B1⟩
      case measure => simp [intOf]; omega
   · have HV : Hid (firstV (firstG f L) = .tuple #[.int .i64 0, .bool false]) := Lib.hid (by
      rw [firstG_none (fun j hj => hno.out j hj (by have := HN.out; omega))]; rfl)
     go_wp2_with fail
     go_ret2
     exact ⟨by rw [HV.out]; rfl, hbel.out⟩

set_option linter.unusedSimpArgs false in
set_option maxHeartbeats 6400000 in
theorem tellsFindT (ti : Nat) (hti : TIa ti) (w w1 : World) (K : Nat) (cap : Array Value) (ord : List Value → List Value → Int) (x : List Value) (hb : Below (w.heap.size + 2) (tabW w K cap x (bTab ti) (tTab ti)) w1) (hO : TellsO (kTab ti) w K cap ord) (hx : Fits (kTab ti) x) :
 TellsF (kTab ti) w1 (fFind1 ti) #[.pointer (some ⟨w.heap.size, 0, none⟩), .pointer (some ⟨w.heap.size + 1, 0, none⟩)] (fun s => ord s x == 0) := by
 have HTI := Lib.hid hti
 have HTA : Hid (TIa ti) := Lib.hid hti
 obtain ⟨d, hu0, hd0⟩ := undT ti HTA.out
 have HU := Lib.hid hu0
 have HUS := Lib.hid (undST ti HTA.out)
 have HK := Lib.hid (kT_le ti HTA.out)
 clear hu0 hti
 refine ⟨fun args W => by rcases HTI.out with rfl | rfl | rfl | rfl | rfl | rfl | rfl <;> (show _ = _; kernel_rfl), fun W hW s hs => ?_⟩
 have hsz := hb.size
 have h2 : w.heap.size + 2 ≤ w1.heap.size := by simpa using hsz
 have hB := hb.trans (hW.mono h2)
 exact find1T _ HTA.out _ _ K cap ord x s W (tabW_cell hB) (tabW_row hB) (by have := hW.size; omega) (hO.later ((tabW_below _ _ _ _ _ _).trans (hB.mono (by omega)))) hx hs

set_option maxRecDepth 100000 in
set_option linter.unusedSimpArgs false in
set_option maxHeartbeats 6400000 in
theorem findT (ti : Nat) (hti : TIa ti) (A : Option Addr) (n c K : Nat) (cap : Array Value) (ord : List Value → List Value → Int) (x : List Value) (L : List (List Value)) (w : World) (hn : n = L.length) (hn63 : n ≤ 1000000) (hL : Things (kTab ti) L) (hx : Fits (kTab ti) x)
 (hr : Rd w w.heap.size A L.flatten) (hO : TellsO (kTab ti) w K cap ord) :
 Calls Tryz.prog (fFindT ti) #[.agg #[.func (.func K) #[] cap], .slice A n c, .agg x.toArray] w fun e w' => e = .returned (firstV (findG ord L x)) ∧ Below w.heap.size w w' := by
 have HTI := Lib.hid hti
 have HTA : Hid (TIa ti) := Lib.hid hti
 obtain ⟨d, hu0, hd0⟩ := undT ti HTA.out
 have HU := Lib.hid hu0
 have HUS := Lib.hid (undST ti HTA.out)
 have HK := Lib.hid (kT_le ti HTA.out)
 clear hu0 hti
 have hmf : ∀ (fn : Fn) (first cap : Array Value) (w : World), (Instr.makeFunc fn first cap).run Tryz.prog w = .ok (.func fn first cap) w := fun _ _ _ _ => rfl
 have HB := Lib.hid (tabW_below w K cap x (bTab ti) (tTab ti))
 have HF := Lib.hid (firstT _ HTA.out A n c (fFind1 ti) _ _ L _ hn hn63 hL ((hr.below HB.out).mono HB.out.size) (tellsFindT _ HTA.out w _ K cap ord x (Below.refl _ _) hO hx))
 clear hn hr hL hx hO
 rcases HTI.out with rfl | rfl | rfl | rfl | rfl | rfl | rfl
 all_goals
  first
   | go_enter Tryz.func159, Tryz.ntmps159
   | go_enter Tryz.func180, Tryz.ntmps180
   | go_enter Tryz.func168, Tryz.ntmps168
   | go_enter Tryz.func182, Tryz.ntmps182
   | go_enter Tryz.func148, Tryz.ntmps148
   | go_enter Tryz.func97, Tryz.ntmps97
   | go_enter Tryz.func48, Tryz.ntmps48
  go_wp2_with fail
  refine HF.out.mono ?_
  rintro e w1 ⟨rfl, hb⟩
  have B1 := Lib.hid (HB.out.trans (hb.mono HB.out.size))
  clear hb
  go_wp2_with fail
  go_ret2
  exact ⟨rfl, B1.out⟩
set_option linter.unusedSimpArgs false in
set_option maxHeartbeats 6400000 in
theorem tellsPutT (ti : Nat) (hti : TIp ti) (w w1 : World) (K : Nat) (cap : Array Value) (ord : List Value → List Value → Int) (x : List Value) (hb : Below (w.heap.size + 2) (tabW w K cap x (bTab ti) (tTab ti)) w1) (hO : TellsO (kTab ti) w K cap ord) (hx : Fits (kTab ti) x) :
 TellsF (kTab ti) w1 (fPut1 ti) #[.pointer (some ⟨w.heap.size, 0, none⟩), .pointer (some ⟨w.heap.size + 1, 0, none⟩)] (fun s => decide (0 < ord s x)) := by
 have HTI := Lib.hid hti
 have HTA : Hid (TIa ti) := Lib.hid (tip_a hti)
 obtain ⟨d, hu0, hd0⟩ := undT ti HTA.out
 have HU := Lib.hid hu0
 have HUS := Lib.hid (undST ti HTA.out)
 have HK := Lib.hid (kT_le ti HTA.out)
 clear hu0 hti
 refine ⟨fun args W => by rcases HTI.out with rfl | rfl | rfl <;> (show _ = _; kernel_rfl), fun W hW s hs => ?_⟩
 have hsz := hb.size
 have h2 : w.heap.size + 2 ≤ w1.heap.size := by simpa using hsz
 have hB := hb.trans (hW.mono h2)
 exact put1T _ HTI.out _ _ K cap ord x s W (tabW_cell hB) (tabW_row hB) (by have := hW.size; omega) (hO.later ((tabW_below _ _ _ _ _ _).trans (hB.mono (by omega)))) hx hs

set_option maxRecDepth 100000 in
set_option maxHeartbeats 800000 in
set_option linter.unusedSimpArgs false in
set_option maxHeartbeats 6400000 in
theorem spliceT (ti : Nat) (hti : TIp ti) (A A2 : Option Addr) (n c m c2 i j : Nat) (L X : List (List Value)) (w : World) (hn : n = L.length) (hm : m = X.length) (hnc : n ≤ c) (hc : c ≤ 9223372036854775807) (hij : i ≤ j) (hjn : j ≤ n) (hsz : n + m ≤ 1000000) (hL : Things (kTab ti) L) (hX : Things (kTab ti) X)
 (hr : Rd w w.heap.size A L.flatten) (hr2 : Rd w w.heap.size A2 X.flatten) :
 Calls Tryz.prog (fSplice ti) #[.slice A n c, .int .i64 (i : Int), .int .i64 (j : Int), .slice A2 m c2] w fun e w' =>
  ∃ A' c', e = .returned (.slice A' (i + m + (n - j)) c') ∧ w'.ownsRow w.heap.size (tTab ti) (kTab ti).length (.slice A' (i + m + (n - j)) c') (i + m + (n - j)) (L.take i ++ X ++ L.drop j).flatten ∧ Below w.heap.size w w' := by
 have HTI := Lib.hid hti
 have HTA : Hid (TIa ti) := Lib.hid (tip_a hti)
 obtain ⟨d, hu0, hd0⟩ := undT ti HTA.out
 have HU := Lib.hid hu0
 have HUS := Lib.hid (undST ti HTA.out)
 have HK := Lib.hid (kT_le ti HTA.out)
 clear hu0 hti
 obtain ⟨i0, z0, hi0, hz0, hz1, hz2, hz3⟩ := info_thing (infoT ti HTA.out)
 have hby : ∀ x, x ≤ 1000000 → x * i0.bytes ≤ 140737488355328 := fun x hx => Nat.le_trans (Nat.mul_le_mul hx hz3) (by decide)
 obtain ⟨w1, hmk, hown1, hg1⟩ := run_make_own (P := Tryz.prog) w w.heap.size (sTab ti) (tTab ti) i0 _ (kTab ti).length HUS.out hi0 hz0 hz1 .i64 .i64 (n - (j - i) + m) (by rw [Nat.mul_comm]; exact Nat.le_trans (hby _ (by omega)) (by decide)) (by simp only [maxLen]; omega) (Nat.le_refl _)
 rw [show (((n - (j - i) + m : Nat)) : Int) = (n : Int) - ((j : Int) - (i : Int)) + (m : Int) from by omega] at hmk
 have hb1 : Below w.heap.size w w1 := (Below.refl _ _).grown hg1 (Nat.le_refl _) (by simp)
 have hn1 : n - (j - i) + m ≤ 9223372036854775807 := by omega
 have HN := Lib.hid hn
 have HM := Lib.hid hm
 have HR := Lib.hid hr
 have HR2 := Lib.hid hr2
 have HL := Lib.hid hL
 have HX := Lib.hid hX
 have HO1 := Lib.hid hown1
 have HB1 := Lib.hid hb1
 have HBY := Lib.hid hby
 have HLT : Hid ((L.take i).flatten.length = i * (kTab ti).length) := Lib.hid (by rw [flat_length (hL.take i).len, List.length_take, ← hn]; congr 1; omega)
 have HLX : Hid (X.flatten.length = m * (kTab ti).length) := Lib.hid (by rw [flat_length hX.len, ← hm])
 have HLL : Hid (L.flatten.length = n * (kTab ti).length) := Lib.hid (by rw [flat_length hL.len, ← hn])
 have HLD : Hid ((L.drop j).flatten.length = (n - j) * (kTab ti).length) := Lib.hid (by rw [flat_length (hL.drop j).len, List.length_drop, ← hn])
 have HFD : Hid ((L.drop j).flatten = L.flatten.drop (j * (kTab ti).length)) := Lib.hid (by rw [flat_drop hL.len])
 clear hn hm hr hr2 hown1 hg1 hb1 hL hX hby
 have hcut := run_cut (P := Tryz.prog) (sTab ti) (tTab ti) (kTab ti).length i0 HUS.out hi0 hz1 A n c j hjn
 rcases HTI.out with rfl | rfl | rfl
 all_goals
  simp only [sTab, tTab] at hmk hcut
  first
   | go_enter Tryz.func165, Tryz.ntmps165
   | go_enter Tryz.func112, Tryz.ntmps112
   | go_enter Tryz.func123, Tryz.ntmps123
  go_wp2_with (first
   | (at_builtin; refine wpList_app rfl (.tmp 20) (.tmp 23) _ rfl w.heap.size (tTab (ixOf HTA)) i0 z0 (kTab (ixOf HTA)).length i0.bytes HUS.out hi0 hz0 hz1 rfl hz2 HK.out.1 _ 0 _ [] rfl HO1.out w.heap.size A i c (L.take i).flatten rfl HLT.out ((HR.out.below HB1.out).tkT (ks := (kTab (ixOf HTA))) i) (things_one (HL.out.take i)) (by simp only [maxLen]; omega) (HBY.out _ (by omega)) HB1.out.size ?_; intro A3 c3 w2 hown2 hb2; simp only [Nat.zero_add, List.nil_append] at hown2; have HO2 := Lib.hid hown2; have HB2 := Lib.hid (HB1.out.trans hb2); clear hown2 hb2)
   | (at_builtin; refine wpList_app rfl (.tmp 25) (.tmp 26) _ rfl w.heap.size (tTab (ixOf HTA)) i0 z0 (kTab (ixOf HTA)).length i0.bytes HUS.out hi0 hz0 hz1 rfl hz2 HK.out.1 _ i _ _ rfl HO2.out w.heap.size A2 m c2 X.flatten rfl HLX.out (HR2.out.below HB2.out) (things_one HX.out) (by simp only [maxLen]; omega) (HBY.out _ (by omega)) HB2.out.size ?_; intro A4 c4 w3 hown3 hb3; have HO3 := Lib.hid hown3; have HB3 := Lib.hid (HB2.out.trans hb3); clear hown3 hb3)
   | (at_builtin; refine wpList_app rfl (.tmp 28) (.tmp 31) _ rfl w.heap.size (tTab (ixOf HTA)) i0 z0 (kTab (ixOf HTA)).length i0.bytes HUS.out hi0 hz0 hz1 rfl hz2 HK.out.1 _ (i + m) _ _ rfl HO3.out w.heap.size (cutA A c j (kTab (ixOf HTA)).length) (n - j) (c - j) (L.drop j).flatten rfl HLD.out (by rw [HFD.out]; exact ((HR.out.below HB3.out).cut (kTab (ixOf HTA)).length j c (fun e => by rw [HLL.out]; exact Nat.mul_le_mul_right _ (by omega)))) (things_one (HL.out.drop j)) (by simp only [maxLen]; omega) (HBY.out _ (by omega)) HB3.out.size ?_; intro A5 c5 w4 hown4 hb4; have HO4 := Lib.hid hown4; have HB4 := Lib.hid (HB3.out.trans hb4); clear hown4 hb4))
  go_ret
  exact ⟨A5, c5, rfl, by rw [List.flatten_append, List.flatten_append]; exact HO4.out, HB4.out⟩

set_option maxRecDepth 100000 in
set_option maxHeartbeats 1600000 in
set_option linter.unusedSimpArgs false in
set_option maxHeartbeats 6400000 in
theorem putT (ti : Nat) (hti : TIp ti) (A : Option Addr) (n c K : Nat) (cap : Array Value) (ord : List Value → List Value → Int) (x : List Value) (L : List (List Value)) (w : World) (hn : n = L.length) (hnc : n ≤ c) (hc : c ≤ 9223372036854775807) (hsz : n + 1 ≤ 1000000) (hL : Things (kTab ti) L) (hx : Fits (kTab ti) x)
 (hr : Rd w w.heap.size A L.flatten) (hO : TellsO (kTab ti) w K cap ord) :
 Calls Tryz.prog (fPutT ti) #[.agg #[.func (.func K) #[] cap], .slice A n c, .agg x.toArray] w (NewT ti w (putG ord L x)) := by
 have HTI := Lib.hid hti
 have HTA : Hid (TIa ti) := Lib.hid (tip_a hti)
 obtain ⟨d, hu0, hd0⟩ := undT ti HTA.out
 have HU := Lib.hid hu0
 have HUS := Lib.hid (undST ti HTA.out)
 have HK := Lib.hid (kT_le ti HTA.out)
 clear hu0 hti
 have hmf : ∀ (fn : Fn) (first cap : Array Value) (w : World), (Instr.makeFunc fn first cap).run Tryz.prog w = .ok (.func fn first cap) w := fun _ _ _ _ => rfl
 obtain ⟨i0, z0, hi0, hz0, hz1, hz2, hz3⟩ := info_thing (infoT ti HTA.out)
 have HSZ : Hid ((Tryz.prog.info? (tTab ti)).map (·.size) = some x.toArray.size) := Lib.hid (by rw [sizeT ti HTA.out, List.size_toArray, hx.length])
 have HLN : Hid (x.length = (kTab ti).length) := Lib.hid (hx.length)
 have HB := Lib.hid (tabW_below w K cap x (bTab ti) (tTab ti))
 have HSB : Hid ((tabW w K cap x (bTab ti) (tTab ti)).heap.size = w.heap.size + 2) := Lib.hid (by simp)
 have hfind := findT _ HTA.out A n c K cap ord x L _ hn (by omega) hL hx ((hr.below HB.out).mono HB.out.size) (hO.later HB.out)
 have HBX : Hid (∀ W, Below (w.heap.size + 2) (tabW w K cap x (bTab ti) (tTab ti)) W → W.heap[w.heap.size + 1]? = some (.cells x.toArray (tTab ti) (0, 0))) := Lib.hid (fun W h => tabW_row h)
 have HBX0 := Lib.hid (HBX.out _ (Below.refl _ _))
 have HN := Lib.hid hn
 have HR := Lib.hid hr
 have HL := Lib.hid hL
 have HX1 := Lib.hid (Things.one hx)
 have HBD : Hid (∀ W, Below (w.heap.size + 2) (tabW w K cap x (bTab ti) (tTab ti)) W → Below w.heap.size w W ∧ w.heap.size + 2 ≤ W.heap.size) := Lib.hid (fun W h => ⟨HB.out.trans (h.mono (by omega)), by have := h.size; rw [HSB.out] at this; exact this⟩)
 cases hF : findG ord L x with
 | some i =>
  have hi : i < L.length := Pl.firstG_lt hF
  rw [hF, firstV_some] at hfind
  have HP := Lib.hid (show putG ord L x = L.take i ++ [x] ++ L.drop (i + 1) from by unfold putG; rw [hF])
  have HF := Lib.hid hfind
  have hin : i < n := by omega
  clear hn hr hF hfind hL hx hO hz2 hz3
  rcases HTI.out with rfl | rfl | rfl
  all_goals
   first
    | go_enter Tryz.func150, Tryz.ntmps150
    | go_enter Tryz.func82, Tryz.ntmps82
    | go_enter Tryz.func93, Tryz.ntmps93
   go_wp2_with (first
    | (refine wpList_load_row rfl (tTab (ixOf HTA)) (.tmp 5) rfl (w.heap.size + 1) rfl _ _ _ _ HBX0.out HU.out (by cases d <;> first | rfl | cases hd0) HSZ.out ?_)
    | fail)
   refine HF.out.mono ?_
   rintro e w1 ⟨rfl, hb1⟩
   rw [HSB.out] at hb1
   have HX := Lib.hid (HBX.out _ hb1)
   obtain ⟨hb2, hs1⟩ := HBD.out _ hb1
   have B1 := Lib.hid hb2
   clear hb1 hb2
   have HSP : Hid (Calls Tryz.prog (fSplice (ixOf HTA)) #[.slice A n c, .int .i64 (i : Int), .int .i64 ((i + 1 : Nat) : Int), .slice (some ⟨w1.heap.size, 0, none⟩) 1 1] (w1.alloc (.cells x.toArray (tTab (ixOf HTA)))) (NewT (ixOf HTA) w (putG ord L x))) := Lib.hid (by
    have B2 := B1.out.alloc B1.out.size (.cells x.toArray (tTab (ixOf HTA)))
    refine (spliceT _ HTI.out A (some ⟨w1.heap.size, 0, none⟩) n c 1 1 i (i + 1) L [x] _ HN.out rfl hnc hc (by omega) (by omega) hsz HL.out HX1.out ((HR.out.below B2).mono B2.size) ((row_one w1 x _).mono (by simp))).mono ?_
    rintro e w2 ⟨A', c', rfl, hown, hb2⟩
    refine ⟨A', _, c', ?_, rfl, ?_, B2.trans (hb2.mono B2.size)⟩
    · rw [HP.out]; simp only [List.length_append, List.length_take, List.length_drop, List.length_cons, List.length_nil]
      have := HN.out
      omega
    · rw [HP.out]; exact own_down hown B2.size)
   rw [show ((i + 1 : Nat) : Int) = (i : Int) + 1 from by omega] at HSP
   go_wp2_with (first
    | (refine wpList_load_row rfl (tTab (ixOf HTA)) (.tmp 5) rfl (w.heap.size + 1) rfl _ _ _ _ HX.out HU.out (by cases d <;> first | rfl | cases hd0) HSZ.out ?_)
    | (refine wpList_buildOne rfl _ (tTab (ixOf HTA)) _ rfl w1.heap.size rfl _ rfl i0 z0 (kTab (ixOf HTA)).length HUS.out hi0 hz0 hz1 HK.out.1 HK.out.2 x (by rfl) HLN.out ?_)
    | fail)
   refine HSP.out.mono ?_
   rintro e w2 ⟨A', n', c', hl, rfl, hown, hb2⟩
   have HO := Lib.hid hown
   have HLE := Lib.hid hl
   have B3 := Lib.hid hb2
   clear hb2 hown hl
   go_wp2_with fail
   go_ret
   exact ⟨A', n', c', HLE.out, rfl, HO.out, B3.out⟩
 | none =>
  rw [hF, firstV_none] at hfind
  have HF := Lib.hid hfind
  have HT : Hid (∀ w1, Below (w.heap.size + 2) (tabW w K cap x (bTab ti) (tTab ti)) w1 →
   Calls Tryz.prog (fFirst ti) #[.slice A n c, .func (.func (fPut1 ti)) #[] #[.pointer (some ⟨w.heap.size, 0, none⟩), .pointer (some ⟨w.heap.size + 1, 0, none⟩)]] w1
    fun e w' => e = .returned (firstV (overG ord L x)) ∧ Below w1.heap.size w1 w') := Lib.hid (fun w1 hb =>
   firstT _ HTA.out A n c _ _ (fun s => decide (0 < ord s x)) L w1 HN.out (by omega) HL.out ((HR.out.below (HBD.out _ hb).1).mono (HBD.out _ hb).1.size) (tellsPutT _ HTI.out w w1 K cap ord x hb hO hx))
  obtain ⟨i, hin, hLi, HQ, hV⟩ : ∃ i, i ≤ n ∧ Hid (putG ord L x = L.take i ++ [x] ++ L.drop i) ∧ Hid ((i = n ∧ overG ord L x = none) ∨ overG ord L x = some i) ∧ True := by
   cases hG : overG ord L x with
   | some i => exact ⟨i, by have := Pl.firstG_lt hG; omega, Lib.hid (by unfold putG; rw [hF]; simp only []; rw [hG]), Lib.hid (.inr rfl), trivial⟩
   | none => exact ⟨n, Nat.le_refl _, Lib.hid (by unfold putG; rw [hF]; simp only []; rw [hG]; rw [hn, List.take_length, List.drop_length, List.append_nil]), Lib.hid (.inl ⟨rfl, rfl⟩), trivial⟩
  clear hn hr hF hfind hL hx hO hz2 hz3
  rcases HTI.out with rfl | rfl | rfl
  all_goals
   first
    | go_enter Tryz.func150, Tryz.ntmps150
    | go_enter Tryz.func82, Tryz.ntmps82
    | go_enter Tryz.func93, Tryz.ntmps93
   go_wp2_with (first
    | (refine wpList_load_row rfl (tTab (ixOf HTA)) (.tmp 5) rfl (w.heap.size + 1) rfl _ _ _ _ HBX0.out HU.out (by cases d <;> first | rfl | cases hd0) HSZ.out ?_)
    | fail)
   refine HF.out.mono ?_
   rintro e w1 ⟨rfl, hb1⟩
   rw [HSB.out] at hb1
   have H1 := Lib.hid hb1
   clear hb1
   go_wp2_with fail
   refine (HT.out w1 H1.out).mono ?_
   rintro e w2 ⟨rfl, hb2⟩
   have H2 := Lib.hid (H1.out.trans (hb2.mono (HBD.out _ H1.out).2))
   clear hb2
   have HX := Lib.hid (HBX.out _ H2.out)
   obtain ⟨hb2, hs2⟩ := HBD.out _ H2.out
   have B2 := Lib.hid hb2
   clear hb2 HT
   have HSP : Hid (Calls Tryz.prog (fSplice (ixOf HTA)) #[.slice A n c, .int .i64 (i : Int), .int .i64 (i : Int), .slice (some ⟨w2.heap.size, 0, none⟩) 1 1] (w2.alloc (.cells x.toArray (tTab (ixOf HTA)))) (NewT (ixOf HTA) w (putG ord L x))) := Lib.hid (by
    have B3 := B2.out.alloc B2.out.size (.cells x.toArray (tTab (ixOf HTA)))
    refine (spliceT _ HTI.out A (some ⟨w2.heap.size, 0, none⟩) n c 1 1 i i L [x] _ HN.out rfl hnc hc (by omega) (by omega) hsz HL.out HX1.out ((HR.out.below B3).mono B3.size) ((row_one w2 x _).mono (by simp))).mono ?_
    rintro e w3 ⟨A', c', rfl, hown, hb3⟩
    refine ⟨A', _, c', ?_, rfl, ?_, B3.trans (hb3.mono B3.size)⟩
    · rw [hLi.out]; simp only [List.length_append, List.length_take, List.length_drop, List.length_cons, List.length_nil]
      have := HN.out
      omega
    · rw [hLi.out]; exact own_down hown B3.size)
   rcases HQ.out with ⟨he, ho⟩ | ho
   · subst he
     rw [ho, firstV_none]
     clear ho HQ
     go_wp2_with (first
      | (refine wpList_load_row rfl (tTab (ixOf HTA)) (.tmp 5) rfl (w.heap.size + 1) rfl _ _ _ _ HX.out HU.out (by cases d <;> first | rfl | cases hd0) HSZ.out ?_)
      | (refine wpList_buildOne rfl _ (tTab (ixOf HTA)) _ rfl w2.heap.size rfl _ rfl i0 z0 (kTab (ixOf HTA)).length HUS.out hi0 hz0 hz1 HK.out.1 HK.out.2 x (by rfl) HLN.out ?_)
      | fail)
     refine HSP.out.mono ?_
     rintro e w3 ⟨A', n', c', hl, rfl, hown, hb4⟩
     have HO := Lib.hid hown
     have HLE := Lib.hid hl
     have B4 := Lib.hid hb4
     clear hb4 hown hl
     go_wp2_with fail
     go_ret
     exact ⟨A', n', c', HLE.out, rfl, HO.out, B4.out⟩
   · rw [ho, firstV_some]
     clear ho HQ
     go_wp2_with (first
      | (refine wpList_load_row rfl (tTab (ixOf HTA)) (.tmp 5) rfl (w.heap.size + 1) rfl _ _ _ _ HX.out HU.out (by cases d <;> first | rfl | cases hd0) HSZ.out ?_)
      | (refine wpList_buildOne rfl _ (tTab (ixOf HTA)) _ rfl w2.heap.size rfl _ rfl i0 z0 (kTab (ixOf HTA)).length HUS.out hi0 hz0 hz1 HK.out.1 HK.out.2 x (by rfl) HLN.out ?_)
      | fail)
     refine HSP.out.mono ?_
     rintro e w3 ⟨A', n', c', hl, rfl, hown, hb4⟩
     have HO := Lib.hid hown
     have HLE := Lib.hid hl
     have B4 := Lib.hid hb4
     clear hb4 hown hl
     go_wp2_with fail
     go_ret
     exact ⟨A', n', c', HLE.out, rfl, HO.out, B4.out⟩
theorem findItem (A : Option Addr) (n c K : Nat) (cap : Array Value) (ord : List Value → List Value → Int) (x : List Value) (L : List (List Value)) (w : World) (hn : n = L.length) (hn63 : n ≤ 1000000) (hL : Things kItem L) (hx : Fits kItem x)
 (hr : Rd w w.heap.size A L.flatten) (hO : TellsO kItem w K cap ord) :
 Calls Tryz.prog 159 #[.agg #[.func (.func K) #[] cap], .slice A n c, .agg x.toArray] w fun e w' => e = .returned (firstV (findG ord L x)) ∧ Below w.heap.size w w' := findT 0 (Or.inl rfl) A n c K cap ord x L w hn hn63 hL hx hr hO
theorem findZone (A : Option Addr) (n c K : Nat) (cap : Array Value) (ord : List Value → List Value → Int) (x : List Value) (L : List (List Value)) (w : World) (hn : n = L.length) (hn63 : n ≤ 1000000) (hL : Things kZone L) (hx : Fits kZone x)
 (hr : Rd w w.heap.size A L.flatten) (hO : TellsO kZone w K cap ord) :
 Calls Tryz.prog 180 #[.agg #[.func (.func K) #[] cap], .slice A n c, .agg x.toArray] w fun e w' => e = .returned (firstV (findG ord L x)) ∧ Below w.heap.size w w' := findT 1 (Or.inr (Or.inl rfl)) A n c K cap ord x L w hn hn63 hL hx hr hO
theorem findBin (A : Option Addr) (n c K : Nat) (cap : Array Value) (ord : List Value → List Value → Int) (x : List Value) (L : List (List Value)) (w : World) (hn : n = L.length) (hn63 : n ≤ 1000000) (hL : Things kBin L) (hx : Fits kBin x)
 (hr : Rd w w.heap.size A L.flatten) (hO : TellsO kBin w K cap ord) :
 Calls Tryz.prog 168 #[.agg #[.func (.func K) #[] cap], .slice A n c, .agg x.toArray] w fun e w' => e = .returned (firstV (findG ord L x)) ∧ Below w.heap.size w w' := findT 2 (Or.inr (Or.inr (Or.inl rfl))) A n c K cap ord x L w hn hn63 hL hx hr hO
theorem findLot (A : Option Addr) (n c K : Nat) (cap : Array Value) (ord : List Value → List Value → Int) (x : List Value) (L : List (List Value)) (w : World) (hn : n = L.length) (hn63 : n ≤ 1000000) (hL : Things kLot L) (hx : Fits kLot x)
 (hr : Rd w w.heap.size A L.flatten) (hO : TellsO kLot w K cap ord) :
 Calls Tryz.prog 182 #[.agg #[.func (.func K) #[] cap], .slice A n c, .agg x.toArray] w fun e w' => e = .returned (firstV (findG ord L x)) ∧ Below w.heap.size w w' := findT 3 (Or.inr (Or.inr (Or.inr (Or.inl rfl)))) A n c K cap ord x L w hn hn63 hL hx hr hO
theorem findQuant (A : Option Addr) (n c K : Nat) (cap : Array Value) (ord : List Value → List Value → Int) (x : List Value) (L : List (List Value)) (w : World) (hn : n = L.length) (hn63 : n ≤ 1000000) (hL : Things kQuant L) (hx : Fits kQuant x)
 (hr : Rd w w.heap.size A L.flatten) (hO : TellsO kQuant w K cap ord) :
 Calls Tryz.prog 148 #[.agg #[.func (.func K) #[] cap], .slice A n c, .agg x.toArray] w fun e w' => e = .returned (firstV (findG ord L x)) ∧ Below w.heap.size w w' := findT 4 (Or.inr (Or.inr (Or.inr (Or.inr (Or.inl rfl))))) A n c K cap ord x L w hn hn63 hL hx hr hO
theorem spliceQuant (A A2 : Option Addr) (n c m c2 i j : Nat) (L X : List (List Value)) (w : World) (hn : n = L.length) (hm : m = X.length) (hnc : n ≤ c) (hc : c ≤ 9223372036854775807) (hij : i ≤ j) (hjn : j ≤ n) (hsz : n + m ≤ 1000000) (hL : Things kQuant L) (hX : Things kQuant X)
 (hr : Rd w w.heap.size A L.flatten) (hr2 : Rd w w.heap.size A2 X.flatten) :
 Calls Tryz.prog 165 #[.slice A n c, .int .i64 (i : Int), .int .i64 (j : Int), .slice A2 m c2] w fun e w' =>
  ∃ A' c', e = .returned (.slice A' (i + m + (n - j)) c') ∧ w'.ownsRow w.heap.size 62 6 (.slice A' (i + m + (n - j)) c') (i + m + (n - j)) (L.take i ++ X ++ L.drop j).flatten ∧ Below w.heap.size w w' := spliceT 4 (Or.inl rfl) A A2 n c m c2 i j L X w hn hm hnc hc hij hjn hsz hL hX hr hr2
theorem putQuant (A : Option Addr) (n c K : Nat) (cap : Array Value) (ord : List Value → List Value → Int) (x : List Value) (L : List (List Value)) (w : World) (hn : n = L.length) (hnc : n ≤ c) (hc : c ≤ 9223372036854775807) (hsz : n + 1 ≤ 1000000) (hL : Things kQuant L) (hx : Fits kQuant x)
 (hr : Rd w w.heap.size A L.flatten) (hO : TellsO kQuant w K cap ord) :
 Calls Tryz.prog 150 #[.agg #[.func (.func K) #[] cap], .slice A n c, .agg x.toArray] w (NewQuant w (putG ord L x)) := putT 4 (Or.inl rfl) A n c K cap ord x L w hn hnc hc hsz hL hx hr hO
theorem findOrder (A : Option Addr) (n c K : Nat) (cap : Array Value) (ord : List Value → List Value → Int) (x : List Value) (L : List (List Value)) (w : World) (hn : n = L.length) (hn63 : n ≤ 1000000) (hL : Things kOrder L) (hx : Fits kOrder x)
 (hr : Rd w w.heap.size A L.flatten) (hO : TellsO kOrder w K cap ord) :
 Calls Tryz.prog 97 #[.agg #[.func (.func K) #[] cap], .slice A n c, .agg x.toArray] w fun e w' => e = .returned (firstV (findG ord L x)) ∧ Below w.heap.size w w' := findT 5 (Or.inr (Or.inr (Or.inr (Or.inr (Or.inr (Or.inl rfl)))))) A n c K cap ord x L w hn hn63 hL hx hr hO
theorem spliceOrder (A A2 : Option Addr) (n c m c2 i j : Nat) (L X : List (List Value)) (w : World) (hn : n = L.length) (hm : m = X.length) (hnc : n ≤ c) (hc : c ≤ 9223372036854775807) (hij : i ≤ j) (hjn : j ≤ n) (hsz : n + m ≤ 1000000) (hL : Things kOrder L) (hX : Things kOrder X)
 (hr : Rd w w.heap.size A L.flatten) (hr2 : Rd w w.heap.size A2 X.flatten) :
 Calls Tryz.prog 112 #[.slice A n c, .int .i64 (i : Int), .int .i64 (j : Int), .slice A2 m c2] w fun e w' =>
  ∃ A' c', e = .returned (.slice A' (i + m + (n - j)) c') ∧ w'.ownsRow w.heap.size 42 50 (.slice A' (i + m + (n - j)) c') (i + m + (n - j)) (L.take i ++ X ++ L.drop j).flatten ∧ Below w.heap.size w w' := spliceT 5 (Or.inr (Or.inl rfl)) A A2 n c m c2 i j L X w hn hm hnc hc hij hjn hsz hL hX hr hr2
theorem putOrder (A : Option Addr) (n c K : Nat) (cap : Array Value) (ord : List Value → List Value → Int) (x : List Value) (L : List (List Value)) (w : World) (hn : n = L.length) (hnc : n ≤ c) (hc : c ≤ 9223372036854775807) (hsz : n + 1 ≤ 1000000) (hL : Things kOrder L) (hx : Fits kOrder x)
 (hr : Rd w w.heap.size A L.flatten) (hO : TellsO kOrder w K cap ord) :
 Calls Tryz.prog 82 #[.agg #[.func (.func K) #[] cap], .slice A n c, .agg x.toArray] w (NewOrder w (putG ord L x)) := putT 5 (Or.inr (Or.inl rfl)) A n c K cap ord x L w hn hnc hc hsz hL hx hr hO
theorem findClaim (A : Option Addr) (n c K : Nat) (cap : Array Value) (ord : List Value → List Value → Int) (x : List Value) (L : List (List Value)) (w : World) (hn : n = L.length) (hn63 : n ≤ 1000000) (hL : Things kClaim L) (hx : Fits kClaim x)
 (hr : Rd w w.heap.size A L.flatten) (hO : TellsO kClaim w K cap ord) :
 Calls Tryz.prog 48 #[.agg #[.func (.func K) #[] cap], .slice A n c, .agg x.toArray] w fun e w' => e = .returned (firstV (findG ord L x)) ∧ Below w.heap.size w w' := findT 6 (Or.inr (Or.inr (Or.inr (Or.inr (Or.inr (Or.inr (rfl))))))) A n c K cap ord x L w hn hn63 hL hx hr hO
theorem holdsClaim (K : Nat) (cap : Array Value) (f : List Value → Bool) (s : List Value) (w : World) (h : TellsF kClaim w K cap f) (hs : Fits kClaim s) :
 Calls Tryz.prog 122 #[.func (.func K) #[] cap, .agg s.toArray] w fun e w' => e = .returned (.bool (f s)) ∧ Below w.heap.size w w' := holdsT 6 (Or.inr (Or.inr (Or.inr (Or.inr (Or.inr (Or.inr (rfl))))))) K cap f s w h hs
theorem spliceClaim (A A2 : Option Addr) (n c m c2 i j : Nat) (L X : List (List Value)) (w : World) (hn : n = L.length) (hm : m = X.length) (hnc : n ≤ c) (hc : c ≤ 9223372036854775807) (hij : i ≤ j) (hjn : j ≤ n) (hsz : n + m ≤ 1000000) (hL : Things kClaim L) (hX : Things kClaim X)
 (hr : Rd w w.heap.size A L.flatten) (hr2 : Rd w w.heap.size A2 X.flatten) :
 Calls Tryz.prog 123 #[.slice A n c, .int .i64 (i : Int), .int .i64 (j : Int), .slice A2 m c2] w fun e w' =>
  ∃ A' c', e = .returned (.slice A' (i + m + (n - j)) c') ∧ w'.ownsRow w.heap.size 46 8 (.slice A' (i + m + (n - j)) c') (i + m + (n - j)) (L.take i ++ X ++ L.drop j).flatten ∧ Below w.heap.size w w' := spliceT 6 (Or.inr (Or.inr (rfl))) A A2 n c m c2 i j L X w hn hm hnc hc hij hjn hsz hL hX hr hr2
theorem putClaim (A : Option Addr) (n c K : Nat) (cap : Array Value) (ord : List Value → List Value → Int) (x : List Value) (L : List (List Value)) (w : World) (hn : n = L.length) (hnc : n ≤ c) (hc : c ≤ 9223372036854775807) (hsz : n + 1 ≤ 1000000) (hL : Things kClaim L) (hx : Fits kClaim x)
 (hr : Rd w w.heap.size A L.flatten) (hO : TellsO kClaim w K cap ord) :
 Calls Tryz.prog 93 #[.agg #[.func (.func K) #[] cap], .slice A n c, .agg x.toArray] w (NewClaim w (putG ord L x)) := putT 6 (Or.inr (Or.inr (rfl))) A n c K cap ord x L w hn hnc hc hsz hL hx hr hO
end Go.Proofs.YtlkmccmbpnbgbaaGreat
