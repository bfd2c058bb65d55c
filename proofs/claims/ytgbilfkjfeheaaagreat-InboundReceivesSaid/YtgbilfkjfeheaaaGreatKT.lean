/-
 CONTRACTS of the table's closures, for any things. (By wip/tools/gen_ktab.py.)
-/
import Derived.Test.YtgbilfkjfeheaaaGreatGT
import Derived.Test.YtgbilfkjfeheaaaGreatHHouse
import Derived.Defers
import Derived.Recover
import Derived.Laws.MakeOwn
import Derived.Laws.Rows
namespace Go.Proofs.YtgbilfkjfeheaaaGreat
set_option linter.unusedVariables false
open Go.RowKit
open Pl (firstG firstG_none firstG_some findG overG putG)

def TIa (ti : Nat) : Prop := ti = 0 ∨ ti = 1 ∨ ti = 2 ∨ ti = 3 ∨ ti = 4 ∨ ti = 5 ∨ ti = 6
def TIp (ti : Nat) : Prop := ti = 4 ∨ ti = 5 ∨ ti = 6
theorem tip_a {ti : Nat} (h : TIp ti) : TIa ti := by unfold TIp at h; unfold TIa; omega
abbrev ixOf {ti : Nat} (_ : Hid (TIa ti)) : Nat := ti
def tTab : Nat → TypeId
 | 0 => 87
 | 1 => 93
 | 2 => 64
 | 3 => 90
 | 4 => 42
 | 5 => 71
 | 6 => 75
 | _ => 0
def sTab : Nat → TypeId
 | 0 => 22
 | 1 => 24
 | 2 => 25
 | 3 => 23
 | 4 => 28
 | 5 => 26
 | 6 => 35
 | _ => 0
def bTab : Nat → TypeId
 | 0 => 175
 | 1 => 241
 | 2 => 163
 | 3 => 263
 | 4 => 168
 | 5 => 224
 | 6 => 189
 | _ => 0
def kTab : Nat → List CK
 | 0 => kItem
 | 1 => kZone
 | 2 => kBin
 | 3 => kLot
 | 4 => kNotice
 | 5 => kQuant
 | 6 => kTotal
 | _ => []
def zTab (ti : Nat) : List Value := (kTab ti).map fun | .s => .string ⟨#[]⟩ | .i => .int .i64 0 | .b => .bool false
theorem zTab_len (ti : Nat) : (zTab ti).length = (kTab ti).length := List.length_map _
def fFind1 : Nat → FuncId
 | 0 => 144
 | 1 => 198
 | 2 => 133
 | 3 => 215
 | 4 => 181
 | 5 => 187
 | 6 => 158
 | _ => 0
def fHoldsI : Nat → FuncId
 | 0 => 202
 | 1 => 219
 | 2 => 200
 | 3 => 223
 | 4 => 201
 | 5 => 216
 | 6 => 206
 | _ => 0
def fHolds : Nat → FuncId
 | 0 => 183
 | 1 => 212
 | 2 => 179
 | 3 => 220
 | 4 => 182
 | 5 => 205
 | 6 => 190
 | _ => 0
def fFirst : Nat → FuncId
 | 0 => 143
 | 1 => 197
 | 2 => 132
 | 3 => 214
 | 4 => 139
 | 5 => 186
 | 6 => 157
 | _ => 0
def fFindT : Nat → FuncId
 | 0 => 101
 | 1 => 175
 | 2 => 89
 | 3 => 204
 | 4 => 136
 | 5 => 152
 | 6 => 111
 | _ => 0
def fSplice : Nat → FuncId
 | 4 => 138
 | 5 => 188
 | 6 => 159
 | _ => 0
def fPut1 : Nat → FuncId
 | 4 => 140
 | 5 => 189
 | 6 => 160
 | _ => 0
def fPutT : Nat → FuncId
 | 4 => 94
 | 5 => 154
 | 6 => 112
 | _ => 0
theorem undT (ti : Nat) (hti : TIa ti) : ∃ d, Tryz.prog.underlying (tTab ti) = some d ∧ d.isRow = true := by
 rcases hti with rfl | rfl | rfl | rfl | rfl | rfl | rfl
 · exact ⟨_, Tryz.underlying87, rfl⟩
 · exact ⟨_, Tryz.underlying93, rfl⟩
 · exact ⟨_, Tryz.underlying64, rfl⟩
 · exact ⟨_, Tryz.underlying90, rfl⟩
 · exact ⟨_, Tryz.underlying42, rfl⟩
 · exact ⟨_, Tryz.underlying71, rfl⟩
 · exact ⟨_, Tryz.underlying75, rfl⟩
theorem undST (ti : Nat) (hti : TIa ti) : Tryz.prog.underlying (sTab ti) = some (.slice (tTab ti)) := by
 rcases hti with rfl | rfl | rfl | rfl | rfl | rfl | rfl
 · exact Tryz.underlying22
 · exact Tryz.underlying24
 · exact Tryz.underlying25
 · exact Tryz.underlying23
 · exact Tryz.underlying28
 · exact Tryz.underlying26
 · exact Tryz.underlying35
theorem infoT (ti : Nat) (hti : TIa ti) : (Tryz.prog.info? (tTab ti)).map (fun x => (x.size, x.zero.map (·.cells.size), decide (x.bytes ≤ 1000))) = some ((kTab ti).length, some (kTab ti).length, true) := by
 rcases hti with rfl | rfl | rfl | rfl | rfl | rfl | rfl <;> (show _ = _; kernel_rfl)
theorem sizeT (ti : Nat) (hti : TIa ti) : (Tryz.prog.info? (tTab ti)).map (·.size) = some (kTab ti).length := by
 rcases hti with rfl | rfl | rfl | rfl | rfl | rfl | rfl <;> (show _ = _; kernel_rfl)
theorem kT_le (ti : Nat) (hti : TIa ti) : 1 ≤ (kTab ti).length ∧ (kTab ti).length ≤ 1000 := by
 rcases hti with rfl | rfl | rfl | rfl | rfl | rfl | rfl <;> decide
def NewT (ti : Nat) (w : World) (L : List (List Value)) (e : Ending) (w' : World) : Prop :=
 ∃ A n c, n = L.length ∧ e = .returned (.slice A n c) ∧ w'.ownsRow w.heap.size (tTab ti) (kTab ti).length (.slice A n c) n L.flatten ∧ Below w.heap.size w w'

set_option maxRecDepth 100000 in
set_option linter.unusedSimpArgs false in
set_option maxHeartbeats 6400000 in
theorem find1T (ti : Nat) (hti : TIa ti) (bp bq K : Nat) (cap : Array Value) (ord : List Value → List Value → Int) (x s : List Value) (w : World) (hp : w.cell? ⟨bp, 0, none⟩ = some (.func (.func K) #[] cap)) (hq : w.heap[bq]? = some (.cells x.toArray (tTab ti) (0, 0))) (lp : bp < w.heap.size) (hO : TellsO (kTab ti) w K cap ord) (hx : Fits (kTab ti) x) (hs : Fits (kTab ti) s) :
 Calls Tryz.prog (fFind1 ti) #[.agg s.toArray, .pointer (some ⟨bp, 0, none⟩), .pointer (some ⟨bq, 0, none⟩)] w fun e w' => e = .returned (.bool (ord s x == 0)) ∧ Below w.heap.size w w' := by
 have HTI := Lib.hid hti
 have HTA : Hid (TIa ti) := Lib.hid hti
 obtain ⟨d, hu0, hd0⟩ := undT ti HTA.out
 have HU := Lib.hid hu0
 have HUS := Lib.hid (undST ti HTA.out)
 have HK := Lib.hid (kT_le ti HTA.out)
 clear hu0 hti
 have hent := hO.1
 have HT := Lib.hid hO.2
 have HSZ : Hid (∀ y, Fits (kTab ti) y → (Tryz.prog.info? (tTab ti)).map (·.size) = some y.toArray.size) := Lib.hid (fun y hy => by rw [sizeT ti HTA.out, List.size_toArray, hy.length])
 have HQ : Hid ((w.alloc (.cells s.toArray (tTab ti))).heap[bq]? = some (.cells x.toArray (tTab ti) (0, 0))) := Lib.hid ((((Below.refl w.heap.size w).alloc (Nat.le_refl _) _).block _ (lt_of_block hq)).trans hq)
 have HS : Hid ((w.alloc (.cells s.toArray (tTab ti))).heap[w.heap.size]? = some (.cells s.toArray (tTab ti) (0, 0))) := Lib.hid (heap_alloc_new _ _)
 have HX := Lib.hid hx
 have HE := Lib.hid hs
 clear hO hq hx hs
 rcases HTI.out with rfl | rfl | rfl | rfl | rfl | rfl | rfl
 all_goals
  first
   | go_enter Tryz.func144, Tryz.ntmps144
   | go_enter Tryz.func198, Tryz.ntmps198
   | go_enter Tryz.func133, Tryz.ntmps133
   | go_enter Tryz.func215, Tryz.ntmps215
   | go_enter Tryz.func181, Tryz.ntmps181
   | go_enter Tryz.func187, Tryz.ntmps187
   | go_enter Tryz.func158, Tryz.ntmps158
  go_wp2_with (first
   | (refine wpList_load_row rfl (tTab (ixOf HTA)) (.tmp 3) rfl w.heap.size rfl _ _ _ _ HS.out HU.out (by cases d <;> first | rfl | cases hd0) (HSZ.out _ HE.out) ?_)
   | (refine wpList_load_row rfl (tTab (ixOf HTA)) (.tmp 2) rfl bq rfl _ _ _ _ HQ.out HU.out (by cases d <;> first | rfl | cases hd0) (HSZ.out _ HX.out) ?_)
   | fail)
  refine (HT.out _ ((Below.refl _ w).alloc (Nat.le_refl _) _) s x HE.out HX.out).mono ?_
  rintro e w1 ⟨rfl, hb⟩
  have B1 := Lib.hid (((Below.refl _ w).alloc (Nat.le_refl _) (.cells s.toArray (tTab (ixOf HTA)))).trans (hb.mono (by simp)))
  clear hb
  go_wp2_with fail
  go_ret
  exact ⟨rfl, B1.out⟩

set_option maxRecDepth 100000 in
set_option linter.unusedSimpArgs false in
theorem holdsIdleT (ti : Nat) (hti : TIa ti) (p : Addr) (w : World) :
 CallsD Tryz.prog (fHoldsI ti) #[.pointer (some p)] .returning w fun e u' w' => e = .returned (.tuple #[]) ∧ u' = .returning ∧ w' = w := by
 rcases hti with rfl | rfl | rfl | rfl | rfl | rfl | rfl
 all_goals
  first
   | refine callsD_of_wpS Tryz.func202 rfl fun c₀ cs hu => ?_
   | refine callsD_of_wpS Tryz.func219 rfl fun c₀ cs hu => ?_
   | refine callsD_of_wpS Tryz.func200 rfl fun c₀ cs hu => ?_
   | refine callsD_of_wpS Tryz.func223 rfl fun c₀ cs hu => ?_
   | refine callsD_of_wpS Tryz.func201 rfl fun c₀ cs hu => ?_
   | refine callsD_of_wpS Tryz.func216 rfl fun c₀ cs hu => ?_
   | refine callsD_of_wpS Tryz.func206 rfl fun c₀ cs hu => ?_
  apply wpS_seq
  apply wpS_region
  simp [wpOpsS, go_sem, recoverD, hu, Tryz.ntmps202, Tryz.ntmps219, Tryz.ntmps200, Tryz.ntmps223, Tryz.ntmps201, Tryz.ntmps216, Tryz.ntmps206, Exit.thenS]
  refine wpS_cond (t := false) (by simp [Act.eval, Array.replicate]) ?_
  simp only [Bool.false_eq_true, if_false]
  refine wpS_of_wp (wp_skip ?_)
  cases c₀
  simp_all [bodyPostS, results, Tryz.results202, Tryz.results219, Tryz.results200, Tryz.results223, Tryz.results201, Tryz.results216, Tryz.results206]

set_option maxRecDepth 100000 in
set_option linter.unusedSimpArgs false in
set_option maxHeartbeats 6400000 in
theorem holdsT (ti : Nat) (hti : TIa ti) (K : Nat) (cap : Array Value) (f : List Value → Bool) (s : List Value) (w : World) (h : TellsF (kTab ti) w K cap f) (hs : Fits (kTab ti) s) :
 Calls Tryz.prog (fHolds ti) #[.func (.func K) #[] cap, .agg s.toArray] w fun e w' => e = .returned (.bool (f s)) ∧ Below w.heap.size w w' := by
 have HTI := Lib.hid hti
 have HTA : Hid (TIa ti) := Lib.hid hti
 obtain ⟨d, hu0, hd0⟩ := undT ti HTA.out
 have HU := Lib.hid hu0
 have HUS := Lib.hid (undST ti HTA.out)
 have HK := Lib.hid (kT_le ti HTA.out)
 clear hu0 hti
 have hent := h.1
 have HT := Lib.hid h.2
 have HSZ : Hid (∀ y, Fits (kTab ti) y → (Tryz.prog.info? (tTab ti)).map (·.size) = some y.toArray.size) := Lib.hid (fun y hy => by rw [sizeT ti HTA.out, List.size_toArray, hy.length])
 have HS : Hid (((w.alloc (.cells s.toArray (tTab ti))).alloc (.cells #[.bool false] 4)).heap[w.heap.size]? = some (.cells s.toArray (tTab ti) (0, 0))) := Lib.hid ((Below.heap_alloc _ _ _ (by simp)).trans (heap_alloc_new _ _))
 have HE := Lib.hid hs
 clear h hs
 have hmf : ∀ (fn : Fn) (first cap : Array Value) (w : World), (Instr.makeFunc fn first cap).run Tryz.prog w = .ok (.func fn first cap) w := fun _ _ _ _ => rfl
 rcases HTI.out with rfl | rfl | rfl | rfl | rfl | rfl | rfl
 all_goals
  first
   | go_enter_defers Tryz.func183, Tryz.ntmps183
   | go_enter_defers Tryz.func212, Tryz.ntmps212
   | go_enter_defers Tryz.func179, Tryz.ntmps179
   | go_enter_defers Tryz.func220, Tryz.ntmps220
   | go_enter_defers Tryz.func182, Tryz.ntmps182
   | go_enter_defers Tryz.func205, Tryz.ntmps205
   | go_enter_defers Tryz.func190, Tryz.ntmps190
  go_wp2_with (first
   | (refine wpList_load_row rfl (tTab (ixOf HTA)) (.tmp 3) rfl w.heap.size rfl _ _ _ _ HS.out HU.out (by cases d <;> first | rfl | cases hd0) (HSZ.out _ HE.out) ?_)
   | fail)
  refine (HT.out _ (((Below.refl _ w).alloc (Nat.le_refl _) _).alloc (by simp) _) s HE.out).mono ?_
  rintro e w1 ⟨rfl, hb⟩
  have hc : w1.cell? ⟨w.heap.size + 1, 0, none⟩ = some (.bool false) := (hb.cell (p := ⟨w.heap.size + 1, 0, none⟩) (by simp)).trans (by simp [go_sem])
  have hf : w1.frozen? ⟨w.heap.size + 1, 0, none⟩ = false := (hb.frozen (p := ⟨w.heap.size + 1, 0, none⟩) (by simp)).trans (by simp [go_sem])
  have B1 := Lib.hid ((((Below.refl _ w).alloc (Nat.le_refl _) (.cells s.toArray (tTab (ixOf HTA)))).alloc (by simp) (.cells #[.bool false] 4)).trans (hb.mono (by simp; omega)))
  have hsz : w.heap.size + 1 < w1.heap.size := by have := hb.size; simp at this; omega
  clear hb
  go_wp2_with fail
  first
   | (refine leaves_cons (f := 202) (args := #[.pointer (some ⟨w.heap.size + 1, 0, none⟩)]) (by simp) ?hh ?_; case hh => (simp [go_sem]; done))
   | (refine leaves_cons (f := 219) (args := #[.pointer (some ⟨w.heap.size + 1, 0, none⟩)]) (by simp) ?hh ?_; case hh => (simp [go_sem]; done))
   | (refine leaves_cons (f := 200) (args := #[.pointer (some ⟨w.heap.size + 1, 0, none⟩)]) (by simp) ?hh ?_; case hh => (simp [go_sem]; done))
   | (refine leaves_cons (f := 223) (args := #[.pointer (some ⟨w.heap.size + 1, 0, none⟩)]) (by simp) ?hh ?_; case hh => (simp [go_sem]; done))
   | (refine leaves_cons (f := 201) (args := #[.pointer (some ⟨w.heap.size + 1, 0, none⟩)]) (by simp) ?hh ?_; case hh => (simp [go_sem]; done))
   | (refine leaves_cons (f := 216) (args := #[.pointer (some ⟨w.heap.size + 1, 0, none⟩)]) (by simp) ?hh ?_; case hh => (simp [go_sem]; done))
   | (refine leaves_cons (f := 206) (args := #[.pointer (some ⟨w.heap.size + 1, 0, none⟩)]) (by simp) ?hh ?_; case hh => (simp [go_sem]; done))
  refine (holdsIdleT _ HTA.out ⟨w.heap.size + 1, 0, none⟩ _).mono ?_
  rintro e u' w'' ⟨rfl, rfl, rfl⟩
  have hs := World.cell?_setCell_same w1 ⟨w.heap.size + 1, 0, none⟩ (.bool (f s)) hc
  simp [Leaves, settle, results, Tryz.results183, Tryz.results212, Tryz.results179, Tryz.results220, Tryz.results182, Tryz.results205, Tryz.results190, go_sem, hs]
  exact B1.out.setCell (by simp) _
set_option maxRecDepth 100000 in
set_option linter.unusedSimpArgs false in
set_option maxHeartbeats 6400000 in
theorem put1T (ti : Nat) (hti : TIp ti) (bp bq K : Nat) (cap : Array Value) (ord : List Value → List Value → Int) (x s : List Value) (w : World) (hp : w.cell? ⟨bp, 0, none⟩ = some (.func (.func K) #[] cap)) (hq : w.heap[bq]? = some (.cells x.toArray (tTab ti) (0, 0))) (lp : bp < w.heap.size) (hO : TellsO (kTab ti) w K cap ord) (hx : Fits (kTab ti) x) (hs : Fits (kTab ti) s) :
 Calls Tryz.prog (fPut1 ti) #[.agg s.toArray, .pointer (some ⟨bp, 0, none⟩), .pointer (some ⟨bq, 0, none⟩)] w fun e w' => e = .returned (.bool (decide (0 < ord s x))) ∧ Below w.heap.size w w' := by
 have HTI := Lib.hid hti
 have HTA : Hid (TIa ti) := Lib.hid (tip_a hti)
 obtain ⟨d, hu0, hd0⟩ := undT ti HTA.out
 have HU := Lib.hid hu0
 have HUS := Lib.hid (undST ti HTA.out)
 have HK := Lib.hid (kT_le ti HTA.out)
 clear hu0 hti
 have hent := hO.1
 have HT := Lib.hid hO.2
 have HSZ : Hid (∀ y, Fits (kTab ti) y → (Tryz.prog.info? (tTab ti)).map (·.size) = some y.toArray.size) := Lib.hid (fun y hy => by rw [sizeT ti HTA.out, List.size_toArray, hy.length])
 have HQ : Hid ((w.alloc (.cells s.toArray (tTab ti))).heap[bq]? = some (.cells x.toArray (tTab ti) (0, 0))) := Lib.hid ((((Below.refl w.heap.size w).alloc (Nat.le_refl _) _).block _ (lt_of_block hq)).trans hq)
 have HS : Hid ((w.alloc (.cells s.toArray (tTab ti))).heap[w.heap.size]? = some (.cells s.toArray (tTab ti) (0, 0))) := Lib.hid (heap_alloc_new _ _)
 have HX := Lib.hid hx
 have HE := Lib.hid hs
 clear hO hq hx hs
 rcases HTI.out with rfl | rfl | rfl
 all_goals
  first
   | go_enter Tryz.func140, Tryz.ntmps140
   | go_enter Tryz.func189, Tryz.ntmps189
   | go_enter Tryz.func160, Tryz.ntmps160
  go_wp2_with (first
   | (refine wpList_load_row rfl (tTab (ixOf HTA)) (.tmp 3) rfl w.heap.size rfl _ _ _ _ HS.out HU.out (by cases d <;> first | rfl | cases hd0) (HSZ.out _ HE.out) ?_)
   | (refine wpList_load_row rfl (tTab (ixOf HTA)) (.tmp 2) rfl bq rfl _ _ _ _ HQ.out HU.out (by cases d <;> first | rfl | cases hd0) (HSZ.out _ HX.out) ?_)
   | fail)
  refine (HT.out _ ((Below.refl _ w).alloc (Nat.le_refl _) _) s x HE.out HX.out).mono ?_
  rintro e w1 ⟨rfl, hb⟩
  have B1 := Lib.hid (((Below.refl _ w).alloc (Nat.le_refl _) (.cells s.toArray (tTab (ixOf HTA)))).trans (hb.mono (by simp)))
  clear hb
  go_wp2_with fail
  go_ret
  exact ⟨rfl, B1.out⟩

end Go.Proofs.YtgbilfkjfeheaaaGreat
