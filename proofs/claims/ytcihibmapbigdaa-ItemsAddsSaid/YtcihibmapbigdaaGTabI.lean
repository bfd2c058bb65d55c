/-
  CONTRACTS of the table's functions, for things of one kind. (By wip/tools/gen_table.py.)
-/
import Derived.Test.YtcihibmapbigdaaGTab
namespace Go.Proofs.Ytcihibmapbigdaa
set_option linter.unusedVariables false
open Go.RowKit
open Pl (firstG firstG_none firstG_some findG overG putG)

set_option maxRecDepth 100000 in
theorem find1Item (bp bq K : Nat) (cap : Array Value) (ord : List Value → List Value → Int) (x s : List Value) (w : World) (hp : w.cell? ⟨bp, 0, none⟩ = some (.func (.func K) #[] cap)) (hq : w.heap[bq]? = some (.cells x.toArray 42 (0, 0))) (lp : bp < w.heap.size) (hO : TellsO kItem w K cap ord) (hx : Fits kItem x) (hs : Fits kItem s) :
    Calls Try.prog 63 #[.agg s.toArray, .pointer (some ⟨bp, 0, none⟩), .pointer (some ⟨bq, 0, none⟩)] w fun e w' => e = .returned (.bool (ord s x == 0)) ∧ Below w.heap.size w w' := by
  have hent := hO.1
  have HT := Lib.hid hO.2
  have hu := Try.underlying42
  have HSZ : Hid (∀ y, Fits kItem y → (Try.prog.info? 42).map (·.size) = some y.toArray.size) := Lib.hid (fun y hy => by rw [show (Try.prog.info? 42).map (·.size) = some 14 from by kernel_rfl, List.size_toArray, hy.length]; rfl)
  have HQ : Hid ((w.alloc (.cells s.toArray 42)).heap[bq]? = some (.cells x.toArray 42 (0, 0))) := Lib.hid ((((Below.refl w.heap.size w).alloc (Nat.le_refl _) _).block _ (lt_of_block hq)).trans hq)
  have HS : Hid ((w.alloc (.cells s.toArray 42)).heap[w.heap.size]? = some (.cells s.toArray 42 (0, 0))) := Lib.hid (heap_alloc_new _ _)
  have HX := Lib.hid hx
  have HE := Lib.hid hs
  clear hO hq hx hs
  go_enter Try.func63, Try.ntmps63
  go_wp2_with (first
    | (refine wpList_load_row rfl 42 (.tmp 3) rfl w.heap.size rfl _ _ _ _ HS.out hu rfl (HSZ.out _ HE.out) ?_)
    | (refine wpList_load_row rfl 42 (.tmp 2) rfl bq rfl _ _ _ _ HQ.out hu rfl (HSZ.out _ HX.out) ?_)
    | fail)
  refine (HT.out _ ((Below.refl _ w).alloc (Nat.le_refl _) _) s x HE.out HX.out).mono ?_
  rintro e w1 ⟨rfl, hb⟩
  have B1 := Lib.hid (((Below.refl _ w).alloc (Nat.le_refl _) (.cells s.toArray 42)).trans (hb.mono (by simp)))
  clear hb
  go_wp2_with fail
  go_ret
  exact ⟨rfl, B1.out⟩

set_option maxRecDepth 100000 in
theorem put1Item (bp bq K : Nat) (cap : Array Value) (ord : List Value → List Value → Int) (x s : List Value) (w : World) (hp : w.cell? ⟨bp, 0, none⟩ = some (.func (.func K) #[] cap)) (hq : w.heap[bq]? = some (.cells x.toArray 42 (0, 0))) (lp : bp < w.heap.size) (hO : TellsO kItem w K cap ord) (hx : Fits kItem x) (hs : Fits kItem s) :
    Calls Try.prog 60 #[.agg s.toArray, .pointer (some ⟨bp, 0, none⟩), .pointer (some ⟨bq, 0, none⟩)] w fun e w' => e = .returned (.bool (decide (0 < ord s x))) ∧ Below w.heap.size w w' := by
  have hent := hO.1
  have HT := Lib.hid hO.2
  have hu := Try.underlying42
  have HSZ : Hid (∀ y, Fits kItem y → (Try.prog.info? 42).map (·.size) = some y.toArray.size) := Lib.hid (fun y hy => by rw [show (Try.prog.info? 42).map (·.size) = some 14 from by kernel_rfl, List.size_toArray, hy.length]; rfl)
  have HQ : Hid ((w.alloc (.cells s.toArray 42)).heap[bq]? = some (.cells x.toArray 42 (0, 0))) := Lib.hid ((((Below.refl w.heap.size w).alloc (Nat.le_refl _) _).block _ (lt_of_block hq)).trans hq)
  have HS : Hid ((w.alloc (.cells s.toArray 42)).heap[w.heap.size]? = some (.cells s.toArray 42 (0, 0))) := Lib.hid (heap_alloc_new _ _)
  have HX := Lib.hid hx
  have HE := Lib.hid hs
  clear hO hq hx hs
  go_enter Try.func60, Try.ntmps60
  go_wp2_with (first
    | (refine wpList_load_row rfl 42 (.tmp 3) rfl w.heap.size rfl _ _ _ _ HS.out hu rfl (HSZ.out _ HE.out) ?_)
    | (refine wpList_load_row rfl 42 (.tmp 2) rfl bq rfl _ _ _ _ HQ.out hu rfl (HSZ.out _ HX.out) ?_)
    | fail)
  refine (HT.out _ ((Below.refl _ w).alloc (Nat.le_refl _) _) s x HE.out HX.out).mono ?_
  rintro e w1 ⟨rfl, hb⟩
  have B1 := Lib.hid (((Below.refl _ w).alloc (Nat.le_refl _) (.cells s.toArray 42)).trans (hb.mono (by simp)))
  clear hb
  go_wp2_with fail
  go_ret
  exact ⟨rfl, B1.out⟩

set_option maxRecDepth 100000 in
theorem holdsIdleItem (p : Addr) (w : World) :
    CallsD Try.prog 71 #[.pointer (some p)] .returning w fun e u' w' => e = .returned (.tuple #[]) ∧ u' = .returning ∧ w' = w := by
  refine callsD_of_wpS Try.func71 rfl fun c₀ cs hu => ?_
  apply wpS_seq
  apply wpS_region
  simp [wpOpsS, go_sem, recoverD, hu, Try.ntmps71, Exit.thenS]
  refine wpS_cond (t := false) (by simp [Act.eval, Array.replicate]) ?_
  simp only [Bool.false_eq_true, if_false]
  refine wpS_of_wp (wp_skip ?_)
  cases c₀
  simp_all [bodyPostS, results, Try.results71]

set_option maxRecDepth 100000 in
theorem holdsItem (K : Nat) (cap : Array Value) (f : List Value → Bool) (s : List Value) (w : World) (h : TellsF kItem w K cap f) (hs : Fits kItem s) :
    Calls Try.prog 66 #[.func (.func K) #[] cap, .agg s.toArray] w fun e w' => e = .returned (.bool (f s)) ∧ Below w.heap.size w w' := by
  have hent := h.1
  have HT := Lib.hid h.2
  have hu := Try.underlying42
  have HSZ : Hid (∀ y, Fits kItem y → (Try.prog.info? 42).map (·.size) = some y.toArray.size) := Lib.hid (fun y hy => by rw [show (Try.prog.info? 42).map (·.size) = some 14 from by kernel_rfl, List.size_toArray, hy.length]; rfl)
  have HS : Hid (((w.alloc (.cells s.toArray 42)).alloc (.cells #[.bool false] 4)).heap[w.heap.size]? = some (.cells s.toArray 42 (0, 0))) := Lib.hid ((Below.heap_alloc _ _ _ (by simp)).trans (heap_alloc_new _ _))
  have HE := Lib.hid hs
  clear h hs
  have hmf : ∀ (fn : Fn) (first cap : Array Value) (w : World), (Instr.makeFunc fn first cap).run Try.prog w = .ok (.func fn first cap) w := fun _ _ _ _ => rfl
  go_enter_defers Try.func66, Try.ntmps66
  go_wp2_with (first
    | (refine wpList_load_row rfl 42 (.tmp 3) rfl w.heap.size rfl _ _ _ _ HS.out hu rfl (HSZ.out _ HE.out) ?_)
    | fail)
  refine (HT.out _ (((Below.refl _ w).alloc (Nat.le_refl _) _).alloc (by simp) _) s HE.out).mono ?_
  rintro e w1 ⟨rfl, hb⟩
  have hc : w1.cell? ⟨w.heap.size + 1, 0, none⟩ = some (.bool false) := (hb.cell (p := ⟨w.heap.size + 1, 0, none⟩) (by simp)).trans (by simp [go_sem])
  have hf : w1.frozen? ⟨w.heap.size + 1, 0, none⟩ = false := (hb.frozen (p := ⟨w.heap.size + 1, 0, none⟩) (by simp)).trans (by simp [go_sem])
  have B1 := Lib.hid ((((Below.refl _ w).alloc (Nat.le_refl _) (.cells s.toArray 42)).alloc (by simp) (.cells #[.bool false] 4)).trans (hb.mono (by simp; omega)))
  have hsz : w.heap.size + 1 < w1.heap.size := by have := hb.size; simp at this; omega
  clear hb
  go_wp2_with fail
  refine leaves_cons (f := 71) (args := #[.pointer (some ⟨w.heap.size + 1, 0, none⟩)]) (by simp) (by simp [go_sem]) ?_
  refine (holdsIdleItem ⟨w.heap.size + 1, 0, none⟩ _).mono ?_
  rintro e u' w'' ⟨rfl, rfl, rfl⟩
  have hs := World.cell?_setCell_same w1 ⟨w.heap.size + 1, 0, none⟩ (.bool (f s)) hc
  simp [Leaves, settle, results, Try.results66, go_sem, hs]
  exact B1.out.setCell (by simp) _
end Go.Proofs.Ytcihibmapbigdaa
