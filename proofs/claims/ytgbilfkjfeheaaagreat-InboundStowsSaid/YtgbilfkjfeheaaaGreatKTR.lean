/-
 CONTRACTS of the table's closures, for rules. (By wip/tools/port14c.py.)
-/
import Derived.Test.YtgbilfkjfeheaaaGreatKT
namespace Go.Proofs.YtgbilfkjfeheaaaGreat
set_option linter.unusedVariables false
open Go.RowKit
set_option linter.unusedVariables false
open Go.RowKit
open Pl (firstG firstG_none firstG_some findG overG putG)

set_option maxRecDepth 100000 in
theorem holdsIdleRule (p : Addr) (w : World) :
 CallsD Tryz.prog 207 #[.pointer (some p)] .returning w fun e u' w' => e = .returned (.tuple #[]) ∧ u' = .returning ∧ w' = w := by
 refine callsD_of_wpS Tryz.func207 rfl fun c₀ cs hu => ?_
 apply wpS_seq
 apply wpS_region
 simp [wpOpsS, go_sem, recoverD, hu, Tryz.ntmps207, Exit.thenS]
 refine wpS_cond (t := false) (by simp [Act.eval, Array.replicate]) ?_
 simp only [Bool.false_eq_true, if_false]
 refine wpS_of_wp (wp_skip ?_)
 cases c₀
 simp_all [bodyPostS, results, Tryz.results207]

set_option maxRecDepth 100000 in
theorem holdsRule (K : Nat) (cap : Array Value) (f : List Value → Bool) (s : List Value) (w : World) (h : TellsF kRule w K cap f) (hs : Fits kRule s) :
 Calls Tryz.prog 192 #[.func (.func K) #[] cap, .agg s.toArray] w fun e w' => e = .returned (.bool (f s)) ∧ Below w.heap.size w w' := by
 have hent := h.1
 have HT := Lib.hid h.2
 have hu := Tryz.underlying98
 have HSZ : Hid (∀ y, Fits kRule y → (Tryz.prog.info? 98).map (·.size) = some y.toArray.size) := Lib.hid (fun y hy => by rw [show (Tryz.prog.info? 98).map (·.size) = some 3 from by kernel_rfl, List.size_toArray, hy.length]; rfl)
 have HS : Hid (((w.alloc (.cells s.toArray 98)).alloc (.cells #[.bool false] 4)).heap[w.heap.size]? = some (.cells s.toArray 98 (0, 0))) := Lib.hid ((Below.heap_alloc _ _ _ (by simp)).trans (heap_alloc_new _ _))
 have HE := Lib.hid hs
 clear h hs
 have hmf : ∀ (fn : Fn) (first cap : Array Value) (w : World), (Instr.makeFunc fn first cap).run Tryz.prog w = .ok (.func fn first cap) w := fun _ _ _ _ => rfl
 go_enter_defers Tryz.func192, Tryz.ntmps192
 go_wp2_with (first
  | (refine wpList_load_row rfl 98 (.tmp 3) rfl w.heap.size rfl _ _ _ _ HS.out hu rfl (HSZ.out _ HE.out) ?_)
  | fail)
 refine (HT.out _ (((Below.refl _ w).alloc (Nat.le_refl _) _).alloc (by simp) _) s HE.out).mono ?_
 rintro e w1 ⟨rfl, hb⟩
 have hc : w1.cell? ⟨w.heap.size + 1, 0, none⟩ = some (.bool false) := (hb.cell (p := ⟨w.heap.size + 1, 0, none⟩) (by simp)).trans (by simp [go_sem])
 have hf : w1.frozen? ⟨w.heap.size + 1, 0, none⟩ = false := (hb.frozen (p := ⟨w.heap.size + 1, 0, none⟩) (by simp)).trans (by simp [go_sem])
 have B1 := Lib.hid ((((Below.refl _ w).alloc (Nat.le_refl _) (.cells s.toArray 98)).alloc (by simp) (.cells #[.bool false] 4)).trans (hb.mono (by simp; omega)))
 have hsz : w.heap.size + 1 < w1.heap.size := by have := hb.size; simp at this; omega
 clear hb
 go_wp2_with fail
 refine leaves_cons (f := 207) (args := #[.pointer (some ⟨w.heap.size + 1, 0, none⟩)]) (by simp) (by simp [go_sem]) ?_
 refine (holdsIdleRule ⟨w.heap.size + 1, 0, none⟩ _).mono ?_
 rintro e u' w'' ⟨rfl, rfl, rfl⟩
 have hs := World.cell?_setCell_same w1 ⟨w.heap.size + 1, 0, none⟩ (.bool (f s)) hc
 simp [Leaves, settle, results, Tryz.results192, go_sem, hs]
 exact B1.out.setCell (by simp) _
end Go.Proofs.YtgbilfkjfeheaaaGreat
