/-
 CONTRACTS of the rows' FindLot and of the references' Day. (By wip/tools/port15.py.)
-/
import Derived.Test.YtnkhnbpopdmkhaaGreatRSite
import Derived.Test.YtnkhnbpopdmkhaaGreatLRFind
import Derived.Deep.CutRange
namespace Go.Proofs.YtnkhnbpopdmkhaaGreat
set_option linter.unusedVariables false
open Go.RowKit
open Pl (firstG findG putG It)

theorem rfindL {h : Hs} {L : Nat → List (List Value)} {w : World} (hh : HT h L w) (s t : ByteArray) : Calls Tryz.prog 75 #[.agg h.cells, .string s, .string t] w fun e w' => e = .returned (.tuple #[.agg (gotL (L 1) s t).toArray, .bool (atL (L 1) s t).isSome]) ∧ Below w.heap.size w w' :=
  rfindl_any h (L 1) s t w (hh 1 (by decide)).1 (hh 1 (by decide)).2.1 (hh 1 (by decide)).2.2.1 (hh 1 (by decide)).2.2.2
/-- A lot's three cells, an item's fourteen. -/
theorem lot_three {h : Hs} {L : Nat → List (List Value)} {w : World} (hh : HT h L w) (s t : ByteArray) : ∃ a c z, gotL (L 1) s t = [.string a, .string c, .int .i64 z] ∧ expL (gotL (L 1) s t) = z :=
  ⟨_, _, _, lot_cells (gotL_fits (hh 1 (by decide)).2.2.1 s t), rfl⟩

set_option maxRecDepth 100000 in
theorem rday_any (h : Hs) (L : Nat → List (List Value)) (s t : ByteArray) (w : World) (hh : HT h L w) : Calls Tryz.prog 48 #[.agg h.cells, .string s, .string t] w fun e w' => e = .returned (.int .i64 (dayZ (L 1) s t)) ∧ Below w.heap.size w w' := by
  obtain ⟨a, c, z, hg, hz⟩ := lot_three hh s t
  have HFL := Lib.hid (fun W (hW : Below w.heap.size w W) => rfindL (hh.below hW) s t)
  have HDZ : Hid (dayZ (L 1) s t = if z = 0 then 100001 else z) := Lib.hid (by unfold dayZ; rw [hz])
  rw [hg] at HFL
  obtain ⟨b, hb⟩ : ∃ b, (atL (L 1) s t).isSome = b := ⟨_, rfl⟩
  rw [hb] at HFL
  obtain ⟨d, hd⟩ : ∃ d, dayZ (L 1) s t = d := ⟨_, rfl⟩
  rw [hd] at HDZ ⊢
  clear hb hd hg hz hh
  have huh := Tryz.underlying37
  have HSH : Hid (∀ a : Hs, (Tryz.prog.info? 37).map (·.size) = some a.cells.size) := Lib.hid (fun a => by kernel_rfl)
  have HB0 : Hid (Below w.heap.size w (w.alloc (.cells h.cells 37))) := Lib.hid ((Below.refl _ _).alloc (Nat.le_refl _) _)
  have HH0 : Hid ((w.alloc (.cells h.cells 37)).heap[w.heap.size]? = some (.cells h.cells 37 (0, 0))) := Lib.hid (heap_alloc_new _ _)
  go_enter Tryz.func48, Tryz.ntmps48
  go_wp2_with (first
    | (refine wpList_load_row rfl 37 (.tmp 3) rfl w.heap.size rfl _ _ _ _ HH0.out huh rfl (HSH.out _) ?_)
    | fail)
  refine (HFL.out _ HB0.out).mono ?_
  rintro e w1 ⟨rfl, hb1⟩
  have B1 : Hid (Below w.heap.size w (w1.alloc (.cells #[.string a, .string c, .int .i64 z] 71))) := Lib.hid ((HB0.out.trans (hb1.mono HB0.out.size)).alloc (HB0.out.trans (hb1.mono HB0.out.size)).size _)
  clear hb1
  by_cases hz : z = 0
  · have HE : Hid (d = 100001) := Lib.hid (by rw [HDZ.out, if_pos hz])
    subst hz
    go_wp2_with fail
    go_ret
    exact ⟨by rw [HE.out]; rfl, B1.out⟩
  · have HE : Hid (d = z) := Lib.hid (by rw [HDZ.out, if_neg hz])
    go_wp2_with fail
    go_ret
    exact ⟨by rw [HE.out]; rfl, B1.out⟩

end Go.Proofs.YtnkhnbpopdmkhaaGreat
