/-
 CONTRACTS of the rows' FindZone, FindBin, FindLot, of the references' Site and Day. (By wip/tools/port15.py.)
-/
import Derived.Test.YtnkhnbpopdmkhaaGreatOFind
import Derived.Deep.CutRange
namespace Go.Proofs.YtnkhnbpopdmkhaaGreat
set_option linter.unusedVariables false
open Go.RowKit
open Pl (firstG findG putG It)

theorem frZone {h : Hs} {L : Nat → List (List Value)} {w : World} (hh : HT h L w) (s : ByteArray) : Calls Tryz.prog 74 #[.agg h.cells, .string s] w fun e w' => e = .returned (.tuple #[.agg (gotZone (L 2) s).toArray, .bool (atZone (L 2) s).isSome]) ∧ Below w.heap.size w w' :=
 rfindZone h (L 2) s w (hh 2 (by decide)).1 (hh 2 (by decide)).2.1 (hh 2 (by decide)).2.2.1 (hh 2 (by decide)).2.2.2
theorem frBin {h : Hs} {L : Nat → List (List Value)} {w : World} (hh : HT h L w) (s : ByteArray) : Calls Tryz.prog 46 #[.agg h.cells, .string s] w fun e w' => e = .returned (.tuple #[.agg (gotBin (L 3) s).toArray, .bool (atBin (L 3) s).isSome]) ∧ Below w.heap.size w w' :=
 rfindBin h (L 3) s w (hh 3 (by decide)).1 (hh 3 (by decide)).2.1 (hh 3 (by decide)).2.2.1 (hh 3 (by decide)).2.2.2
set_option maxRecDepth 100000 in
set_option maxHeartbeats 3200000 in
theorem rsite_any (h : Hs) (L : Nat → List (List Value)) (s : ByteArray) (w : World) (hh : HT h L w) :
 Calls Tryz.prog 47 #[.agg h.cells, .string s] w fun e w' => e = .returned (.string (siteT (L 2) (L 3) s)) ∧ Below w.heap.size w w' := by
 obtain ⟨y, hy, hyb⟩ := bin_eight hh s
 obtain ⟨ga, gb, hg, hgs⟩ := zone_two hh y.zone
 have HFB := Lib.hid (fun W (hW : Below w.heap.size w W) => frBin (hh.below hW) s)
 have HFZ := Lib.hid (fun W (hW : Below w.heap.size w W) => frZone (hh.below hW) y.zone)
 obtain ⟨il, hil⟩ : ∃ q, (atBin (L 3) s).isSome = q := ⟨_, rfl⟩
 obtain ⟨iz, hiz⟩ : ∃ q, (atZone (L 2) y.zone).isSome = q := ⟨_, rfl⟩
 obtain ⟨r, hr⟩ : ∃ r, siteT (L 2) (L 3) s = r := ⟨_, rfl⟩
 have HA : Hid (r = if il = true then gb else ⟨#[]⟩) := Lib.hid (by rw [← hr]; unfold siteT; rw [hil, hyb, hgs])
 rw [hy, hil] at HFB
 unfold Bn.cells at HFB
 rw [hg, hiz] at HFZ
 rw [hr]
 clear hr hil hiz hy hyb hg hgs
 obtain ⟨W0, hW0⟩ : ∃ W0, W0 = (w.alloc (.cells h.cells 37)) := ⟨_, rfl⟩
 have hb0 : Below w.heap.size w W0 := by rw [hW0]; exact (Below.refl _ _).alloc (Nat.le_refl _) _
 have hs0 : W0.heap.size = w.heap.size + 1 := by rw [hW0]; simp
 have HH : Hid (∀ W, Below W0.heap.size W0 W → W.heap[w.heap.size]? = some (.cells h.cells 37 (0, 0))) := Lib.hid (fun W hW => (hW.block _ (by omega)).trans (by
  rw [hW0]
  have hq := heap_alloc_new w (.cells h.cells 37)
  exact (by simpa using hq)))
 have HBW : Hid (∀ W, Below W0.heap.size W0 W → Below w.heap.size w W ∧ w.heap.size + 1 ≤ W.heap.size) := Lib.hid (fun W hW => ⟨hb0.trans (hW.mono (by omega)), by have := hW.size; omega⟩)
 have huh := Tryz.underlying37
 have HSH : Hid (∀ a : Hs, (Tryz.prog.info? 37).map (·.size) = some a.cells.size) := Lib.hid (fun a => by kernel_rfl)
 have H0 := Lib.hid (Below.refl W0.heap.size W0)
 clear hb0 hs0 hh
 subst hW0
 go_enter Tryz.func47, Tryz.ntmps47
 go_wp2_with (first
  | (refine wpList_load_row rfl 37 (.tmp 2) rfl w.heap.size rfl _ _ _ _ (HH.out _ H0.out) huh rfl (HSH.out _) ?_)
  | fail)
 refine (HFB.out _ (HBW.out _ H0.out).1).mono ?_
 rintro e w1 ⟨rfl, hb1⟩
 have H1 := Lib.hid (H0.out.trans (hb1.mono H0.out.size))
 clear hb1
 have H2 := Lib.hid (H1.out.alloc H1.out.size (.cells #[.string y.code, .string y.zone, .int .i64 y.kind, .int .i64 y.aisle, .int .i64 y.place, .int .i64 y.vol, .int .i64 y.wei, .bool y.frz] 77))
 cases il with
 | false =>
  have HE : Hid (r = ⟨#[]⟩) := Lib.hid (by rw [HA.out]; rfl)
  go_wp2_with fail
  go_ret
  exact ⟨by rw [HE.out]; rfl, (HBW.out _ H2.out).1⟩
 | true =>
  have HE : Hid (r = gb) := Lib.hid (by rw [HA.out]; rfl)
  go_wp2_with (first
   | (refine wpList_load_row rfl 37 (.tmp 2) rfl w.heap.size rfl _ _ _ _ (HH.out _ H2.out) huh rfl (HSH.out _) ?_)
   | fail)
  refine (HFZ.out _ (HBW.out _ H2.out).1).mono ?_
  rintro e w2 ⟨rfl, hb2⟩
  have H3 := Lib.hid (H2.out.trans (hb2.mono H2.out.size))
  clear hb2
  have H4 := Lib.hid (H3.out.alloc H3.out.size (.cells #[.string ga, .string gb] 74))
  go_wp2_with fail
  go_ret
  exact ⟨by rw [HE.out]; rfl, (HBW.out _ H4.out).1⟩

end Go.Proofs.YtnkhnbpopdmkhaaGreat
