/-
 CONTRACTS of the reference's Docks. (By wip/tools/gen_jrec.py.)
-/
import Derived.Test.YtgbilfkjfeheaaaGreatOPl
import Derived.Test.YtgbilfkjfeheaaaGreatURefA
import Derived.Deep.CutRange
namespace Go.Proofs.YtgbilfkjfeheaaaGreat
set_option linter.unusedVariables false
open Go.RowKit
open Pl (firstG findG putG It)

set_option maxRecDepth 100000 in
set_option maxHeartbeats 6400000 in
theorem rdocks_any (h : Hs) (L : Nat → List (List Value)) (d s : ByteArray) (w : World) (hh : HT h L w) :
 Calls Tryz.prog 76 #[.agg h.cells, .string d, .string s] w fun e w' => e = .returned (.int .i64 (dockE (L 2) (L 3) d s : Nat)) ∧ Below w.heap.size w w' := by
 obtain ⟨⟨yc, yz, kd, ai, pl, vo, we, fz⟩, hy, hyb⟩ := bin_eight hh d
 unfold Bn.cells at hy
 obtain ⟨ib, hib⟩ : ∃ z, (atBin (L 3) d).isSome = z := ⟨_, rfl⟩
 obtain ⟨st, hst⟩ : ∃ z, siteT (L 2) (L 3) d = z := ⟨_, rfl⟩
 obtain ⟨r, hr⟩ : ∃ r, dockE (L 2) (L 3) d s = r := ⟨_, rfl⟩
 have HA : Hid (r = if ib = false then 12 else if kd ≠ 2 then 23 else if Pl.eqv st s = false then 24 else if fz = true then 25 else 0) := Lib.hid (by rw [← hr]; unfold dockE; rw [hib, hyb, hst])
 have CB : Hid (∀ W, Below w.heap.size w W → Calls Tryz.prog 84 #[.agg h.cells, .string d] W fun e w' => e = .returned (.tuple #[.agg #[.string yc, .string yz, .int .i64 kd, .int .i64 ai, .int .i64 pl, .int .i64 vo, .int .i64 we, .bool fz], .bool ib]) ∧ Below W.heap.size W w') := Lib.hid (fun W hW => by have := frBin (hh.below hW) d; rw [hy, hib] at this; exact this)
 have CS : Hid (∀ W, Below w.heap.size w W → Calls Tryz.prog 86 #[.agg h.cells, .string d] W fun e w' => e = .returned (.string st) ∧ Below W.heap.size W w') := Lib.hid (fun W hW => by have := rsite_any h L d W (hh.below hW); rwa [hst] at this)
 rw [hr]
 clear hr hib hst hy hyb
 obtain ⟨W0, hW0⟩ : ∃ W0, W0 = (w.alloc (.cells h.cells 37)) := ⟨_, rfl⟩
 have hb0 : Below w.heap.size w W0 := by rw [hW0]; exact (Below.refl _ _).alloc (Nat.le_refl _) _
 have hs0 : W0.heap.size = w.heap.size + 1 := by rw [hW0]; simp
 have HH : Hid (∀ W, Below W0.heap.size W0 W → W.heap[w.heap.size]? = some (.cells h.cells 37 (0, 0))) := Lib.hid (fun W hW => (hW.block _ (by omega)).trans (by
  rw [hW0]
  have hq := heap_alloc_new w (.cells h.cells 37)
  exact (by simpa using hq)))
 have HBW : Hid (∀ W, Below W0.heap.size W0 W → Below w.heap.size w W ∧ w.heap.size + 1 ≤ W.heap.size) := Lib.hid (fun W hW => ⟨hb0.trans (hW.mono (by omega)), by have := hW.size; omega⟩)
 have huh := Tryz.underlying37
 have HSH : Hid (∀ a : Hs, (Tryz.prog.info? 37).map (·.size) = some a.cells.size) := Lib.hid (fun a => by kernel_rfl)
 have H0 := Lib.hid (Below.refl W0.heap.size W0)
 clear hb0 hs0 hh
 subst hW0
 go_enter Tryz.func76, Tryz.ntmps76
 go_wp2_with (first
  | (refine wpList_load_row rfl 37 (.tmp 3) rfl w.heap.size rfl _ _ _ _ (HH.out _ H0.out) huh rfl (HSH.out _) ?_)
  | fail)
 refine (CB.out _ (HBW.out _ H0.out).1).mono ?_
 rintro e w1 ⟨rfl, hb1⟩
 have H1 := Lib.hid (H0.out.trans (hb1.mono H0.out.size))
 clear hb1
 have H2 := Lib.hid (H1.out.alloc H1.out.size (.cells #[.string yc, .string yz, .int .i64 kd, .int .i64 ai, .int .i64 pl, .int .i64 vo, .int .i64 we, .bool fz] 64))
 cases ib with
 | false =>
  have HE : Hid (r = 12) := Lib.hid (by rw [HA.out]; rfl)
  go_wp2_with fail
  go_ret
  exact ⟨by rw [HE.out]; rfl, (HBW.out _ H2.out).1⟩
 | true =>
  by_cases q1 : kd = 2
  · subst q1
    go_wp2_with (first
     | (refine wpList_load_row rfl 37 (.tmp 3) rfl w.heap.size rfl _ _ _ _ (HH.out _ H2.out) huh rfl (HSH.out _) ?_)
     | fail)
    refine (CS.out _ (HBW.out _ H2.out).1).mono ?_
    rintro e w2 ⟨rfl, hb2⟩
    have H3 := Lib.hid (H2.out.trans (hb2.mono H2.out.size))
    have a0 := heap_alloc_new w1 (.cells #[.string yc, .string yz, .int .i64 2, .int .i64 ai, .int .i64 pl, .int .i64 vo, .int .i64 we, .bool fz] 64)
    have a1 := (hb2.block _ (lt_of_block a0)).trans a0
    have a7 : w2.cell? ⟨w1.heap.size, 7, none⟩ = some (.bool fz) := by rw [cell_of_block a1]; rfl
    have alt : w1.heap.size < w2.heap.size := lt_of_block a1
    clear a0 a1 hb2
    cases he : Pl.eqv st s with
    | false =>
     have he' : (st.toList == s.toList) = false := he
     have HE : Hid (r = 24) := Lib.hid (by rw [HA.out, he]; rfl)
     clear he
     go_wp2_with fail
     go_ret
     exact ⟨by rw [HE.out]; rfl, (HBW.out _ H3.out).1⟩
    | true =>
     have he' : (st.toList == s.toList) = true := he
     have HA2 : Hid (r = if fz = true then 25 else 0) := Lib.hid (by rw [HA.out, he]; rfl)
     clear he
     cases fz with
     | true =>
      have HE : Hid (r = 25) := Lib.hid (by rw [HA2.out]; rfl)
      go_wp2_with fail
      go_ret
      exact ⟨by rw [HE.out]; rfl, (HBW.out _ H3.out).1⟩
     | false =>
      have HE : Hid (r = 0) := Lib.hid (by rw [HA2.out]; rfl)
      go_wp2_with fail
      go_ret
      exact ⟨by rw [HE.out]; rfl, (HBW.out _ H3.out).1⟩
  · have HE : Hid (r = 23) := Lib.hid (by rw [HA.out]; simp [q1])
    have b1 : (kd != 2) = true := by simpa using q1
    clear q1
    go_wp2_with fail
    go_ret
    exact ⟨by rw [HE.out]; rfl, (HBW.out _ H2.out).1⟩

end Go.Proofs.YtgbilfkjfeheaaaGreat
