/-
  CONTRACTS of items' Check.
-/
import Derived.Test.YtcihibmapbigdaaICheck2
namespace Go.Proofs.Ytcihibmapbigdaa
set_option linter.unusedVariables false
open Go.RowKit
open Pl (It)

set_option maxRecDepth 100000 in
set_option maxHeartbeats 1600000 in
theorem check_any (x : It) (hx : x.Ok) (w : World) : Calls Try.prog 16 #[.agg x.cells.toArray] w fun e w' => e = .returned (.int .i64 (Pl.chE x)) ∧ Below w.heap.size w w' := by
  obtain ⟨n, hn⟩ : ∃ n, Pl.chE x = n := ⟨_, rfl⟩
  obtain ⟨m, hm⟩ : ∃ m, Pl.nmE x.code = m := ⟨_, rfl⟩
  obtain ⟨u, hu⟩ : ∃ u, Pl.unE x = u := ⟨_, rfl⟩
  have HN : Hid (∀ W, Calls Try.prog 52 #[.string x.code] W fun e w' => e = .returned (.int .i64 m) ∧ W = w') := Lib.hid (fun W => by rw [← hm]; exact name_any x.code W (by simpa [maxLen] using hx.code))
  have HU : Hid (∀ W, Calls Try.prog 53 #[.agg #[.string (x.nm 0), .int .i64 (x.fc 0), .string (x.nm 1), .int .i64 (x.fc 1), .string (x.nm 2), .int .i64 (x.fc 2), .string (x.nm 3), .int .i64 (x.fc 3)]] W fun e w' => e = .returned (.int .i64 u) ∧ Below W.heap.size W w') := Lib.hid (fun W => by rw [← hu]; exact cus_any x hx W)
  rw [hn]
  unfold Pl.chE at hn
  rw [hm, hu] at hn
  clear hm hu hx
  have HB : Hid (Below w.heap.size w (w.alloc (.cells x.cells.toArray 42))) := Lib.hid ((Below.refl _ w).alloc (Nat.le_refl _) _)
  have HC : Hid (∀ W, Below (w.heap.size + 1) (w.alloc (.cells x.cells.toArray 42)) W → W.heap[w.heap.size]? = some (.cells x.cells.toArray 42 (0, 0))) := Lib.hid (fun W hW => (hW.block _ (by omega)).trans (heap_alloc_new _ _))
  unfold It.cells
  by_cases hm0 : m = 0
  · subst hm0
    rw [if_neg (by simp)] at hn
    by_cases hu0 : u = 0
    · subst hu0
      rw [if_neg (by simp)] at hn
      have H9 : ∀ w1, Below (w.heap.size + 1) (w.alloc (.cells x.cells.toArray 42)) w1 → Hid (w1.cell? ⟨w.heap.size, 9, none⟩ = some (.int .i64 x.vol) ∧ w1.cell? ⟨w.heap.size, 10, none⟩ = some (.int .i64 x.wei) ∧ w1.cell? ⟨w.heap.size, 11, none⟩ = some (.bool x.lots) ∧ w1.cell? ⟨w.heap.size, 12, none⟩ = some (.bool x.serial)) := fun w1 h => Lib.hid (by
        have e := HC.out w1 h
        exact ⟨(cell_of_block e).trans rfl, (cell_of_block e).trans rfl, (cell_of_block e).trans rfl, (cell_of_block e).trans rfl⟩)
      obtain ⟨b1, hb1⟩ : ∃ b1, (decide (0 ≤ x.vol) && decide (x.vol ≤ 1000000)) = b1 := ⟨_, rfl⟩
      obtain ⟨b2, hb2⟩ : ∃ b2, (decide (0 ≤ x.wei) && decide (x.wei ≤ 1000000)) = b2 := ⟨_, rfl⟩
      obtain ⟨sb, hsb⟩ : ∃ b, x.serial = b := ⟨_, rfl⟩
      obtain ⟨lb, hlb⟩ : ∃ b, x.lots = b := ⟨_, rfl⟩
      have hme : Pl.meE x = if (b1 && b2) = false then 5 else if (sb && !lb) = true then 21 else 0 := by
        unfold Pl.meE
        rw [hsb, hlb, ← hb1, ← hb2]
        congr 1
        apply propext
        simp
        omega
      rw [hme] at hn
      have HV := Lib.hid hb1
      have HW := Lib.hid hb2
      clear hme hb1 hb2
      rw [hsb, hlb] at H9
      clear hsb hlb
      cases b1 <;> cases b2 <;> cases sb <;> cases lb
      all_goals
        simp only [Bool.and_false, Bool.and_true, Bool.not_true, Bool.not_false, if_true, Bool.false_eq_true, Bool.true_eq_false, if_false] at hn
        subst hn
        go_enter Try.func16, Try.ntmps16
        go_wp2_with fail
        refine (HN.out _).mono ?_
        rintro e w1 ⟨rfl, rfl⟩
        go_wp2_with fail
        refine (HU.out _).mono ?_
        rintro e w1 ⟨rfl, hb1⟩
        obtain ⟨c9, c10, c11, c12⟩ := (H9 w1 (hb1.mono (by simp))).out
        have B1 := Lib.hid (HB.out.trans (hb1.mono (by simp)))
        clear hb1
        go_wp2_with fail
        refine (range_any _ _ _ _).mono ?_
        rintro e w2 ⟨rfl, rfl⟩
        rw [HV.out]
        go_wp2_with fail
        try
          refine (range_any _ _ _ _).mono ?_
          rintro e w2 ⟨rfl, rfl⟩
          rw [HW.out]
          go_wp2_with fail
        go_ret
        exact ⟨rfl, B1.out⟩
    · rw [if_pos hu0] at hn
      subst hn
      go_enter Try.func16, Try.ntmps16
      go_wp2_with fail
      refine (HN.out _).mono ?_
      rintro e w1 ⟨rfl, rfl⟩
      go_wp2_with fail
      refine (HU.out _).mono ?_
      rintro e w1 ⟨rfl, hb1⟩
      have B1 := Lib.hid (HB.out.trans (hb1.mono (by simp)))
      clear hb1
      go_wp2_with fail
      go_ret
      exact ⟨rfl, B1.out⟩
  · rw [if_pos hm0] at hn
    subst hn
    go_enter Try.func16, Try.ntmps16
    go_wp2_with fail
    refine (HN.out _).mono ?_
    rintro e w1 ⟨rfl, rfl⟩
    go_wp2_with fail
    go_ret
    exact ⟨rfl, HB.out⟩
end Go.Proofs.Ytcihibmapbigdaa
