/-
  CONTRACTS of cmp.Compare at ints, of the code's comparison, and of slices' insertion sort over units.
-/
import Derived.Test.YtdcnkchhdmppeaaUOf
namespace Go.Proofs.Ytdcnkchhdmppeaa
set_option linter.unusedVariables false
open Go.RowKit
open Pl (It)

theorem nan_any (z : Int) (w : World) : Calls Try.prog 26 #[.int .i64 z] w fun e w' => e = .returned (.bool false) ∧ w' = w := by
  go_enter Try.func26, Try.ntmps26
  go_wp2_with fail
  go_ret
  simp
def cmpI (y z : Int) : Int := if y < z then -1 else if z < y then 1 else 0
theorem cmpI_lt (y z : Int) : decide (cmpI y z < 0) = decide (y < z) := by unfold cmpI; split <;> (try split) <;> simp <;> omega
theorem compare_any (y z : Int) (w : World) : Calls Try.prog 24 #[.int .i64 y, .int .i64 z] w fun e w' => e = .returned (.int .i64 (cmpI y z)) ∧ w' = w := by
  obtain ⟨r, hr⟩ : ∃ r, cmpI y z = r := ⟨_, rfl⟩
  rw [hr]
  unfold cmpI at hr
  go_enter Try.func24, Try.ntmps24
  by_cases h1 : y < z
  · rw [if_pos h1] at hr
    subst hr
    go_wp2_with fail
    refine (nan_any _ _).mono ?_
    rintro e w' ⟨rfl, rfl⟩
    go_wp2_with fail
    refine (nan_any _ _).mono ?_
    rintro e w' ⟨rfl, rfl⟩
    go_wp2_with fail
    go_ret
    simp
  · by_cases h2 : z < y
    · rw [if_neg h1, if_pos h2] at hr
      subst hr
      go_wp2_with fail
      refine (nan_any _ _).mono ?_
      rintro e w' ⟨rfl, rfl⟩
      go_wp2_with fail
      refine (nan_any _ _).mono ?_
      rintro e w' ⟨rfl, rfl⟩
      go_wp2_with fail
      go_ret
      simp
    · rw [if_neg h1, if_neg h2] at hr
      subst hr
      go_wp2_with fail
      refine (nan_any _ _).mono ?_
      rintro e w' ⟨rfl, rfl⟩
      go_wp2_with fail
      refine (nan_any _ _).mono ?_
      rintro e w' ⟨rfl, rfl⟩
      go_wp2_with fail
      go_ret
      simp
theorem great_any (s t : ByteArray) (y z : Int) (w : World) : Calls Try.prog 23 #[uv s y, uv t z] w fun e w' => e = .returned (.int .i64 (cmpI z y)) ∧ Below w.heap.size w w' := by
  go_enter Try.func23, Try.ntmps23
  go_wp2_with fail
  refine (compare_any _ _ _).mono ?_
  rintro e w' ⟨rfl, rfl⟩
  go_wp2_with fail
  go_ret
  exact ⟨rfl, ((Below.refl _ _).alloc (Nat.le_refl _) _).alloc (by simp) _⟩
end Go.Proofs.Ytdcnkchhdmppeaa
