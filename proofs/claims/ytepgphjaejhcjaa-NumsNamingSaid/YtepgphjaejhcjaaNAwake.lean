/-
  CONTRACT of the law's examples ('awake').
-/
import Derived.Test.YtepgphjaejhcjaaNText
import Derived.Test.YtepgphjaejhcjaaNTakeText
import Derived.Test.YtepgphjaejhcjaaNName
import Derived.Test.YtepgphjaejhcjaaNSum
namespace Go.Proofs.Ytepgphjaejhcjaa
open Go.RowKit

theorem ex_take (w : World) : Calls Try.prog 21 #[.string ⟨#[128, 0]⟩] w fun e w' => e = .returned (.tuple #[.int .i64 0, .string ⟨#[]⟩, .int .i64 44]) ∧ ∃ n, w' = w.drewN n := by
  have h := take_any ⟨#[128, 0]⟩ w (by decide)
  rw [show Pl.takeL (ByteArray.mk #[128, 0]).data.toList = none from by decide] at h
  exact h
theorem ex_takeText (w : World) : Calls Try.prog 23 #[.string ⟨#[3, 97, 98]⟩] w fun e w' => e = .returned (.tuple #[.string ⟨#[]⟩, .string ⟨#[]⟩, .int .i64 44]) ∧ ∃ n, w' = w.drewN n := by
  have h := takeText_any ⟨#[3, 97, 98]⟩ w (by decide)
  rw [show Pl.takeTextL (ByteArray.mk #[3, 97, 98]).data.toList = none from by decide] at h
  exact h
theorem ex_name1 (w : World) : Calls Try.prog 16 #[.string ⟨#[97, 32, 98]⟩] w fun e w' => e = .returned (.int .i64 3) ∧ w = w' := by
  have h := name_any ⟨#[97, 32, 98]⟩ w (by decide)
  rw [show Pl.nameE (ByteArray.mk #[97, 32, 98]).data.toList = 3 from by decide] at h
  exact h
theorem ex_name2 (w : World) : Calls Try.prog 16 #[.string ⟨#[65, 66, 67, 68, 69, 70, 71, 72, 73, 74, 75, 76, 77]⟩] w fun e w' => e = .returned (.int .i64 4) ∧ w = w' := by
  have h := name_any ⟨#[65, 66, 67, 68, 69, 70, 71, 72, 73, 74, 75, 76, 77]⟩ w (by decide)
  rw [show Pl.nameE (ByteArray.mk #[65, 66, 67, 68, 69, 70, 71, 72, 73, 74, 75, 76, 77]).data.toList = 4 from by decide] at h
  exact h
theorem ex_sum1 (w : World) : Calls Try.prog 18 #[.string ⟨#[]⟩] w fun e w' => e = .returned (.int .i64 1) ∧ w = w' := by
  have h := sum_any ⟨#[]⟩ w (by decide)
  rw [show Pl.sumF 1 (ByteArray.mk #[]).data.toList = 1 from by decide] at h
  exact h
theorem ex_sum2 (w : World) : Calls Try.prog 18 #[.string ⟨#[97]⟩] w fun e w' => e = .returned (.int .i64 128) ∧ w = w' := by
  have h := sum_any ⟨#[97]⟩ w (by decide)
  rw [show Pl.sumF 1 (ByteArray.mk #[97]).data.toList = 128 from by decide] at h
  exact h
theorem ex_text (w : World) : Calls Try.prog 14 #[.string ⟨#[97, 98]⟩] w fun e w' => e = .returned (.string ⟨#[2, 97, 98]⟩) ∧ Below w.heap.size w w' := by
  have h := text_any ⟨#[97, 98]⟩ w (by decide)
  rw [show textL (ByteArray.mk #[97, 98]).data.toList = [2, 97, 98] from by decide] at h
  exact h
theorem ex_put (w : World) : Calls Try.prog 12 #[.slice (some ⟨w.heap.size, 0, none⟩) 3 3] (w.alloc (.cells #[.int .i64 0, .int .i64 127, .int .i64 128] 3)) fun e w' => e = .returned (.string ⟨#[0, 127, 128, 1]⟩) ∧ Below w.heap.size w w' := by
  have h := put_any w.heap.size 0 3 3 [0, 127, 128] (w.alloc (.cells #[.int .i64 0, .int .i64 127, .int .i64 128] 3)) (by simp) rfl (by omega)
    (by intro j hj
        obtain rfl | rfl | rfl : j = 0 ∨ j = 1 ∨ j = 2 := by omega
        all_goals simp)
    (by intro j
        match j with
        | 0 => simp
        | 1 => simp
        | 2 => simp
        | j + 3 => simp)
  rw [show Pl.encs [0, 127, 128] = [0, 127, 128, 1] from by decide] at h
  exact h.mono fun e w' ⟨h1, h2⟩ => ⟨h1, ((Below.refl w.heap.size w).alloc (Nat.le_refl _) _).trans (h2.mono (by simp))⟩

theorem below_drewN {B : Nat} {a w : World} (h : Below B a w) (n : Nat) : Below B a (w.drewN n) := ⟨h.os, h.tape, h.output, h.size, h.block⟩

set_option maxRecDepth 100000 in
theorem awake_any (w : World) : Calls Try.prog 20 #[] w fun e w' => e = .returned (.bool true) ∧ Below w.heap.size w w' := by
  go_enter Try.func20, Try.ntmps20
  go_wp2_with fail
  refine (ex_take _).mono ?_
  rintro e w1 ⟨rfl, n1, rfl⟩
  go_wp2_with fail
  refine (ex_takeText _).mono ?_
  rintro e w1 ⟨rfl, n2, rfl⟩
  go_wp2_with fail
  refine (ex_put (w.drewN (n1 + n2))).mono ?_
  rintro e w2 ⟨rfl, hb⟩
  have HB := Lib.hid (hb : Below w.heap.size (w.drewN (n1 + n2)) w2)
  have hsz : w.heap.size ≤ w2.heap.size := hb.size
  clear hb
  go_wp2_with fail
  refine (ex_text _).mono ?_
  rintro e w3 ⟨rfl, hb⟩
  have HB2 := Lib.hid (((below_drewN (Below.refl w.heap.size w) (n1 + n2)).trans HB.out).trans (hb.mono hsz))
  clear hb HB
  go_wp2_with fail
  refine (ex_name1 _).mono ?_
  rintro e w4 ⟨rfl, rfl⟩
  go_wp2_with fail
  refine (ex_name2 _).mono ?_
  rintro e w4 ⟨rfl, rfl⟩
  go_wp2_with fail
  refine (ex_sum1 _).mono ?_
  rintro e w4 ⟨rfl, rfl⟩
  go_wp2_with fail
  refine (ex_sum2 _).mono ?_
  rintro e w4 ⟨rfl, rfl⟩
  go_wp2_with fail
  go_ret
  exact ⟨rfl, HB2.out⟩
end Go.Proofs.Ytepgphjaejhcjaa
