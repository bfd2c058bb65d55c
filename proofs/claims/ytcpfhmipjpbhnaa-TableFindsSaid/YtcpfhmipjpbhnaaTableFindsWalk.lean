/-
  The walk of TableFinds.
-/
import Derived.Test.YtcpfhmipjpbhnaaTAwake
import Derived.Test.YtcpfhmipjpbhnaaTRef
namespace Go.Proofs.Ytcpfhmipjpbhnaa.tableFinds
open Go.RowKit

set_option maxRecDepth 100000 in
set_option maxHeartbeats 1600000 in
theorem walk (A : Option Addr) (n c : Nat) (l : List Pl.Pr) (xs : ByteArray) (xn : Int) (w : World) (hn : n = l.length) (_hnc : n ≤ c) (_hc : c ≤ 9223372036854775807) (hsz : n * 24 ≤ 140737488351232) (hr : Rd w w.heap.size A (pc l)) :
    Calls Try.prog 6 #[.slice A n c, pv xs xn] w fun e w' => e = .returned (.bool true) ∧ Below w.heap.size w w' := by
  have HN := Lib.hid hn
  have hB0 : Below w.heap.size w (w.alloc (.cells #[.string xs, .int .i64 xn] 24)) := (Below.refl _ w).alloc (Nat.le_refl _) _
  have HR : ∀ W, Below (w.alloc (.cells #[.string xs, .int .i64 xn] 24)).heap.size (w.alloc (.cells #[.string xs, .int .i64 xn] 24)) W → Rd W W.heap.size A (pc l) := fun W h => by
    have hb := hB0.trans (h.mono (by simp))
    exact (hr.below hb).mono hb.size
  have HR := Lib.hid HR
  have H := Lib.hid (Below.refl (w.alloc (.cells #[.string xs, .int .i64 xn] 24)).heap.size (w.alloc (.cells #[.string xs, .int .i64 xn] 24)))
  have HC0 := Lib.hid (show (w.alloc (.cells #[.string xs, .int .i64 xn] 24)).cell? ⟨w.heap.size, 0, none⟩ = some (.string xs) from by simp [go_sem])
  have HC1 := Lib.hid (show (w.alloc (.cells #[.string xs, .int .i64 xn] 24)).cell? ⟨w.heap.size, 1, none⟩ = some (.int .i64 xn) from by simp [go_sem])
  have HB0 := Lib.hid hB0
  have hn63 : n ≤ 140737488355328 := by omega
  have hsz1 : (n + 1) * 24 ≤ 140737488355328 := by omega
  have hsz0 : n * 24 ≤ 140737488355328 := by omega
  clear hn hr hB0
  go_enter Try.func6, Try.ntmps6
  go_wp2_with fail
  go_region_held3 (fun w' => w'.cell? ⟨w.heap.size, 0, none⟩ = some (.string xs) ∧ w'.cell? ⟨w.heap.size, 1, none⟩ = some (.int .i64 xn))
    (first
      | go_keep
      | (exact ⟨(H.out.cell (p := ⟨w.heap.size, 0, none⟩) (by simp)).trans HC0.out, (H.out.cell (p := ⟨w.heap.size, 1, none⟩) (by simp)).trans HC1.out⟩))
    (first
      | (go_at_call 9; (with_reducible refine (pairs_any _).mono ?_); rintro e w1 ⟨rfl, hb⟩; have H := Lib.hid (show Below (w.alloc (.cells #[.string xs, .int .i64 xn] 24)).heap.size (w.alloc (.cells #[.string xs, .int .i64 xn] 24)) w1 from by first | exact H.out.trans (hb.mono H.out.size) | exact H.out.drew.trans (hb.mono H.out.size) | exact H.out.drew.drew.trans (hb.mono H.out.size)); clear hb)
      | (go_at_call 10; (with_reducible refine (find_any A n c xs xn l _ HN.out hn63 (by exact HR.out _ (by first | exact H.out | exact H.out.drew | exact H.out.drew.drew))).mono ?_); rintro e w2 ⟨rfl, hb⟩; have H := Lib.hid (show Below (w.alloc (.cells #[.string xs, .int .i64 xn] 24)).heap.size (w.alloc (.cells #[.string xs, .int .i64 xn] 24)) w2 from by first | exact H.out.trans (hb.mono H.out.size) | exact H.out.drew.trans (hb.mono H.out.size) | exact H.out.drew.drew.trans (hb.mono H.out.size)); clear hb))
  have hq0 := (H.out.cell (p := ⟨w.heap.size, 0, none⟩) (by simp)).trans HC0.out
  have hq1 := (H.out.cell (p := ⟨w.heap.size, 1, none⟩) (by simp)).trans HC1.out
  go_wp2_with fail
  refine (refFind_any A n c xs xn l _ HN.out hn63 (HR.out _ H.out)).mono ?_
  rintro e w3 ⟨rfl, hb⟩
  have H := Lib.hid (show Below (w.alloc (.cells #[.string xs, .int .i64 xn] 24)).heap.size (w.alloc (.cells #[.string xs, .int .i64 xn] 24)) w3 from by first | exact H.out.trans (hb.mono H.out.size) | exact H.out.drew.trans (hb.mono H.out.size) | exact H.out.drew.drew.trans (hb.mono H.out.size))
  clear hb hq0 hq1
  go_wp2_with fail
  refine (awake_any _).mono ?_
  rintro e w4 ⟨rfl, hb⟩
  have H := Lib.hid (show Below (w.alloc (.cells #[.string xs, .int .i64 xn] 24)).heap.size (w.alloc (.cells #[.string xs, .int .i64 xn] 24)) w4 from by first | exact H.out.trans (hb.mono H.out.size) | exact H.out.drew.trans (hb.mono H.out.size) | exact H.out.drew.drew.trans (hb.mono H.out.size))
  clear hb
  go_wp2_with fail
  go_ret
  exact ⟨rfl, HB0.out.trans (H.out.mono (by simp))⟩
end Go.Proofs.Ytcpfhmipjpbhnaa.tableFinds
