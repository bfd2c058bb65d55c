/-
  The walk of TableDrops.
-/
import Derived.Test.YtcpfhmipjpbhnaaTAwake
import Derived.Test.YtcpfhmipjpbhnaaTRef
namespace Go.Proofs.Ytcpfhmipjpbhnaa.tableDrops
open Go.RowKit

set_option maxRecDepth 100000 in
set_option maxHeartbeats 3200000 in
theorem walk (A : Option Addr) (n c : Nat) (l : List Pl.Pr) (xs : ByteArray) (xn : Int) (w : World) (hn : n = l.length) (hnc : n ≤ c) (hc : c ≤ 9223372036854775807) (hsz : n * 24 ≤ 140737488351232) (hr : Rd w w.heap.size A (pc l)) :
    Calls Try.prog 8 #[.slice A n c, pv xs xn] w fun e w' => e = .returned (.bool true) ∧ Below w.heap.size w w' := by
  have HN := Lib.hid hn
  have hB0 : Below w.heap.size w (w.alloc (.cells #[.string xs, .int .i64 xn] 24)) := (Below.refl _ w).alloc (Nat.le_refl _) _
  have HR : ∀ W, Below (w.alloc (.cells #[.string xs, .int .i64 xn] 24)).heap.size (w.alloc (.cells #[.string xs, .int .i64 xn] 24)) W → Rd W W.heap.size A (pc l) := fun W h => by
    have hb := hB0.trans (h.mono (by simp))
    exact (hr.below hb).mono hb.size
  have HR := Lib.hid HR
  have H := Lib.hid (Below.refl (w.alloc (.cells #[.string xs, .int .i64 xn] 24)).heap.size (w.alloc (.cells #[.string xs, .int .i64 xn] 24)))
  have HC0 := Lib.hid (show (w.alloc (.cells #[.string xs, .int .i64 xn] 24)).cell? ⟨w.heap.size, 0, none⟩ = some (.string xs) from by simp [go_sem])
  have HC1 := Lib.hid (show (w.alloc (.cells #[.string xs, .int .i64 xn] 24)).cell? ⟨w.heap.size, 1, none⟩ = some (.int .i64 xn) from by simp [go_sem])
  have HB0 := Lib.hid hB0
  have hn63 : n ≤ 140737488355328 := by omega
  have hsz1 : (n + 1) * 24 ≤ 140737488355328 := by omega
  have hsz0 : n * 24 ≤ 140737488355328 := by omega
  clear hn hr hB0
  go_enter Try.func8, Try.ntmps8
  go_wp2_with fail
  go_region_held3 (fun w' => w'.cell? ⟨w.heap.size, 0, none⟩ = some (.string xs) ∧ w'.cell? ⟨w.heap.size, 1, none⟩ = some (.int .i64 xn))
    (first
      | go_keep
      | (exact ⟨(H.out.cell (p := ⟨w.heap.size, 0, none⟩) (by simp)).trans HC0.out, (H.out.cell (p := ⟨w.heap.size, 1, none⟩) (by simp)).trans HC1.out⟩))
    (first
      | (go_at_call 9; (with_reducible refine (pairs_any _).mono ?_); rintro e w1 ⟨rfl, hb⟩; have H := Lib.hid (show Below (w.alloc (.cells #[.string xs, .int .i64 xn] 24)).heap.size (w.alloc (.cells #[.string xs, .int .i64 xn] 24)) w1 from by first | exact H.out.trans (hb.mono H.out.size) | exact H.out.drew.trans (hb.mono H.out.size) | exact H.out.drew.drew.trans (hb.mono H.out.size)); (try have RR := Lib.hid (show Rd w1 w1.heap.size _ _ from by first | exact (RR.out.below hb).mono hb.size | exact (RR.out.below ((World.drew_below _).trans hb)).mono hb.size | exact (RR.out.below ((World.drew_below _).trans ((World.drew_below _).trans hb))).mono hb.size)); clear hb)
      | (go_at_call 14; (with_reducible refine (drop_any A n c xs xn l _ HN.out hnc hc hsz0 (by exact HR.out _ (by first | exact H.out | exact H.out.drew | exact H.out.drew.drew))).mono ?_); rintro e w2 ⟨A2, n2, c2, hn2, rfl, hown, hb⟩; have H := Lib.hid (show Below (w.alloc (.cells #[.string xs, .int .i64 xn] 24)).heap.size (w.alloc (.cells #[.string xs, .int .i64 xn] 24)) w2 from by first | exact H.out.trans (hb.mono H.out.size) | exact H.out.drew.trans (hb.mono H.out.size) | exact H.out.drew.drew.trans (hb.mono H.out.size)); (try have RR := Lib.hid (show Rd w2 w2.heap.size _ _ from by first | exact (RR.out.below hb).mono hb.size | exact (RR.out.below ((World.drew_below _).trans hb)).mono hb.size | exact (RR.out.below ((World.drew_below _).trans ((World.drew_below _).trans hb))).mono hb.size)); have RP := Lib.hid (Rd.of_own hown); have HN2 := Lib.hid hn2; clear hb hown hn2)
      | (go_at_call 18; (with_reducible refine (refDrop_any A n c xs xn l _ HN.out hsz0 (by exact HR.out _ (by first | exact H.out | exact H.out.drew | exact H.out.drew.drew))).mono ?_); rintro e w3 ⟨A3, n3, c3, hn3, rfl, hown, hb⟩; have H := Lib.hid (show Below (w.alloc (.cells #[.string xs, .int .i64 xn] 24)).heap.size (w.alloc (.cells #[.string xs, .int .i64 xn] 24)) w3 from by first | exact H.out.trans (hb.mono H.out.size) | exact H.out.drew.trans (hb.mono H.out.size) | exact H.out.drew.drew.trans (hb.mono H.out.size)); (try have RP := Lib.hid (show Rd w3 w3.heap.size _ _ from by first | exact (RP.out.below hb).mono hb.size | exact (RP.out.below ((World.drew_below _).trans hb)).mono hb.size | exact (RP.out.below ((World.drew_below _).trans ((World.drew_below _).trans hb))).mono hb.size)); have RR := Lib.hid (Rd.of_own hown); have HN3 := Lib.hid hn3; clear hb hown hn3)
      | (go_at_call 17; (have e23 : n3 = n2 := HN3.out.trans HN2.out.symm); subst e23; (with_reducible refine (same_ex A2 A3 _ c2 c3 (Pl.dropL l xs) _ HN2.out (by rw [HN2.out]; have := Pl.dropL_len l xs; have := HN.out; omega) (by first | exact RP.out | exact (RP.out.below (World.drew_below _)) | exact (RP.out.below ((World.drew_below _).trans (World.drew_below _)))) (by first | exact RR.out | exact (RR.out.below (World.drew_below _)) | exact (RR.out.below ((World.drew_below _).trans (World.drew_below _))))).mono ?_); rintro e w4 ⟨rfl, hb⟩; have H := Lib.hid (show Below (w.alloc (.cells #[.string xs, .int .i64 xn] 24)).heap.size (w.alloc (.cells #[.string xs, .int .i64 xn] 24)) w4 from by first | exact H.out.trans (hb.mono H.out.size) | exact H.out.drew.trans (hb.mono H.out.size) | exact H.out.drew.drew.trans (hb.mono H.out.size)); clear hb)
      | (go_at_call 21; (with_reducible refine (awake_any _).mono ?_); rintro e w5 ⟨rfl, hb⟩; have H := Lib.hid (show Below (w.alloc (.cells #[.string xs, .int .i64 xn] 24)).heap.size (w.alloc (.cells #[.string xs, .int .i64 xn] 24)) w5 from by first | exact H.out.trans (hb.mono H.out.size) | exact H.out.drew.trans (hb.mono H.out.size) | exact H.out.drew.drew.trans (hb.mono H.out.size)); clear hb))
  all_goals
    go_wp2_with fail
    go_ret
    exact ⟨rfl, HB0.out.trans (H.out.mono (by simp))⟩
end Go.Proofs.Ytcpfhmipjpbhnaa.tableDrops
