/-
  The walk of FramesTells.
-/
import Derived.Test.YtcfojpgfecelcaaFLaw
namespace Go.Proofs.Ytcfojpgfecelcaa.framesTells
open Go.RowKit

set_option maxRecDepth 100000 in
set_option maxHeartbeats 3200000 in
theorem walk (s : ByteArray) (w : World) :
    Calls Try.prog 8 #[.string s] w fun e w' => e = .returned (.bool true) ∧ Below w.heap.size w w' := by
  obtain ⟨n, p, k, er, d, hT, hR⟩ := tell_u s
  have HT := Lib.hid hT
  have HR := Lib.hid hR
  clear hT hR
  have b0 : (er == er) = true := beq_self_eq_true _
  have b1 : (n == n) = true := beq_self_eq_true _
  have b2 : (p == p) = true := beq_self_eq_true _
  have b3 : (k == k) = true := beq_self_eq_true _
  have b4 : (d.toList == d.toList) = true := beq_self_eq_true _
  go_enter Try.func8, Try.ntmps8
  go_wp2_with fail
  refine (HT.out _).mono ?_
  rintro e w1 ⟨rfl, h1⟩
  have H1 := Lib.hid (h1.alloc h1.size (.cells #[.int .i64 n, .int .i64 p, .int .i64 k, .string d] 27))
  have P1 : Hid (VB (w1.alloc (.cells #[.int .i64 n, .int .i64 p, .int .i64 k, .string d] 27)) w1.heap.size n p k d 27) := Lib.hid (new_block _ _)
  clear h1
  go_wp2_with fail
  generalize (w1.alloc (.cells #[.int .i64 n, .int .i64 p, .int .i64 k, .string d] 27)) = w2 at H1 P1 ⊢
  generalize w1.heap.size = b at P1 ⊢
  refine (HR.out _).mono ?_
  rintro e w3 ⟨rfl, h3⟩
  have hbl : b < w3.heap.size := Nat.lt_of_lt_of_le (lt_of_block P1.out) h3.size
  have H3 := Lib.hid (H1.out.trans (h3.mono H1.out.size))
  have P3 : Hid (VB (w3.alloc (.cells #[.int .i64 n, .int .i64 p, .int .i64 k, .string d] 30)) b n p k d 27) := Lib.hid ((Below.heap_alloc _ _ b hbl).trans ((h3.block b (lt_of_block P1.out)).trans P1.out))
  have H4 := Lib.hid (H3.out.alloc H3.out.size (.cells #[.int .i64 n, .int .i64 p, .int .i64 k, .string d] 30))
  have q0 : (w3.alloc (.cells #[.int .i64 n, .int .i64 p, .int .i64 k, .string d] 30)).cell? ⟨b, 0, none⟩ = some (.int .i64 n) := by rw [cell_of_block P3.out]; rfl
  have q1 : (w3.alloc (.cells #[.int .i64 n, .int .i64 p, .int .i64 k, .string d] 30)).cell? ⟨b, 1, none⟩ = some (.int .i64 p) := by rw [cell_of_block P3.out]; rfl
  have q2 : (w3.alloc (.cells #[.int .i64 n, .int .i64 p, .int .i64 k, .string d] 30)).cell? ⟨b, 2, none⟩ = some (.int .i64 k) := by rw [cell_of_block P3.out]; rfl
  have q3 : (w3.alloc (.cells #[.int .i64 n, .int .i64 p, .int .i64 k, .string d] 30)).cell? ⟨b, 3, none⟩ = some (.string d) := by rw [cell_of_block P3.out]; rfl
  clear h3 hbl
  go_wp2_with fail
  refine (awake_any _).mono ?_
  rintro e w5 ⟨rfl, h5⟩
  have H5 := Lib.hid (H4.out.trans (h5.mono H4.out.size))
  clear h5 q0 q1 q2 q3
  go_wp2_with fail
  go_ret
  exact ⟨rfl, H5.out⟩
end Go.Proofs.Ytcfojpgfecelcaa.framesTells
