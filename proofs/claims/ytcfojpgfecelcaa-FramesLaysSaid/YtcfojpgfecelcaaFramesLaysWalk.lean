/-
  The walk of FramesLays.
-/
import Derived.Test.YtcfojpgfecelcaaFLaw
namespace Go.Proofs.Ytcfojpgfecelcaa.framesLays
open Go.RowKit

set_option maxRecDepth 100000 in
set_option maxHeartbeats 3200000 in
theorem walk (x : Int) (data s : ByteArray) (w : World) :
    Calls Try.prog 3 #[.int .i64 x, .string data, .string s] w fun e w' => e = .returned (.bool true) ∧ Below w.heap.size w w' := by
  obtain ⟨n, p, k, er, d, hT, hR⟩ := tell_u s
  obtain ⟨l, el, hl8, hL⟩ := lay_u x data
  have HT := Lib.hid hT
  have HR := Lib.hid hR
  have HL := Lib.hid hL
  clear hT hR hL
  have b0 : (er == er) = true := beq_self_eq_true _
  have b1 : (n == n) = true := beq_self_eq_true _
  have b2 : (p == p) = true := beq_self_eq_true _
  have b3 : (k == k) = true := beq_self_eq_true _
  have b4 : (d.toList == d.toList) = true := beq_self_eq_true _
  have b5 : (el == el) = true := beq_self_eq_true _
  go_enter Try.func3, Try.ntmps3
  go_wp2_with fail
  refine (HL.out.code _).mono ?_
  rintro e w0 ⟨A1, n1, c1, rfl, hn1, _, hr1, h0⟩
  have H0 := Lib.hid h0
  have R1 := Lib.hid hr1
  have N1 := Lib.hid hn1
  clear h0 hr1 hn1
  go_wp2_with fail
  refine (HL.out.ref _).mono ?_
  rintro e wa ⟨A2, n2, c2, rfl, hn2, _, hr2, ha⟩
  have HA := Lib.hid (H0.out.trans (ha.mono H0.out.size))
  have R1 := Lib.hid ((R1.out.below ha).mono ha.size)
  have R2 := Lib.hid hr2
  have N2 := Lib.hid hn2
  clear ha hr2 hn2 H0
  go_wp2_with fail
  refine (HT.out _).mono ?_
  rintro e w1 ⟨rfl, h1⟩
  have HO : Hid (Below wa.heap.size wa (w1.alloc (.cells #[.int .i64 n, .int .i64 p, .int .i64 k, .string d] 27))) := Lib.hid (h1.alloc h1.size _)
  have P1 : Hid (VB (w1.alloc (.cells #[.int .i64 n, .int .i64 p, .int .i64 k, .string d] 27)) w1.heap.size n p k d 27) := Lib.hid (new_block _ _)
  clear h1
  go_wp2_with fail
  generalize (w1.alloc (.cells #[.int .i64 n, .int .i64 p, .int .i64 k, .string d] 27)) = w2 at HO P1 ⊢
  generalize w1.heap.size = b at P1 ⊢
  have H1 := Lib.hid (HA.out.trans (HO.out.mono HA.out.size))
  have R1 := Lib.hid ((R1.out.below HO.out).mono HO.out.size)
  have R2 := Lib.hid ((R2.out.below HO.out).mono HO.out.size)
  clear HO HA
  refine (HR.out _).mono ?_
  rintro e w3 ⟨rfl, h3⟩
  have HO : Hid (Below w2.heap.size w2 (w3.alloc (.cells #[.int .i64 n, .int .i64 p, .int .i64 k, .string d] 30))) := Lib.hid (h3.alloc h3.size _)
  have P3 : Hid (VB (w3.alloc (.cells #[.int .i64 n, .int .i64 p, .int .i64 k, .string d] 30)) b n p k d 27) := Lib.hid ((HO.out.block b (lt_of_block P1.out)).trans P1.out)
  have P4 : Hid (VB (w3.alloc (.cells #[.int .i64 n, .int .i64 p, .int .i64 k, .string d] 30)) w3.heap.size n p k d 30) := Lib.hid (new_block _ _)
  have H4 := Lib.hid (H1.out.trans (HO.out.mono H1.out.size))
  have R1 := Lib.hid ((R1.out.below HO.out).mono HO.out.size)
  have R2 := Lib.hid ((R2.out.below HO.out).mono HO.out.size)
  clear h3 HO
  go_wp2_with fail
  generalize (w3.alloc (.cells #[.int .i64 n, .int .i64 p, .int .i64 k, .string d] 30)) = w4 at H4 P3 P4 R1 R2 ⊢
  generalize w3.heap.size = b2 at P4 ⊢
  refine (texts_any A1 A2 n1 c1 n2 c2 l w4 N1.out N2.out (by rw [N1.out]; omega) R1.out R2.out).mono ?_
  rintro e w5 ⟨rfl, h5⟩
  have H5 := Lib.hid (H4.out.trans (h5.mono H4.out.size))
  have P5 : Hid (VB w5 b n p k d 27) := Lib.hid ((h5.block b (lt_of_block P3.out)).trans P3.out)
  have P6 : Hid (VB w5 b2 n p k d 30) := Lib.hid ((h5.block b2 (lt_of_block P4.out)).trans P4.out)
  have q0 : w5.cell? ⟨b, 0, none⟩ = some (.int .i64 n) := by rw [cell_of_block P5.out]; rfl
  have q1 : w5.cell? ⟨b, 1, none⟩ = some (.int .i64 p) := by rw [cell_of_block P5.out]; rfl
  have q2 : w5.cell? ⟨b, 2, none⟩ = some (.int .i64 k) := by rw [cell_of_block P5.out]; rfl
  have q3 : w5.cell? ⟨b, 3, none⟩ = some (.string d) := by rw [cell_of_block P5.out]; rfl
  have r0 : w5.cell? ⟨b2, 0, none⟩ = some (.int .i64 n) := by rw [cell_of_block P6.out]; rfl
  have r1 : w5.cell? ⟨b2, 1, none⟩ = some (.int .i64 p) := by rw [cell_of_block P6.out]; rfl
  have r2 : w5.cell? ⟨b2, 2, none⟩ = some (.int .i64 k) := by rw [cell_of_block P6.out]; rfl
  have r3 : w5.cell? ⟨b2, 3, none⟩ = some (.string d) := by rw [cell_of_block P6.out]; rfl
  clear h5
  go_wp2_with fail
  refine (awake_any _).mono ?_
  rintro e w6 ⟨rfl, h6⟩
  have H6 := Lib.hid (H5.out.trans (h6.mono H5.out.size))
  clear h6 q0 q1 q2 q3 r0 r1 r2 r3
  go_wp2_with fail
  go_ret
  exact ⟨rfl, H6.out⟩
end Go.Proofs.Ytcfojpgfecelcaa.framesLays
