/-
  CONTRACTS of nums.Text and the reference's Text; Put of one number.
-/
import Derived.Test.YtepgphjaejhcjaaNRefPut
namespace Go.Proofs.Ytepgphjaejhcjaa
open Go.RowKit

/-- The encoding of a text. -/
def textL (l : List UInt8) : List UInt8 := Pl.enc l.length ++ l

theorem one_cell (w : World) (n : Int) : ∀ j, j < 1 → (w.alloc (.cells #[.int .i64 n] 3)).cell? ⟨w.heap.size, 0 + j, none⟩ = some (.int .i64 ([n].getD j 0)) := by
  intro j hj
  obtain rfl : j = 0 := by omega
  simp
theorem one_wf (n : Int) (h0 : 0 ≤ n) (h1 : n ≤ 9223372036854775807) : ∀ j : Nat, -9223372036854775808 ≤ [n].getD j 0 ∧ [n].getD j 0 ≤ 9223372036854775807 := by
  intro j
  cases j with
  | zero => simp; omega
  | succ j => simp
theorem encs_one (n : Nat) : Pl.encs [(n : Int)] = Pl.enc n := by simp [Pl.encs]

set_option maxRecDepth 100000 in
theorem text_any (s : ByteArray) (w : World) (hs : (Pl.enc s.size).length + s.size ≤ 9223372036854775807) :
    Calls Try.prog 14 #[.string s] w fun e w' => e = .returned (.string ⟨(textL s.data.toList).toArray⟩) ∧ Below w.heap.size w w' := by
  have hp := put_any w.heap.size 0 1 1 [(s.size : Int)] (w.alloc (.cells #[.int .i64 (s.size : Int)] 3)) (by simp) rfl (by omega) (one_cell _ _) (one_wf _ (by omega) (by omega))
  rw [encs_one] at hp
  have HP := Lib.hid hp
  have hl := Pl.enc_len s.size
  have ht : textL s.data.toList = Pl.enc s.size ++ s.data.toList := by unfold textL; rw [Pl.length_toList]
  have HT := Lib.hid ht
  clear hp ht
  go_enter Try.func14, Try.ntmps14
  go_wp2_with fail
  refine HP.out.mono ?_
  rintro e w1 ⟨rfl, hb⟩
  have HB := Lib.hid (((Below.refl w.heap.size w).alloc (Nat.le_refl _) _).trans (hb.mono (by simp)))
  clear hb
  go_wp2_with fail
  go_ret
  exact ⟨by rw [HT.out, ← Pl.mk_app]; rfl, HB.out⟩

set_option maxRecDepth 100000 in
theorem rtext_any (s : ByteArray) (w : World) (hs : (Pl.enc s.size).length + s.size ≤ 9223372036854775807) :
    Calls Try.prog 15 #[.string s] w fun e w' => e = .returned (.string ⟨(textL s.data.toList).toArray⟩) ∧ Below w.heap.size w w' := by
  have hp := rput_any w.heap.size 0 1 1 [(s.size : Int)] (w.alloc (.cells #[.int .i64 (s.size : Int)] 3)) (by simp) rfl (by omega) (one_cell _ _) (one_wf _ (by omega) (by omega))
  rw [encs_one] at hp
  have HP := Lib.hid hp
  have hl := Pl.enc_len s.size
  have ht : textL s.data.toList = Pl.enc s.size ++ s.data.toList := by unfold textL; rw [Pl.length_toList]
  have HT := Lib.hid ht
  clear hp ht
  go_enter Try.func15, Try.ntmps15
  go_wp2_with fail
  refine HP.out.mono ?_
  rintro e w1 ⟨rfl, hb⟩
  have HB := Lib.hid (((Below.refl w.heap.size w).alloc (Nat.le_refl _) _).trans (hb.mono (by simp)))
  clear hb
  go_wp2_with fail
  go_ret
  exact ⟨by rw [HT.out, ← Pl.mk_app]; rfl, HB.out⟩
end Go.Proofs.Ytepgphjaejhcjaa
