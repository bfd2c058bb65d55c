/-
  THE WALK of the law NumsSums.
-/
import Derived.Test.YtepgphjaejhcjaaNAwake
namespace Go.Proofs.Ytepgphjaejhcjaa.numsSums
open Go.RowKit

set_option maxRecDepth 100000 in
theorem walk (a0 a1 : ByteArray) (w : World) (w0 : a0.size ≤ maxLen) (_w1 : a1.size ≤ maxLen) (u0 : a0.size ≤ 140737488351232) (u1 : a1.size ≤ 140737488351232) :
    Calls Try.prog 8 #[.string a0, .string a1] w fun e w' => e = .returned (.bool true) ∧ Below w.heap.size w w' := by
  have h1 := sum_any a0 w w0
  have h2 := sum_any (a0 ++ a1) w (by rw [ByteArray.size_append]; unfold maxLen; omega)
  have happ : (a0 ++ a1).data.toList = a0.data.toList ++ a1.data.toList := by rw [ByteArray.data_append]; simp
  rw [happ, Pl.sumF_append] at h2
  have hlt0 := Pl.sumF_lt a0.data.toList 1 (by omega)
  have H1 := Lib.hid h1
  have H2 := Lib.hid h2
  clear h1 h2 happ w0
  generalize Pl.sumF 1 a0.data.toList = n0 at *
  go_enter Try.func8, Try.ntmps8
  go_wp2_with fail
  refine H1.out.mono ?_
  rintro e w1 ⟨rfl, rfl⟩
  clear H1
  go_wp2_with fail
  go_loop [5, 6] (fun n i => ∃ k : Nat, k ≤ a1.size ∧ i = .int .i64 (k : Int) ∧ n = .int .i64 (Pl.sumF n0 (a1.data.toList.take k) : Nat)) (fun _ i => a1.size - (intOf i).toNat)
  case atStart => exact ⟨0, Nat.zero_le _, rfl, rfl⟩
  case round =>
    obtain ⟨k, hk, rfl, rfl⟩ := hrel
    have hd := Pl.sumF_lt (a1.data.toList.take k) n0 hlt0
    by_cases hlt : k < a1.size
    · have hsn := Pl.sumF_snoc n0 (a1.data.toList.take k) a1[k]
      rw [← Pl.take_snoc a1 k hlt] at hsn
      have hb : a1[k].toNat < 256 := a1[k].toNat_lt
      have HS := Lib.hid hsn
      clear hsn
      go_wp2
      go_round
      case rel => exact ⟨k + 1, by omega, by go_num, by rw [HS.out]; go_num⟩
      case measure => simp [intOf]; omega
    · have hall : (a1.data.toList.take k) = a1.data.toList := List.take_of_length_le (by rw [Pl.length_toList]; omega)
      rw [hall] at hd ⊢
      clear hall
      generalize Pl.sumF n0 a1.data.toList = n1 at *
      go_wp2_with fail
      refine H2.out.mono ?_
      rintro e w1 ⟨rfl, rfl⟩
      go_wp2_with fail
      refine (awake_any _).mono ?_
      rintro e w1 ⟨rfl, hb⟩
      go_wp2_with fail
      go_ret
      exact ⟨rfl, hb⟩
end Go.Proofs.Ytepgphjaejhcjaa.numsSums
