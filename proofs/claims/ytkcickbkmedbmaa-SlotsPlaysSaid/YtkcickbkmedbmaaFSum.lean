/-
  CONTRACTS of nums.Sum and the reference's Sum.
-/
import Derived.Test.YtkcickbkmedbmaaFBase
import Derived.ProofKit
namespace Go.Proofs.Ytkcickbkmedbmaa.Fm
open Go.RowKit


theorem sum_any (s : ByteArray) (w : World) (hs : s.size ≤ maxLen) :
    Calls Try.prog 48 #[.string s] w fun e w' => e = .returned (.int .i64 (Pl.sumF 1 s.data.toList)) ∧ w = w' := by
  unfold maxLen at hs
  go_enter Try.func48, Try.ntmps48
  go_wp2
  go_loop [3, 7] (fun n i => ∃ k : Nat, k ≤ s.size ∧ i = .int .i64 k ∧ n = .int .i64 (Pl.sumF 1 (s.data.toList.take k))) (fun _ i => s.size - (intOf i).toNat)
  case atStart => exact ⟨0, Nat.zero_le _, rfl, rfl⟩
  case round =>
    obtain ⟨k, hk, rfl, rfl⟩ := hrel
    have hd := Pl.sumF_lt (s.data.toList.take k) 1 (by omega)
    by_cases hlt : k < s.size
    · have hsn := Pl.sumF_snoc 1 (s.data.toList.take k) s[k]
      rw [← Pl.take_snoc s k hlt] at hsn
      have hb : s[k].toNat < 256 := s[k].toNat_lt
      have HS := Lib.hid hsn
      clear hsn
      go_wp2
      all_goals
        go_round
        case rel => exact ⟨k + 1, by omega, by go_num, by rw [HS.out]; go_num⟩
        case measure => simp [intOf]; omega
    · go_wp2
      go_ret
      exact ⟨ret_int (by rw [List.take_of_length_le (by rw [Pl.length_toList]; omega)]), rfl⟩
end Go.Proofs.Ytkcickbkmedbmaa.Fm
