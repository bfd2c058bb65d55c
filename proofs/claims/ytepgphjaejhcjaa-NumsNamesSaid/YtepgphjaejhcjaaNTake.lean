/-
  CONTRACTS of nums.Take and the reference's Take.
-/
import Derived.Test.YtepgphjaejhcjaaRows
import Derived.Test.YtepgphjaejhcjaaNPlain
import Derived.WalkKit
import Derived.Lib.Hide
import Derived.ProofKit
import Derived.Deep.QuietTactic
import Derived.BigQuiet
import Derived.Laws.BitsLemmas
namespace Go.Proofs.Ytepgphjaejhcjaa
open Go.RowKit

theorem or_step (k m d : Nat) (hk : k < 9) (hm : m < 128 ^ k) (hd : d < 128) :
    bits .or .i64 (m : Int) (wrap64 ((d : Int) * 2 ^ (7 * k))) = ((m + d * 128 ^ k : Nat) : Int) := by
  have h7 : (128 : Nat) ^ k = 2 ^ (7 * k) := by rw [Nat.pow_mul]
  have hp : (2 : Nat) ^ (7 * k) ≤ 2 ^ 56 := Nat.pow_le_pow_right (by decide) (by omega)
  have hd' : d * 2 ^ (7 * k) < 2 ^ 63 := by
    have : d * 2 ^ (7 * k) ≤ 127 * 2 ^ 56 := Nat.mul_le_mul (by omega) hp
    omega
  have hw : wrap64 ((d : Int) * 2 ^ (7 * k)) = ((d * 2 ^ (7 * k) : Nat) : Int) := by
    rw [show (d : Int) * 2 ^ (7 * k) = ((d * 2 ^ (7 * k) : Nat) : Int) from by simp]
    exact IntWalk.wrap64_in _ ⟨by omega, by omega⟩
  have hwr : ∀ n : Int, 0 ≤ n → n < 2 ^ 63 → IntKind.i64.wrap n = n := fun n h0 h1 => by rw [IntKind.wrap_i64]; omega
  rw [hw, (bits_nat .i64 63 (by decide) hwr m _ (by omega) hd').2, h7, Nat.or_comm, Nat.mul_comm d, ← Nat.two_pow_add_eq_or_of_lt (h7 ▸ hm) d, Nat.add_comm]

/-- What Take answers, as a value. -/
def takeV : Option (Nat × List UInt8) → Value
  | none => .tuple #[.int .i64 0, .string ⟨#[]⟩, .int .i64 44]
  | some (n, r) => .tuple #[.int .i64 (n : Int), .string ⟨r.toArray⟩, .int .i64 0]

set_option maxRecDepth 100000 in
theorem take_any (s : ByteArray) (w : World) (hs : s.size ≤ maxLen) :
    Calls Try.prog 21 #[.string s] w fun e w' => e = .returned (takeV (Pl.takeL s.data.toList)) ∧ ∃ n, w' = w.drewN n := by
  unfold maxLen at hs
  go_enter Try.func21, Try.ntmps21
  go_wp2
  all_goals
    go_loop [5, 11] (fun n i => ∃ k m : Nat, k ≤ s.size ∧ k ≤ 9 ∧ i = .int .i64 k ∧ n = .int .i64 m ∧ Hid (m < 128 ^ k) ∧ Hid (Pl.takeF (9 - k) k m (s.data.toList.drop k) = Pl.takeL s.data.toList)) (fun _ i => s.size - (intOf i).toNat)
    case atStart => exact ⟨0, 0, Nat.zero_le _, by omega, rfl, rfl, Lib.hid (by decide), Lib.hid rfl⟩
    case round =>
        obtain ⟨k, m, hk, hk9, rfl, rfl, hm, ht⟩ := hrel
        by_cases hlt : k < s.size ∧ k < 9
        · obtain ⟨hlt, h9⟩ := hlt
          have hb : s[k].toNat < 256 := s[k].toNat_lt
          by_cases h128 : 128 ≤ s[k].toNat
          · have ho := or_step k m (s[k].toNat - 128) h9 hm.out (by omega)
            have HO := Lib.hid ho
            have HT := Lib.hid ((Pl.take_more s k m hlt h9 h128).symm.trans ht.out)
            clear ho ht
            go_wp2
            go_round
            case rel => 
              refine ⟨k + 1, m + (s[k].toNat - 128) * 128 ^ k, by omega, by omega, by go_num, ?_, Lib.hid (Pl.pow_step hm.out (by omega)), HT⟩
              rw [← HO.out, Int.natCast_sub h128]; rfl
            case measure => simp [intOf]; omega
          · by_cases h0 : s[k].toNat = 0 ∧ 0 < k
            · obtain ⟨h0, hk0⟩ := h0
              have HT := Lib.hid (ht.out.symm.trans (Pl.take_zero s k m hlt h9 h0 hk0))
              clear ht
              go_wp2
              go_ret3
              exact ⟨by rw [HT.out]; rfl, 0, rfl⟩
            · have ho := or_step k m s[k].toNat h9 hm.out (by omega)
              have HO := Lib.hid ho
              have HT := Lib.hid (ht.out.symm.trans (Pl.take_last s k m hlt h9 (by omega) (by omega)))
              clear ho ht
              by_cases hc : s[k].toNat = 0
              · obtain rfl : k = 0 := by omega
                go_wp2
                go_quiet (fail)
                go_wp2
                go_ret3
                refine ⟨?_, _, rfl⟩
                rw [HT.out, takeV, ← HO.out, Pl.ext_drop, hc, show wrap64 (((0 : Nat) : Int) * 2 ^ (7 * 0)) = 0 from IntWalk.wrap64_in 0 (by decide)]
                rfl
              · go_wp2
                go_quiet (fail)
                go_wp2
                go_ret3
                refine ⟨?_, _, rfl⟩
                rw [HT.out, takeV, ← HO.out, Pl.ext_drop]
                rfl
        · have HT := Lib.hid (ht.out.symm.trans (Pl.take_out s k m (by omega)))
          clear ht
          go_wp2
          go_ret3
          exact ⟨by rw [HT.out]; rfl, 0, rfl⟩

set_option maxRecDepth 100000 in
theorem rtake_any (s : ByteArray) (w : World) (hs : s.size ≤ maxLen) :
    Calls Try.prog 22 #[.string s] w fun e w' => e = .returned (takeV (Pl.takeL s.data.toList)) ∧ ∃ n, w' = w.drewN n := by
  unfold maxLen at hs
  go_enter Try.func22, Try.ntmps22
  go_wp2
  go_loop [5, 6] (fun n i => ∃ k m : Nat, k ≤ s.size ∧ k ≤ 9 ∧ i = .int .i64 k ∧ n = .int .i64 m ∧ Hid (m < 128 ^ k) ∧ Hid (Pl.takeF (9 - k) k m (s.data.toList.drop k) = Pl.takeL s.data.toList)) (fun _ i => s.size - (intOf i).toNat)
  case atStart => exact ⟨0, 0, Nat.zero_le _, by omega, rfl, rfl, Lib.hid (by decide), Lib.hid rfl⟩
  case round =>
    obtain ⟨k, m, hk, hk9, rfl, rfl, hm, ht⟩ := hrel
    by_cases hlt : k < s.size ∧ k < 9
    · obtain ⟨hlt, h9⟩ := hlt
      have hb : s[k].toNat < 256 := s[k].toNat_lt
      have ho := or_step k m (s[k].toNat % 128) h9 hm.out (by omega)
      have HO := Lib.hid ho
      clear ho
      by_cases h128 : 128 ≤ s[k].toNat
      · have HT := Lib.hid ((Pl.take_more s k m hlt h9 h128).symm.trans ht.out)
        clear ht
        go_wp2
        go_round
        case rel =>
          refine ⟨k + 1, m + (s[k].toNat % 128) * 128 ^ k, by omega, by omega, by go_num, ?_, Lib.hid (Pl.pow_step hm.out (by omega)), ?_⟩
          · rw [← HO.out]; rfl
          · rw [show s[k].toNat % 128 = s[k].toNat - 128 from by omega]; exact HT
        case measure => simp [intOf]; omega
      · by_cases h0 : s[k].toNat = 0 ∧ 0 < k
        · obtain ⟨h0, hk0⟩ := h0
          have HT := Lib.hid (ht.out.symm.trans (Pl.take_zero s k m hlt h9 h0 hk0))
          clear ht
          go_wp2
          go_ret3
          exact ⟨by rw [HT.out]; rfl, 0, rfl⟩
        · have HT := Lib.hid (ht.out.symm.trans (Pl.take_last s k m hlt h9 (by omega) (by omega)))
          clear ht
          by_cases hc : s[k].toNat = 0
          · obtain rfl : k = 0 := by omega
            go_wp2
            go_quiet (fail)
            go_wp2
            go_ret3
            refine ⟨?_, _, rfl⟩
            rw [HT.out, takeV, Pl.ext_drop, show m + s[0].toNat * 128 ^ 0 = m + s[0].toNat % 128 * 128 ^ 0 from by omega, ← HO.out, hc, show wrap64 (((0 % 128 : Nat) : Int) * 2 ^ (7 * 0)) = 0 from IntWalk.wrap64_in 0 (by decide)]
            rfl
          · go_wp2
            go_quiet (fail)
            go_wp2
            go_ret3
            refine ⟨?_, _, rfl⟩
            rw [HT.out, takeV, Pl.ext_drop, show m + s[k].toNat * 128 ^ k = m + s[k].toNat % 128 * 128 ^ k from by rw [Nat.mod_eq_of_lt (by omega)], ← HO.out]
            rfl
    · have HT := Lib.hid (ht.out.symm.trans (Pl.take_out s k m (by omega)))
      clear ht
      by_cases h9 : k < 9
      · go_wp2
        go_ret3
        exact ⟨by rw [HT.out]; rfl, 0, rfl⟩
      · go_wp2
        go_ret3
        exact ⟨by rw [HT.out]; rfl, 0, rfl⟩
end Go.Proofs.Ytepgphjaejhcjaa
