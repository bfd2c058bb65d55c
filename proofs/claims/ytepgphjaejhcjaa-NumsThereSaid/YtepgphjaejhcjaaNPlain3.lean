/-
  PLAIN MATHEMATICS: what is taken up is what was laid, and the other way round.
-/
import Derived.Test.YtepgphjaejhcjaaNPlain2
namespace Go.Proofs.Ytepgphjaejhcjaa.Pl

theorem ofNat_toNat' (c : UInt8) (n : Nat) (h : n = c.toNat) : UInt8.ofNat n = c := by
  subst h; exact UInt8.ofNat_toNat
/-- Whatever is taken up was laid. -/
theorem takeF_laid (l : List UInt8) : ∀ f i acc n r, takeF f i acc l = some (n, r) → ∃ q, n = acc + q * 128 ^ i ∧ l = encF (f - 1) q ++ r ∧ q < 128 ^ f ∧ (0 < i → 0 < q) := by
  induction l with
  | nil => intro f i acc n r h; cases f <;> simp [takeF] at h
  | cons c t ih =>
    intro f i acc n r h
    cases f with
    | zero => simp [takeF] at h
    | succ f =>
      have hc : c.toNat < 256 := c.toNat_lt
      rw [takeF] at h
      split at h
      · rename_i h128
        obtain ⟨q, hn, hl, hq, hpos⟩ := ih _ _ _ _ _ h
        have hq0 := hpos (by omega)
        cases f with
        | zero => simp at hq; omega
        | succ g =>
          refine ⟨(c.toNat - 128) + 128 * q, ?_, ?_, ?_, fun _ => by omega⟩
          · rw [hn, Nat.pow_succ, Nat.add_mul, Nat.add_assoc, Nat.mul_assoc, Nat.mul_comm 128 (q * 128 ^ i), Nat.mul_assoc]
          · rw [hl, show g + 1 + 1 - 1 = g + 1 from rfl, show g + 1 - 1 = g from rfl, encF_more (by omega)]
            rw [show (c.toNat - 128 + 128 * q) / 128 = q from by omega, ofNat_toNat' c _ (by omega)]
            rfl
          · rw [Nat.pow_succ]; omega
      · split at h
        · cases h
        · rename_i h128 h0
          simp only [Option.some.injEq, Prod.mk.injEq] at h
          refine ⟨c.toNat, h.1.symm, ?_, ?_, fun hi => by omega⟩
          · rw [← h.2, show f + 1 - 1 = f from rfl, encF_last (by omega), ofNat_toNat' c _ rfl]
            rfl
          · rw [Nat.pow_succ]
            have : 0 < 128 ^ f := Nat.pow_pos (by decide)
            omega
theorem takeL_laid {l : List UInt8} {n : Nat} {r : List UInt8} (h : takeL l = some (n, r)) : enc n ++ r = l ∧ n ≤ 9223372036854775807 := by
  obtain ⟨q, hn, hl, hq, _⟩ := takeF_laid l 9 0 0 n r h
  have : n = q := by omega
  subst this
  exact ⟨hl.symm, by omega⟩
theorem toNat_ofNat' (n : Nat) (h : n < 256) : (UInt8.ofNat n).toNat = n := by
  simp; omega
/-- Whatever was laid is taken up. -/
theorem takeF_back (r : List UInt8) : ∀ f i acc q, q < 128 ^ (f + 1) → (0 < i → 0 < q) → takeF (f + 1) i acc (encF f q ++ r) = some (acc + q * 128 ^ i, r) := by
  intro f
  induction f with
  | zero =>
    intro i acc q hq hpos
    have hq' : q < 128 := by simpa using hq
    rw [encF_last hq']
    simp only [List.cons_append, List.nil_append, takeF]
    rw [toNat_ofNat' q (by omega), if_neg (by omega), if_neg (by omega)]
  | succ f ih =>
    intro i acc q hq hpos
    by_cases h : 128 ≤ q
    · rw [encF_more h, List.cons_append, takeF, toNat_ofNat' _ (by omega), if_pos (by omega), ih (i + 1) _ (q / 128) (div_lt hq) (fun _ => by omega)]
      congr 2
      rw [Nat.add_assoc]
      congr 1
      rw [show q % 128 + 128 - 128 = q % 128 from by omega, Nat.pow_succ, Nat.mul_comm (128 ^ i) 128, ← Nat.mul_assoc, ← Nat.add_mul]
      congr 1
      omega
    · rw [encF_last (by omega)]
      simp only [List.cons_append, List.nil_append, takeF]
      rw [toNat_ofNat' q (by omega), if_neg (by omega), if_neg (by omega)]
theorem takeL_back (n : Nat) (r : List UInt8) (h : n ≤ 9223372036854775807) : takeL (enc n ++ r) = some (n, r) := by
  have := takeF_back r 8 0 0 n (by omega) (fun h => by omega)
  simpa [takeL, enc] using this
end Go.Proofs.Ytepgphjaejhcjaa.Pl
