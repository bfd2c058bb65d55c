/-
  PLAIN MATHEMATICS of layer 1: the encoding of numbers, the sum, names: lists of bytes alone.
-/
namespace Go.Proofs.Ytepgphjaejhcjaa.Pl

/-- The check of bytes, from a start. -/
def sumF (n : Nat) : List UInt8 → Nat
  | [] => n
  | c :: r => sumF ((n * 31 + c.toNat) % 65521) r
theorem sumF_append (a b : List UInt8) : ∀ n, sumF n (a ++ b) = sumF (sumF n a) b := by
  induction a with
  | nil => intro n; rfl
  | cons c r ih => intro n; simp only [List.cons_append, sumF]; exact ih _
theorem sumF_lt (l : List UInt8) : ∀ n, n < 65521 → sumF n l < 65521 := by
  induction l with
  | nil => intro n h; exact h
  | cons c r ih => intro n _; exact ih _ (Nat.mod_lt _ (by omega))
theorem sumF_snoc (n : Nat) (l : List UInt8) (c : UInt8) : sumF n (l ++ [c]) = (sumF n l * 31 + c.toNat) % 65521 := by
  rw [sumF_append]; rfl
theorem take_snoc (s : ByteArray) (k : Nat) (h : k < s.size) : s.data.toList.take (k + 1) = s.data.toList.take k ++ [s[k]] := by
  rw [List.take_succ_eq_append_getElem (by simpa using h)]; rfl
theorem length_toList (s : ByteArray) : s.data.toList.length = s.size := by rw [Array.length_toList]; rfl
/-- May a byte stand in a name? -/
def good (c : UInt8) : Bool := decide (33 ≤ c.toNat) && decide (c.toNat ≤ 126)
/-- What Name answers. -/
def nameE (l : List UInt8) : Nat := if 12 < l.length then 4 else if l = [] then 3 else if l.all good then 0 else 3
/-- Take, digit by digit: so many digits may still come, this is digit i, so much is gathered. -/
def takeF : Nat → Nat → Nat → List UInt8 → Option (Nat × List UInt8)
  | 0, _, _, _ => none
  | _ + 1, _, _, [] => none
  | f + 1, i, acc, c :: r => if 128 ≤ c.toNat then takeF f (i + 1) (acc + (c.toNat - 128) * 128 ^ i) r else if c.toNat = 0 ∧ 0 < i then none else some (acc + c.toNat * 128 ^ i, r)
def takeL (l : List UInt8) : Option (Nat × List UInt8) := takeF 9 0 0 l
theorem drop_cons (s : ByteArray) (k : Nat) (h : k < s.size) : s.data.toList.drop k = s[k] :: s.data.toList.drop (k + 1) := by
  rw [List.drop_eq_getElem_cons (by simpa using h)]; rfl
theorem take_more (s : ByteArray) (k m : Nat) (h : k < s.size) (h9 : k < 9) (hc : 128 ≤ s[k].toNat) :
    takeF (9 - k) k m (s.data.toList.drop k) = takeF (9 - (k + 1)) (k + 1) (m + (s[k].toNat - 128) * 128 ^ k) (s.data.toList.drop (k + 1)) := by
  rw [drop_cons s k h, show 9 - k = (9 - (k + 1)) + 1 from by omega, takeF, if_pos hc]
theorem take_zero (s : ByteArray) (k m : Nat) (h : k < s.size) (h9 : k < 9) (hc : s[k].toNat = 0) (h0 : 0 < k) :
    takeF (9 - k) k m (s.data.toList.drop k) = none := by
  rw [drop_cons s k h, show 9 - k = (9 - (k + 1)) + 1 from by omega, takeF, if_neg (by omega), if_pos ⟨hc, h0⟩]
theorem take_last (s : ByteArray) (k m : Nat) (h : k < s.size) (h9 : k < 9) (hc : s[k].toNat < 128) (h0 : s[k].toNat ≠ 0 ∨ k = 0) :
    takeF (9 - k) k m (s.data.toList.drop k) = some (m + s[k].toNat * 128 ^ k, s.data.toList.drop (k + 1)) := by
  rw [drop_cons s k h, show 9 - k = (9 - (k + 1)) + 1 from by omega, takeF, if_neg (by omega), if_neg (by omega)]
theorem take_out (s : ByteArray) (k m : Nat) (h : s.size ≤ k ∨ 9 ≤ k) : takeF (9 - k) k m (s.data.toList.drop k) = none := by
  rcases h with h | h
  · rw [List.drop_of_length_le (by rw [length_toList]; omega)]
    cases 9 - k <;> rfl
  · rw [show 9 - k = 0 from by omega]; rfl
theorem pow_step {k m d : Nat} (hm : m < 128 ^ k) (hd : d < 128) : m + d * 128 ^ k < 128 ^ (k + 1) := by
  rw [Nat.pow_succ]
  have : d * 128 ^ k ≤ 127 * 128 ^ k := Nat.mul_le_mul_right _ (by omega)
  omega
theorem ext_take_drop (s : ByteArray) (a b : Nat) : s.extract a b = ⟨((s.data.toList.take b).drop a).toArray⟩ := by
  apply ByteArray.ext
  rw [ByteArray.data_extract]
  apply Array.ext'
  simp [List.extract_eq_take_drop, List.drop_take]
theorem ext_drop (s : ByteArray) (k : Nat) : s.extract k s.size = ⟨(s.data.toList.drop k).toArray⟩ := by
  rw [ext_take_drop, List.take_of_length_le (by rw [length_toList]; omega)]
theorem takeF_len (l : List UInt8) : ∀ f i m n r, takeF f i m l = some (n, r) → r.length < l.length := by
  induction l with
  | nil => intro f i m n r h; cases f <;> simp [takeF] at h
  | cons c t ih =>
    intro f i m n r h
    cases f with
    | zero => simp [takeF] at h
    | succ f =>
      rw [takeF] at h
      split at h
      · have := ih _ _ _ _ _ h; simp only [List.length_cons]; omega
      · split at h
        · cases h
        · simp only [Option.some.injEq, Prod.mk.injEq] at h
          rw [← h.2]; simp
theorem ext_mk0 (r : List UInt8) (n : Nat) : (ByteArray.mk r.toArray).extract 0 n = ⟨(r.take n).toArray⟩ := by
  rw [ext_take_drop]; simp
theorem ext_mkn (r : List UInt8) (n : Nat) : (ByteArray.mk r.toArray).extract n r.length = ⟨(r.drop n).toArray⟩ := by
  rw [ext_take_drop]; simp
/-- TakeText. -/
def takeTextL (l : List UInt8) : Option (List UInt8 × List UInt8) :=
  match takeL l with
  | none => none
  | some (n, r) => if r.length < n then none else some (r.take n, r.drop n)
end Go.Proofs.Ytepgphjaejhcjaa.Pl
