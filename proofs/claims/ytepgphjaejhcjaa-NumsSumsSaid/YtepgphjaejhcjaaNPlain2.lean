/-
  PLAIN MATHEMATICS: the encoding of numbers as bytes.
-/
import Derived.Test.YtepgphjaejhcjaaNPlain
namespace Go.Proofs.Ytepgphjaejhcjaa.Pl

/-- The digits of a number to the base 128, so many at most. -/
def encF : Nat → Nat → List UInt8
  | 0, n => [UInt8.ofNat n]
  | f + 1, n => if 128 ≤ n then UInt8.ofNat (n % 128 + 128) :: encF f (n / 128) else [UInt8.ofNat n]
def enc (n : Nat) : List UInt8 := encF 8 n
def encs (zs : List Int) : List UInt8 := zs.flatMap fun z => enc z.toNat
theorem encF_len : ∀ f n, (encF f n).length ≤ f + 1 := by
  intro f
  induction f with
  | zero => intro n; simp [encF]
  | succ f ih =>
    intro n
    rw [encF]
    split
    · have := ih (n / 128); simp only [List.length_cons]; omega
    · simp
theorem enc_len (n : Nat) : (enc n).length ≤ 9 := encF_len 8 n
theorem encF_more {f n : Nat} (h : 128 ≤ n) : encF (f + 1) n = UInt8.ofNat (n % 128 + 128) :: encF f (n / 128) := by rw [encF, if_pos h]
theorem encF_last {f n : Nat} (h : n < 128) : encF f n = [UInt8.ofNat n] := by
  cases f with
  | zero => rfl
  | succ f => rw [encF, if_neg (by omega)]
theorem encs_snoc (zs : List Int) (z : Int) : encs (zs ++ [z]) = encs zs ++ enc z.toNat := by simp [encs, List.flatMap_append]
theorem encs_len (zs : List Int) : (encs zs).length ≤ 9 * zs.length := by
  induction zs with
  | nil => simp [encs]
  | cons z t ih =>
    have h : encs (z :: t) = enc z.toNat ++ encs t := by simp [encs]
    have := enc_len z.toNat
    rw [h, List.length_append, List.length_cons]; omega
theorem f_pos {f m : Nat} (h : 128 ≤ m) (hm : m < 128 ^ (f + 1)) : 0 < f := by
  cases f with
  | zero => simp at hm; omega
  | succ f => omega
theorem div_lt {f m : Nat} (hm : m < 128 ^ (f + 1 + 1)) : m / 128 < 128 ^ (f + 1) := by
  rw [Nat.pow_succ] at hm; omega
theorem encs_take_succ (zs : List Int) (k : Nat) (h : k < zs.length) : encs (zs.take (k + 1)) = encs (zs.take k) ++ enc (zs.getD k 0).toNat := by
  rw [List.take_succ_eq_append_getElem h, encs_snoc, List.getD_eq_getElem?_getD, List.getElem?_eq_getElem h]; rfl
theorem encs_take_len (zs : List Int) (k : Nat) : (encs (zs.take k)).length ≤ 9 * k := by
  have h := encs_len (zs.take k)
  have : (zs.take k).length ≤ k := List.length_take_le _ _
  omega
theorem mk_app (x : List UInt8) (s : ByteArray) : (⟨x.toArray⟩ : ByteArray) ++ s = ⟨(x ++ s.data.toList).toArray⟩ := by
  apply ByteArray.ext
  simp [ByteArray.data_append]
end Go.Proofs.Ytepgphjaejhcjaa.Pl
