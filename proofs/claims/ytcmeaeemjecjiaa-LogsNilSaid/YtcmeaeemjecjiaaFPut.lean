/-
  CONTRACTS of putBig and takeBig, isNumber and isPart.
-/
import Derived.Test.YtcmeaeemjecjiaaFBase
import Derived.Laws.BitsLemmas
namespace Go.Proofs.Ytcmeaeemjecjiaa.Fm
open Go.RowKit

/-- Byte k of a field of so many bytes. -/
def pv (len : Nat) (n : Int) (k : Nat) : Value := .int .u8 (n / 2 ^ (8 * (len - 1 - k)) % 256)
def putA (c : Array Value) (off len : Nat) (n : Int) : Nat → Array Value
  | 0 => c
  | k + 1 => (putA c off len n k).setIfInBounds (off + k) (pv len n k)
theorem putA_size (c : Array Value) (off len : Nat) (n : Int) (k : Nat) : (putA c off len n k).size = c.size := by
  induction k with
  | zero => rfl
  | succ k ih => simp [putA, ih]

set_option maxRecDepth 100000 in
set_option maxHeartbeats 800000 in
theorem putBig_any (b off len cap : Nat) (t : TypeId) (n : Nat) (c : Array Value) (w : World) (_hn : n ≤ 9223372036854775807) (hl : len ≤ 4) (hc : off + len ≤ c.size) (h : w.heap[b]? = some (.cells c t (0, 0))) :
    Calls Try.prog 37 #[.slice (some ⟨b, off, none⟩) len cap, .int .i64 (n : Int)] w fun e w' =>
      e = .returned (.tuple #[]) ∧ w'.heap[b]? = some (.cells (putA c off len n len) t (0, 0)) ∧ Only (fun i => i = b) w w' := by
  have HB := Lib.hid h
  clear h
  go_enter Try.func37, Try.ntmps37
  go_wp2_with fail
  go_loopw [7] (fun i wr => ∃ k : Nat, k ≤ len ∧ i = .int .i64 (k : Int) ∧ Hid (wr.heap[b]? = some (.cells (putA c off len n k) t (0, 0))) ∧ Hid (Only (fun i => i = b) w wr)) (fun i _ => len - (intOf i).toNat)
  case atStart => exact ⟨0, by omega, rfl, HB, Lib.hid (Only.refl _ _)⟩
  case round =>
    obtain ⟨k, hk, rfl, HG, HO⟩ := hrel
    by_cases hlt : k < len
    · have hlk : off + k < (putA c off len n k).size := by rw [putA_size]; omega
      have hc0 : wr.cell? ⟨b, off + k, none⟩ = some ((putA c off len n k)[off + k]) := by rw [cell_of_block HG.out, Array.getElem?_eq_getElem hlk]
      have hf : wr.frozen? ⟨b, off + k, none⟩ = false := frozen_of_block HG.out
      have h1 : (0 : Int) ≤ (k : Int) := by omega
      have h2 : (k : Int) < (len : Int) := by omega
      generalize (putA c off len n k)[off + k] = u0 at hc0
      clear hlk
      go_wp2_with fail
      go_roundw
      case rel => exact ⟨k + 1, by omega, by go_num, Lib.hid (by rw [block_setCell HG.out]; rfl), Lib.hid (HO.out.tr (Only.set _ _ _ _))⟩
      case measure => simp [intOf]; omega
    · obtain rfl : k = len := by omega
      go_wp2_with fail
      go_end0
      exact ⟨rfl, HG.out, HO.out⟩

theorem or_byte (m d : Nat) (hm : m < 16777216) (hd : d < 256) : bits .or .i64 ((m : Int) * 256) (d : Int) = ((m * 256 + d : Nat) : Int) := by
  have hw : (m : Int) * 256 = ((m * 256 : Nat) : Int) := by simp
  have hwr : ∀ n : Int, 0 ≤ n → n < 2 ^ 63 → IntKind.i64.wrap n = n := fun n h0 h1 => by rw [IntKind.wrap_i64]; omega
  rw [hw, (bits_nat .i64 63 (by decide) hwr _ _ (by omega) (by omega)).2, Nat.mul_comm m, show 256 = 2 ^ 8 from rfl, ← Nat.two_pow_add_eq_or_of_lt (by omega : d < 2 ^ 8) m]

def numK (l : List UInt8) : Nat := l.foldl (fun a b => a * 256 + b.toNat) 0
theorem numK_snoc (l : List UInt8) (c : UInt8) : numK (l ++ [c]) = numK l * 256 + c.toNat := by simp [numK]
theorem numK_lt (l : List UInt8) : numK l < 256 ^ l.length := by
  suffices h : ∀ (l : List UInt8), numK l.reverse < 256 ^ l.reverse.length from by have := h l.reverse; rwa [List.reverse_reverse] at this
  intro l
  induction l with
  | nil => simp [numK]
  | cons c r ih =>
    rw [List.reverse_cons, numK_snoc, List.length_append, List.length_singleton, Nat.pow_succ]
    have := c.toNat_lt
    omega
theorem numK_num (s : ByteArray) (hs : s.size = 4) : numK s.data.toList = Pl.numB s := by
  have h : s.data.toList.length = 4 := by rw [Pl.length_toList]; exact hs
  unfold Pl.numB Pl.byteAt
  match e : s.data.toList, h with
  | [a, b, c, d], _ =>
    simp [numK]
    omega

set_option maxRecDepth 100000 in
set_option maxHeartbeats 800000 in
theorem takeBig_any (s : ByteArray) (w : World) (hs : s.size = 4) :
    Calls Try.prog 46 #[.string s] w fun e w' => e = .returned (.int .i64 (Pl.numB s : Int)) ∧ w = w' := by
  have HN := Lib.hid (numK_num s hs)
  go_enter Try.func46, Try.ntmps46
  go_wp2
  go_loop [3, 7] (fun n i => ∃ k : Nat, k ≤ 4 ∧ i = .int .i64 (k : Int) ∧ n = .int .i64 (numK (s.data.toList.take k) : Int)) (fun _ i => 4 - (intOf i).toNat)
  case atStart => exact ⟨0, by omega, rfl, rfl⟩
  case round =>
    obtain ⟨k, hk, rfl, rfl⟩ := hrel
    by_cases hlt : k < 4
    · have hlt2 : k < s.size := by omega
      have hsn := numK_snoc (s.data.toList.take k) s[k]
      rw [← Pl.take_snoc s k hlt2] at hsn
      have hl : numK (s.data.toList.take k) < 16777216 := by
        have h1 := numK_lt (s.data.toList.take k)
        have h2 : (s.data.toList.take k).length ≤ 3 := by rw [List.length_take]; omega
        have h3 : 256 ^ (s.data.toList.take k).length ≤ 256 ^ 3 := Nat.pow_le_pow_right (by omega) h2
        omega
      have hb : s[k].toNat < 256 := s[k].toNat_lt
      have HO := Lib.hid (or_byte _ _ hl hb)
      have HS := Lib.hid hsn
      clear hsn
      generalize numK (s.data.toList.take k) = m at HO HS hl ⊢
      go_wp2
      all_goals
        go_round
        case rel => exact ⟨k + 1, by omega, by go_num, by rw [HS.out, ← HO.out]⟩
        case measure => simp [intOf]; omega
    · obtain rfl : k = 4 := by omega
      go_wp2
      go_ret
      exact ⟨ret_int (by rw [← HN.out, List.take_of_length_le (by rw [Pl.length_toList]; omega)]), rfl⟩

def numOk (x : Int) : Bool := decide (1 ≤ x) && decide (x ≤ 2147483647)
theorem isNumber_any (x : Int) (w : World) : Calls Try.prog 32 #[.int .i64 x] w fun e w' => e = .returned (.bool (numOk x)) ∧ w = w' := by
  by_cases h0 : 1 ≤ x
  · by_cases h1 : x ≤ 2147483647
    · have H := Lib.hid (show numOk x = true from by simp [numOk, h0, h1])
      go_enter Try.func32, Try.ntmps32
      go_wp2
      go_ret
      exact ⟨by rw [H.out]; rfl, rfl⟩
    · have H := Lib.hid (show numOk x = false from by simp [numOk, h1])
      go_enter Try.func32, Try.ntmps32
      go_wp2
      go_ret
      exact ⟨by rw [H.out]; rfl, rfl⟩
  · have H := Lib.hid (show numOk x = false from by simp [numOk, h0])
    go_enter Try.func32, Try.ntmps32
    go_wp2
    go_ret
    exact ⟨by rw [H.out]; rfl, rfl⟩

/-- A part, as a value. -/
def ptV (n p k : Int) (d : ByteArray) : Value := .agg #[.int .i64 n, .int .i64 p, .int .i64 k, .string d]
theorem size_nil (d : ByteArray) : d.toList.isEmpty = decide (d.size = 0) := by
  rw [ByteArray.toList_eq]
  have := Pl.length_toList d
  cases h : d.data.toList with
  | nil => rw [h] at this; simp at this; simp [← this]
  | cons a b => rw [h] at this; simp at this; simp [← this]

set_option maxRecDepth 100000 in
set_option maxHeartbeats 1600000 in
theorem isPart_any (n p k : Nat) (d : ByteArray) (w : World) (hn : n ≤ 4294967295) (hp : p ≤ 255) (hk : k ≤ 255) (hd : d.size ≤ 55) :
    Calls Try.prog 47 #[.agg #[.int .i64 (n : Int), .int .i64 (p : Int), .int .i64 (k : Int), .string d]] w fun e w' => e = .returned (.bool (Pl.okB n p k d.size)) ∧ Below w.heap.size w w' := by
  have hE := size_nil d
  by_cases c1 : 1 ≤ n ∧ n ≤ 2147483647
  · have HX := Lib.hid (show numOk (n : Int) = true from by simp [numOk]; omega)
    by_cases c2 : k ≤ 8
    · by_cases c3 : p < k
      · by_cases c4 : p + 1 < k
        · by_cases c5 : d.size = 55
          · have H := Lib.hid (show Pl.okB n p k d.size = true from (Pl.okB_iff _ _ _ _).2 (by omega))
            clear hE
            go_enter Try.func47, Try.ntmps47
            go_wp2_with fail
            refine (isNumber_any _ _).mono ?_
            rw [HX.out]
            rintro e w1 ⟨rfl, rfl⟩
            go_wp2_with fail
            go_ret
            exact ⟨by rw [H.out]; rfl, (Below.refl _ _).alloc (Nat.le_refl _) _⟩
          · have H := Lib.hid (show Pl.okB n p k d.size = ((d.size : Int) == 55) from (Bool.eq_false_iff.2 (fun h => by have := (Pl.okB_iff _ _ _ _).1 h; omega)).trans (show _ = ((d.size : Int) == 55) from (by simp; omega)))
            clear hE
            go_enter Try.func47, Try.ntmps47
            go_wp2_with fail
            refine (isNumber_any _ _).mono ?_
            rw [HX.out]
            rintro e w1 ⟨rfl, rfl⟩
            go_wp2_with fail
            go_ret
            exact ⟨by rw [H.out]; rfl, (Below.refl _ _).alloc (Nat.le_refl _) _⟩
        · by_cases c5 : d.size = 0
          · rw [decide_eq_true c5] at hE
            by_cases c6 : k = 1
            · have H := Lib.hid (show Pl.okB n p k d.size = true from (Pl.okB_iff _ _ _ _).2 (by omega))
              go_enter Try.func47, Try.ntmps47
              go_wp2_with fail
              refine (isNumber_any _ _).mono ?_
              rw [HX.out]
              rintro e w1 ⟨rfl, rfl⟩
              go_wp2_with fail
              go_ret
              exact ⟨by rw [H.out]; rfl, (Below.refl _ _).alloc (Nat.le_refl _) _⟩
            · have H := Lib.hid (show Pl.okB n p k d.size = ((k : Int) == 1) from (Bool.eq_false_iff.2 (fun h => by have := (Pl.okB_iff _ _ _ _).1 h; omega)).trans (show _ = ((k : Int) == 1) from (by simp; omega)))
              go_enter Try.func47, Try.ntmps47
              go_wp2_with fail
              refine (isNumber_any _ _).mono ?_
              rw [HX.out]
              rintro e w1 ⟨rfl, rfl⟩
              go_wp2_with fail
              go_ret
              exact ⟨by rw [H.out]; rfl, (Below.refl _ _).alloc (Nat.le_refl _) _⟩
          · rw [decide_eq_false c5] at hE
            have H := Lib.hid (show Pl.okB n p k d.size = true from (Pl.okB_iff _ _ _ _).2 (by omega))
            go_enter Try.func47, Try.ntmps47
            go_wp2_with fail
            refine (isNumber_any _ _).mono ?_
            rw [HX.out]
            rintro e w1 ⟨rfl, rfl⟩
            go_wp2_with fail
            go_ret
            exact ⟨by rw [H.out]; rfl, (Below.refl _ _).alloc (Nat.le_refl _) _⟩
      · have H := Lib.hid (show Pl.okB n p k d.size = false from Bool.eq_false_iff.2 (fun h => by have := (Pl.okB_iff _ _ _ _).1 h; omega))
        clear hE
        go_enter Try.func47, Try.ntmps47
        go_wp2_with fail
        refine (isNumber_any _ _).mono ?_
        rw [HX.out]
        rintro e w1 ⟨rfl, rfl⟩
        go_wp2_with fail
        go_ret
        exact ⟨by rw [H.out]; rfl, (Below.refl _ _).alloc (Nat.le_refl _) _⟩
    · have H := Lib.hid (show Pl.okB n p k d.size = false from Bool.eq_false_iff.2 (fun h => by have := (Pl.okB_iff _ _ _ _).1 h; omega))
      clear hE
      go_enter Try.func47, Try.ntmps47
      go_wp2_with fail
      refine (isNumber_any _ _).mono ?_
      rw [HX.out]
      rintro e w1 ⟨rfl, rfl⟩
      go_wp2_with fail
      go_ret
      exact ⟨by rw [H.out]; rfl, (Below.refl _ _).alloc (Nat.le_refl _) _⟩
  · have HX := Lib.hid (show numOk (n : Int) = false from by simp [numOk]; omega)
    have H := Lib.hid (show Pl.okB n p k d.size = false from Bool.eq_false_iff.2 (fun h => by have := (Pl.okB_iff _ _ _ _).1 h; omega))
    clear hE
    go_enter Try.func47, Try.ntmps47
    go_wp2_with fail
    refine (isNumber_any _ _).mono ?_
    rw [HX.out]
    rintro e w1 ⟨rfl, rfl⟩
    go_wp2_with fail
    go_ret
    exact ⟨by rw [H.out]; rfl, (Below.refl _ _).alloc (Nat.le_refl _) _⟩
end Go.Proofs.Ytcmeaeemjecjiaa.Fm
