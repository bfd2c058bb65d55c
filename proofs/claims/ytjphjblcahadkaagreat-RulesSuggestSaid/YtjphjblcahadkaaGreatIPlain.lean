/-
  PLAIN: names; an item; whether it may be kept.
-/
import Derived.Test.YtjphjblcahadkaaGreatGPlain
import Derived.Test.YtjphjblcahadkaaGreatHO
import Derived.Lib.Bytealg
namespace Go.Proofs.YtjphjblcahadkaaGreat.Pl
set_option linter.unusedVariables false

theorem take_snoc (s : ByteArray) (k : Nat) (h : k < s.size) : s.data.toList.take (k + 1) = s.data.toList.take k ++ [s[k]] := by
  rw [List.take_succ_eq_append_getElem (by simpa using h)]; rfl
theorem length_toList (s : ByteArray) : s.data.toList.length = s.size := by rw [Array.length_toList]; rfl
/-- May a byte stand in a name? -/
def good (c : UInt8) : Bool := decide (33 ≤ c.toNat) && decide (c.toNat ≤ 126)
/-- What Name answers. -/
def nameE (l : List UInt8) : Nat := if 12 < l.length then 4 else if l = [] then 3 else if l.all good then 0 else 3
def nmE (s : ByteArray) : Nat := nameE s.data.toList
theorem nmE_any (s : ByteArray) : nmE s = 0 ∨ nmE s = 3 ∨ nmE s = 4 := by
  unfold nmE nameE; split
  · exact .inr (.inr rfl)
  · split
    · exact .inr (.inl rfl)
    · split
      · exact .inl rfl
      · exact .inr (.inl rfl)
theorem nmE_zero {s : ByteArray} (h : nmE s = 0) : 1 ≤ s.size ∧ s.size ≤ 12 := by
  unfold nmE nameE at h
  rw [length_toList] at h
  split at h
  · omega
  · split at h
    · omega
    · rename_i h1 h2
      refine ⟨?_, by omega⟩
      rcases Nat.eq_zero_or_pos s.size with h0 | h0
      · exact absurd (List.eq_nil_of_length_eq_zero ((length_toList s).trans h0)) h2
      · exact h0
theorem compare_cmp : ∀ (a b : List UInt8), Lib.compareBytes a b = if Op.bytesLess a b = true then -1 else if (a == b) = true then 0 else 1
  | [], [] => by decide
  | [], _ :: _ => by rw [Go.Proofs.bytesLess_eq]; simp [Lib.compareBytes]
  | _ :: _, [] => by rw [Go.Proofs.bytesLess_eq]; simp [Lib.compareBytes]
  | x :: a, y :: b => by
    have ih := compare_cmp a b
    rw [Go.Proofs.bytesLess_eq] at ih ⊢
    unfold Lib.compareBytes
    by_cases h1 : x < y
    · have : decide (x :: a < y :: b) = true := by simp [List.cons_lt_cons_iff, h1]
      rw [if_pos h1, if_pos this]
    · by_cases h2 : y < x
      · have h3 : ¬ x = y := fun e => by subst e; exact h1 h2
        have : ¬ decide (x :: a < y :: b) = true := by simp [List.cons_lt_cons_iff, h1, h3]
        rw [if_neg h1, if_pos h2, if_neg this]
        simp [h3]
      · have h3 : x = y := UInt8.le_antisymm (UInt8.not_lt.1 h2) (UInt8.not_lt.1 h1)
        subst h3
        rw [if_neg h1, if_neg h2, ih]
        simp
theorem compare_eq (a b : ByteArray) : Lib.compareBytes a.data.toList b.data.toList = cmp a b := by
  rw [compare_cmp, ← ByteArray.toList_eq, ← ByteArray.toList_eq]; rfl

/-- An item. -/
structure It where
  code : ByteArray
  nm : Nat → ByteArray
  fc : Nat → Int
  vol : Int
  wei : Int
  lots : Bool
  serial : Bool
  chk : Bool
def It.units (x : It) : List Value := [.string (x.nm 0), .int .i64 (x.fc 0), .string (x.nm 1), .int .i64 (x.fc 1), .string (x.nm 2), .int .i64 (x.fc 2), .string (x.nm 3), .int .i64 (x.fc 3)]
def It.cells (x : It) : List Value := [.string x.code, .string (x.nm 0), .int .i64 (x.fc 0), .string (x.nm 1), .int .i64 (x.fc 1), .string (x.nm 2), .int .i64 (x.fc 2), .string (x.nm 3), .int .i64 (x.fc 3), .int .i64 x.vol, .int .i64 x.wei, .bool x.lots, .bool x.serial, .bool x.chk]
def at4 {α : Type} (a b c d : α) : Nat → α
  | 0 => a
  | 1 => b
  | 2 => c
  | _ => d
theorem It.of {cs : List Value} (h : Fits kItem cs) : ∃ x : It, cs = x.cells := by
  match cs, h with
  | [c0, c1, c2, c3, c4, c5, c6, c7, c8, c9, c10, c11, c12, c13], h =>
    obtain ⟨⟨a0, rfl⟩, ⟨a1, rfl⟩, ⟨a2, rfl⟩, ⟨a3, rfl⟩, ⟨a4, rfl⟩, ⟨a5, rfl⟩, ⟨a6, rfl⟩, ⟨a7, rfl⟩, ⟨a8, rfl⟩, ⟨a9, rfl⟩, ⟨a10, rfl⟩, ⟨a11, rfl⟩, ⟨a12, rfl⟩, ⟨a13, rfl⟩, _⟩ := h
    exact ⟨⟨a0, at4 a1 a3 a5 a7, at4 a2 a4 a6 a8, a9, a10, a11, a12, a13⟩, rfl⟩
theorem It.fits (x : It) : Fits kItem x.cells := ⟨⟨_, rfl⟩, ⟨_, rfl⟩, ⟨_, rfl⟩, ⟨_, rfl⟩, ⟨_, rfl⟩, ⟨_, rfl⟩, ⟨_, rfl⟩, ⟨_, rfl⟩, ⟨_, rfl⟩, ⟨_, rfl⟩, ⟨_, rfl⟩, ⟨_, rfl⟩, ⟨_, rfl⟩, ⟨_, rfl⟩, trivial⟩
/-- No text is longer than a machine can hold. -/
structure It.Ok (x : It) : Prop where
  code : x.code.size ≤ 9223372036854775807
  nm : ∀ i, i < 4 → (x.nm i).size ≤ 9223372036854775807
theorem It.ok_of {x : It} (h : ∀ v ∈ x.cells, Mild v) : x.Ok :=
  ⟨h (.string x.code) (by simp [It.cells]), fun i hi => by
    match i, hi with
    | 0, _ => exact h (.string (x.nm 0)) (by simp [It.cells])
    | 1, _ => exact h (.string (x.nm 1)) (by simp [It.cells])
    | 2, _ => exact h (.string (x.nm 2)) (by simp [It.cells])
    | 3, _ => exact h (.string (x.nm 3)) (by simp [It.cells])
    | i + 4, hi => omega⟩
/-- The word 'each'. -/
abbrev each : ByteArray := ⟨#[101, 97, 99, 104]⟩
/-- Is a name that of an earlier unit? -/
def dup (x : It) (j : Nat) : Bool := (List.range j).any fun i => eqv (x.nm i) (x.nm j)
/-- What is wrong with a unit. -/
def uE (x : It) (j : Nat) : Nat :=
  if (x.nm j).size = 0 then (if x.fc j = 0 then 0 else 5)
  else if nmE (x.nm j) ≠ 0 then nmE (x.nm j)
  else if eqv (x.nm j) each = true ∨ dup x j = true then 11
  else if x.fc j < 2 ∨ 1000000 < x.fc j then 5 else 0
/-- What is wrong with the units. -/
def unE (x : It) : Nat := if uE x 0 ≠ 0 then uE x 0 else if uE x 1 ≠ 0 then uE x 1 else if uE x 2 ≠ 0 then uE x 2 else uE x 3
theorem unE_at {x : It} {j : Nat} (hj : j < 4) (h : ∀ i, i < j → uE x i = 0) (he : uE x j ≠ 0) : unE x = uE x j := by
  unfold unE
  match j, hj with
  | 0, _ => rw [if_pos he]
  | 1, _ => rw [if_neg (by simp [h 0]), if_pos he]
  | 2, _ => rw [if_neg (by simp [h 0]), if_neg (by simp [h 1]), if_pos he]
  | 3, _ => rw [if_neg (by simp [h 0]), if_neg (by simp [h 1]), if_neg (by simp [h 2])]
  | j + 4, hj => omega
theorem unE_zero {x : It} (h : ∀ i, i < 4 → uE x i = 0) : unE x = 0 := by
  unfold unE; rw [h 0 (by omega), h 1 (by omega), h 2 (by omega), h 3 (by omega)]; rfl
theorem unE_all {x : It} (h : unE x = 0) (i : Nat) (hi : i < 4) : uE x i = 0 := by
  unfold unE at h
  split at h
  · omega
  · split at h
    · omega
    · split at h
      · omega
      · match i, hi with
        | 0, _ => omega
        | 1, _ => omega
        | 2, _ => omega
        | 3, _ => omega
        | i + 4, hi => omega
/-- What is wrong with an item's measures, and its lots. -/
def meE (x : It) : Nat := if x.vol < 0 ∨ 1000000 < x.vol ∨ x.wei < 0 ∨ 1000000 < x.wei then 5 else if (x.serial && !x.lots) = true then 21 else 0
/-- May an item be kept? -/
def chE (x : It) : Nat := if nmE x.code ≠ 0 then nmE x.code else if unE x ≠ 0 then unE x else meE x
end Go.Proofs.YtjphjblcahadkaaGreat.Pl
