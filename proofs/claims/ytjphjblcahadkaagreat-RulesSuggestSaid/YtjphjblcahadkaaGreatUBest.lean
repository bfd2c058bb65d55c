/-
  PLAIN: the first least of those that are taken; orders that are weak: by one thing, then by another.
-/
import Derived.Test.YtjphjblcahadkaaGreatGPlain
namespace Go.Proofs.YtjphjblcahadkaaGreat
set_option linter.unusedVariables false
namespace Pl

/-- The first least of those that P takes, among the first k. -/
def best (less : Nat → Nat → Bool) (P : Nat → Bool) : Nat → Option Nat
  | 0 => none
  | k + 1 => if P k = true then (match best less P k with
      | none => some k
      | some j => if less k j = true then some k else some j) else best less P k
theorem best_lt {less : Nat → Nat → Bool} {P : Nat → Bool} : ∀ {k i : Nat}, best less P k = some i → i < k ∧ P i = true
  | 0, i, h => by simp [best] at h
  | k + 1, i, h => by
    unfold best at h
    by_cases hp : P k = true
    · rw [if_pos hp] at h
      cases hb : best less P k with
      | none => rw [hb] at h; simp only [Option.some.injEq] at h; subst h; exact ⟨by omega, hp⟩
      | some j =>
        rw [hb] at h
        simp only [] at h
        by_cases hl : less k j = true
        · rw [if_pos hl] at h; simp only [Option.some.injEq] at h; subst h; exact ⟨by omega, hp⟩
        · rw [if_neg hl] at h; simp only [Option.some.injEq] at h; subst h
          have := best_lt hb
          exact ⟨by omega, this.2⟩
    · rw [if_neg hp] at h
      have := best_lt h
      exact ⟨by omega, this.2⟩
theorem best_none {less : Nat → Nat → Bool} {P : Nat → Bool} : ∀ {k : Nat}, best less P k = none ↔ ∀ i, i < k → P i = false
  | 0 => ⟨fun _ i h => by omega, fun _ => rfl⟩
  | k + 1 => by
    constructor
    · intro h i hi
      unfold best at h
      by_cases hp : P k = true
      · rw [if_pos hp] at h
        cases hb : best less P k with
        | none => rw [hb] at h; simp at h
        | some j => rw [hb] at h; simp only [] at h; split at h <;> simp at h
      · rw [if_neg hp] at h
        by_cases hik : i = k
        · subst hik; simpa using hp
        · exact best_none.1 h i (by omega)
    · intro h
      unfold best
      rw [if_neg (by rw [h k (by omega)]; simp)]
      exact best_none.2 (fun i hi => h i (by omega))
theorem best_of {less : Nat → Nat → Bool} {P : Nat → Bool} {i : Nat} (hp : P i = true) (hb : ∀ j, j < i → P j = true → less i j = true) : ∀ {k : Nat}, i < k → (∀ j, j < k → i < j → P j = true → less j i = false) → best less P k = some i
  | 0, h, _ => by omega
  | k + 1, h, ha => by
    unfold best
    by_cases hik : i = k
    · subst hik
      rw [if_pos hp]
      cases hq : best less P i with
      | none => rfl
      | some j =>
        have := best_lt hq
        simp only []
        rw [if_pos (hb j this.1 this.2)]
    · have ih := best_of hp hb (k := k) (by omega) (fun j hj hij hpj => ha j (by omega) hij hpj)
      by_cases hpk : P k = true
      · rw [if_pos hpk, ih]
        simp only []
        rw [if_neg (by rw [ha k (by omega) (by omega) hpk]; simp)]
      · rw [if_neg hpk]; exact ih
theorem best_congr {less less' : Nat → Nat → Bool} {P P' : Nat → Bool} : ∀ {k : Nat}, (∀ i, i < k → P i = P' i) → (∀ i j, i < k → j < k → less i j = less' i j) → best less P k = best less' P' k
  | 0, _, _ => rfl
  | k + 1, hP, hl => by
    have ih := best_congr (less := less) (less' := less') (P := P) (P' := P') (k := k) (fun i hi => hP i (by omega)) (fun i j hi hj => hl i j (by omega) (by omega))
    unfold best
    rw [hP k (by omega), ih]
    cases hb : best less' P' k with
    | none => rfl
    | some j =>
      have := (best_lt hb).1
      simp only []
      rw [hl k j (by omega) (by omega)]
theorem best_no {less : Nat → Nat → Bool} {P : Nat → Bool} {k : Nat} (h : P k = false) : best less P (k + 1) = best less P k := by
  show (if P k = true then _ else _) = _
  rw [if_neg (by rw [h]; simp)]
theorem best_first {less : Nat → Nat → Bool} {P : Nat → Bool} {k : Nat} (h : P k = true) (hb : best less P k = none) : best less P (k + 1) = some k := by
  show (if P k = true then _ else _) = _
  rw [if_pos h, hb]
theorem best_less {less : Nat → Nat → Bool} {P : Nat → Bool} {k j : Nat} (h : P k = true) (hb : best less P k = some j) (hl : less k j = true) : best less P (k + 1) = some k := by
  show (if P k = true then _ else _) = _
  rw [if_pos h, hb]
  simp only []
  rw [if_pos hl]
theorem best_keep {less : Nat → Nat → Bool} {P : Nat → Bool} {k j : Nat} (h : P k = true) (hb : best less P k = some j) (hl : less k j = false) : best less P (k + 1) = some j := by
  show (if P k = true then _ else _) = _
  rw [if_pos h, hb]
  simp only []
  rw [if_neg (by rw [hl]; simp)]
/-- A place, or -1. -/
def atI : Option Nat → Int
  | none => -1
  | some j => (j : Int)
/-- An order by which things may be alike. -/
structure Weak {α : Type} (less : α → α → Bool) : Prop where
  irr : ∀ a, less a a = false
  tr : ∀ a b c, less a b = true → less b c = true → less a c = true
  nt : ∀ a b c, less a c = true → less a b = true ∨ less b c = true
theorem Weak.asymm {α : Type} {less : α → α → Bool} (W : Weak less) {a b : α} (h : less a b = true) : less b a = false := by
  cases hq : less b a with
  | false => rfl
  | true => have := W.tr a b a h hq; rw [W.irr a] at this; cases this
theorem best_min {less : Nat → Nat → Bool} {P : Nat → Bool} (W : Weak less) : ∀ {k i : Nat}, best less P k = some i → (∀ j, j < k → P j = true → less j i = false) ∧ ∀ j, j < i → P j = true → less i j = true
  | 0, i, h => by simp [best] at h
  | k + 1, i, h => by
    unfold best at h
    by_cases hp : P k = true
    · rw [if_pos hp] at h
      cases hb : best less P k with
      | none =>
        rw [hb] at h
        simp only [Option.some.injEq] at h
        subst h
        have hn := best_none.1 hb
        refine ⟨fun j hj hpj => ?_, fun j hj hpj => ?_⟩
        · by_cases hjk : j = k
          · subst hjk; exact W.irr _
          · rw [hn j (by omega)] at hpj; cases hpj
        · rw [hn j hj] at hpj; cases hpj
      | some q =>
        rw [hb] at h
        simp only [] at h
        have ih := best_min W hb
        have hq := best_lt hb
        by_cases hl : less k q = true
        · rw [if_pos hl] at h
          simp only [Option.some.injEq] at h
          subst h
          have key : ∀ j, j < k → P j = true → less k j = true := fun j hj hpj => by
            rcases W.nt k j q hl with h1 | h1
            · exact h1
            · rw [ih.1 j hj hpj] at h1; cases h1
          refine ⟨fun j hj hpj => ?_, key⟩
          by_cases hjk : j = k
          · subst hjk; exact W.irr _
          · exact W.asymm (key j (by omega) hpj)
        · rw [if_neg hl] at h
          simp only [Option.some.injEq] at h
          subst h
          refine ⟨fun j hj hpj => ?_, ih.2⟩
          by_cases hjk : j = k
          · subst hjk; simpa using hl
          · exact ih.1 j (by omega) hpj
    · rw [if_neg hp] at h
      have ih := best_min W h
      refine ⟨fun j hj hpj => ?_, ih.2⟩
      by_cases hjk : j = k
      · subst hjk; exact absurd hpj hp
      · exact ih.1 j (by omega) hpj
/-- The first least of more, if it is one of those that P takes, is the first least of these. -/
theorem best_sub {less : Nat → Nat → Bool} {P A : Nat → Bool} {k i : Nat} (W : Weak less) (h : best less A k = some i) (hp : P i = true) (hs : ∀ j, j < k → P j = true → A j = true) : best less P k = some i := by
  have hl := best_lt h
  have hm := best_min W h
  exact best_of hp (fun j hj hpj => hm.2 j hj (hs j (by omega) hpj)) hl.1 (fun j hj _ hpj => hm.1 j hj (hs j hj hpj))
/-- First by one thing, then by another. -/
def lex {α : Type} (l m : α → α → Bool) (a b : α) : Bool := l a b || (!l b a && m a b)
theorem Weak.lex {α : Type} {l m : α → α → Bool} (L : Weak l) (M : Weak m) : Weak (Pl.lex l m) where
  irr a := by simp [Pl.lex, L.irr, M.irr]
  tr a b c h1 h2 := by
    simp only [Pl.lex, Bool.or_eq_true, Bool.and_eq_true, Bool.not_eq_true'] at h1 h2 ⊢
    rcases h1 with h1 | ⟨h1, h1'⟩
    · rcases h2 with h2 | ⟨h2, h2'⟩
      · exact .inl (L.tr a b c h1 h2)
      · rcases L.nt a c b h1 with h3 | h3
        · exact .inl h3
        · rw [h2] at h3; cases h3
    · rcases h2 with h2 | ⟨h2, h2'⟩
      · rcases L.nt b a c h2 with h3 | h3
        · rw [h1] at h3; cases h3
        · exact .inl h3
      · refine .inr ⟨?_, M.tr a b c h1' h2'⟩
        cases hq : l c a with
        | false => rfl
        | true =>
          rcases L.nt c b a hq with h3 | h3
          · rw [h2] at h3; cases h3
          · rw [h1] at h3; cases h3
  nt a b c h := by
    simp only [Pl.lex, Bool.or_eq_true, Bool.and_eq_true, Bool.not_eq_true'] at h ⊢
    rcases h with h | ⟨h, h'⟩
    · rcases L.nt a b c h with h3 | h3
      · exact .inl (.inl h3)
      · exact .inr (.inl h3)
    · cases h1 : l a b with
      | true => exact .inl (.inl rfl)
      | false =>
        cases h2 : l b c with
        | true => exact .inr (.inl rfl)
        | false =>
          have h3 : l b a = false := by
            cases hq : l b a with
            | false => rfl
            | true =>
              rcases L.nt b c a hq with h4 | h4
              · rw [h2] at h4; cases h4
              · rw [h] at h4; cases h4
          have h5 : l c b = false := by
            cases hq : l c b with
            | false => rfl
            | true =>
              rcases L.nt c a b hq with h4 | h4
              · rw [h] at h4; cases h4
              · rw [h1] at h4; cases h4
          rcases M.nt a b c h' with h6 | h6
          · exact .inl (.inr ⟨h3, h6⟩)
          · exact .inr (.inr ⟨h5, h6⟩)
theorem Weak.int {α : Type} (f : α → Int) : Weak (fun a b : α => decide (f a < f b)) where
  irr a := by simp
  tr a b c h1 h2 := by simp only [decide_eq_true_eq] at *; omega
  nt a b c h := by simp only [decide_eq_true_eq] at *; omega
theorem Weak.flag {α : Type} (f : α → Bool) : Weak (fun a b : α => !f a && f b) where
  irr a := by cases f a <;> rfl
  tr a b c h1 h2 := by revert h1 h2; cases f a <;> cases f b <;> cases f c <;> simp
  nt a b c h := by revert h; cases f a <;> cases f b <;> cases f c <;> simp
theorem Weak.text {α : Type} (f : α → ByteArray) : Weak (fun a b : α => lt (f a) (f b)) where
  irr a := lt_irrefl _
  tr a b c h1 h2 := lt_trans h1 h2
  nt a b c h := by
    rcases lt_tri (f a) (f b) with h1 | h1 | h1
    · exact .inl h1
    · rw [h1] at h; exact .inr h
    · exact .inr (lt_trans h1 h)
theorem Weak.on {α β : Type} {less : α → α → Bool} (W : Weak less) (f : β → α) : Weak (fun a b => less (f a) (f b)) :=
  ⟨fun a => W.irr _, fun a b c h1 h2 => W.tr _ _ _ h1 h2, fun a b c h => W.nt _ _ _ h⟩
end Pl
end Go.Proofs.YtjphjblcahadkaaGreat
