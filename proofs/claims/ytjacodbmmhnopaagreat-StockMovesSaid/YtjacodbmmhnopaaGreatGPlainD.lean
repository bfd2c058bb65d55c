/-
  PLAIN: a list without the first thing of a name, step by step.
-/
import Derived.Test.YtjacodbmmhnopaaGreatGPlain
namespace Go.Proofs.YtjacodbmmhnopaaGreat.Pl
set_option linter.unusedVariables false

section
variable {α : Type}
def dropS (ord : α → α → Int) (x : α) (r : List α × Bool) (p : α) : List α × Bool := if (!r.2 && (ord p x == 0)) = true then (r.1, true) else (r.1 ++ [p], r.2)
def dropK (ord : α → α → Int) (x : α) (l : List α) (k : Nat) : List α × Bool := (l.take k).foldl (dropS ord x) ([], false)
theorem dropK_succ (ord : α → α → Int) (x : α) (l : List α) (k : Nat) (h : k < l.length) : dropK ord x l (k + 1) = dropS ord x (dropK ord x l k) l[k] := by
  unfold dropK
  rw [List.take_succ_eq_append_getElem h, List.foldl_append]; rfl
theorem drop_true (ord : α → α → Int) (x : α) : ∀ (l acc : List α), l.foldl (dropS ord x) (acc, true) = (acc ++ l, true)
  | [], acc => by simp
  | p :: l, acc => by
    have h : dropS ord x (acc, true) p = (acc ++ [p], true) := rfl
    rw [List.foldl_cons, h, drop_true ord x l]; simp
theorem dropG_cons (ord : α → α → Int) (x p : α) (l : List α) : dropG ord (p :: l) x = if (ord p x == 0) = true then l else p :: dropG ord l x := by
  unfold dropG findG firstG
  rw [List.findIdx?_cons]
  by_cases h : (ord p x == 0) = true
  · rw [if_pos h, if_pos h]; simp
  · rw [if_neg h, if_neg h]
    cases hf : List.findIdx? (fun e => ord e x == 0) l with
    | none => simp
    | some i => simp
theorem drop_false (ord : α → α → Int) (x : α) : ∀ (l acc : List α), (l.foldl (dropS ord x) (acc, false)).1 = acc ++ dropG ord l x
  | [], acc => by simp [dropG, findG, firstG]
  | p :: l, acc => by
    rw [List.foldl_cons, dropG_cons]
    by_cases h : (ord p x == 0) = true
    · have hs : dropS ord x (acc, false) p = (acc, true) := by unfold dropS; rw [h]; rfl
      rw [hs, drop_true, if_pos h]
    · have hs : dropS ord x (acc, false) p = (acc ++ [p], false) := by
        unfold dropS
        have : (ord p x == 0) = false := by simpa using h
        rw [this]; rfl
      rw [hs, drop_false ord x l, if_neg h]; simp
theorem dropK_all (ord : α → α → Int) (x : α) (l : List α) : (dropK ord x l l.length).1 = dropG ord l x := by
  unfold dropK
  rw [List.take_length, drop_false]; simp
theorem dropK_len (ord : α → α → Int) (x : α) (l : List α) : ∀ k, k ≤ l.length → (dropK ord x l k).1.length ≤ k
  | 0, _ => by simp [dropK]
  | k + 1, h => by
    have ih := dropK_len ord x l k (by omega)
    rw [dropK_succ ord x l k (by omega)]
    unfold dropS
    split
    · show (dropK ord x l k).1.length ≤ k + 1; omega
    · rw [List.length_append]; simp; omega
end
end Go.Proofs.YtjacodbmmhnopaaGreat.Pl
