/-
  A GREAT REGION IN THE ORDER OF THE TEXT: a Bool that is reckoned in one pass, for a region whose operations fill one temporary after the other.
-/
import Derived.Test.YtcihibmapbigdaaHGrow
namespace Go.Proofs.Ytcihibmapbigdaa
set_option linter.unusedVariables false
open Go.RowKit

def notSelect (o : Oper) : Bool := match o.op with | .select .. => false | _ => true
/-- The j'th operation fills the temporary base + j (the n'th: last), waits for earlier ones alone, and looks at what it waits for. -/
def linOp (md : Region.Mode) (base last n : Nat) (ops : Array Oper) (j : Nat) : Bool :=
  match ops[j]? with
  | none => false
  | some o => (o.dst == if j + 1 = n then some last else some (base + j)) && o.after.all (fun e => decide (e.on < j)) &&
      (o.looksAt ops).all (fun t => (decide (t < base) && t != last) || (decide (t < base + j) && o.after.any fun e => Region.binds md e && base + e.on == t)) && notSelect o
theorem lin_spec {md : Region.Mode} {base last n : Nat} {ops : Array Oper} {j : Nat} (h : linOp md base last n ops j = true) : ∃ o, ops[j]? = some o ∧ (o.dst = if j + 1 = n then some last else some (base + j)) ∧ (∀ e ∈ o.after, e.on < j) ∧
    (∀ t : Nat, t ∈ o.looksAt ops → (t < base ∧ t ≠ last) ∨ (t < base + j ∧ ∃ e ∈ o.after, Region.binds md e = true ∧ base + e.on = t)) ∧ notSelect o = true := by
  unfold linOp at h
  split at h
  · cases h
  · rename_i o ho
    simp only [Bool.and_eq_true, beq_iff_eq, Array.all_eq_true_iff_forall_mem, decide_eq_true_eq, List.all_eq_true, Bool.or_eq_true, bne_iff_ne] at h
    obtain ⟨⟨⟨h1, h2⟩, h3⟩, h4⟩ := h
    refine ⟨o, ho, h1, h2, fun t ht => ?_, h4⟩
    rcases h3 t ht with h | ⟨h, k⟩
    · exact .inl h
    · obtain ⟨e, he, hb⟩ := Array.any_eq_true'.1 k
      simp only [Bool.and_eq_true, beq_iff_eq] at hb
      exact .inr ⟨h, e, he, hb⟩
theorem lex_of {md : Region.Mode} {base last n : Nat} {ops : Array Oper} (hn : ops.size = n) (hl : last < base) (h : ∀ j, j < n → linOp md base last n ops j = true) : Region.lexB md ops = true := by
  have hs : Region.noSelect ops = true := by
    unfold Region.noSelect
    rw [Array.all_eq_true_iff_forall_mem]
    intro o ho
    obtain ⟨j, hj, rfl⟩ := Array.getElem_of_mem ho
    obtain ⟨o', h1, _, _, _, h5⟩ := lin_spec (h j (by omega))
    rw [Array.getElem?_eq_getElem hj] at h1
    injection h1 with h1
    rw [h1]; exact h5
  have hx : ∀ (f k : Nat) (l : Array Bool), k + f = n → l.size = n → (∀ i, i < n → l[i]? = some (decide (i < k))) → Region.lexFrom md ops f k l = true := by
    intro f
    induction f with
    | zero =>
      intro k l hk _ hi
      unfold Region.lexFrom
      rw [List.isEmpty_iff, List.eq_nil_iff_forall_not_mem]
      intro j hj
      obtain ⟨h1, o, h2, _⟩ := mem_ready.1 hj
      have hjn : j < n := by rw [← hn]; exact (Array.getElem?_eq_some_iff.1 h2).1
      have : l.getD j true = decide (j < k) := by rw [Array.getD_eq_getD_getElem?, hi j hjn]; rfl
      rw [this] at h1
      simp at h1; omega
    | succ f ih =>
      intro k l hk hsz hi
      have hkn : k < n := by omega
      have gt : ∀ j, j < n → l.getD j true = decide (j < k) := fun j hj => by rw [Array.getD_eq_getD_getElem?, hi j hj]; rfl
      have gf : ∀ j, j < n → l.getD j false = decide (j < k) := fun j hj => by rw [Array.getD_eq_getD_getElem?, hi j hj]; rfl
      obtain ⟨oi, h1, h2, h3, h4, _⟩ := lin_spec (h k hkn)
      unfold Region.lexFrom
      rw [Bool.and_eq_true, Bool.and_eq_true]
      refine ⟨⟨?_, ?_⟩, ih (k + 1) _ (by omega) (by simpa using hsz) fun i hin => ?_⟩
      · rw [List.contains_iff_mem, mem_ready]
        refine ⟨by rw [gt k hkn]; simp, oi, h1, fun e he _ => ?_⟩
        have := h3 e he
        rw [gf e.on (by omega)]; simpa using this
      · unfold Region.free
        rw [h1]
        simp only [List.all_eq_true, List.mem_range, Bool.or_eq_true, beq_iff_eq]
        intro j hj
        rw [hn] at hj
        by_cases hjk : j = k
        · exact .inl (.inl hjk)
        by_cases hlt : j < k
        · exact .inl (.inr (by rw [gt j hj]; simpa using hlt))
        refine .inr ?_
        obtain ⟨oj, k1, k2, k3, k4, _⟩ := lin_spec (h j hj)
        rw [k1]
        simp only [Bool.or_eq_true]
        by_cases hedge : (oj.after.any fun e => Region.binds md e && e.on == k) = true
        · exact .inl hedge
        refine .inr ?_
        rw [if_neg (by omega)] at h2
        have hno : (base + k) ∉ oj.looksAt ops := fun ht => by
          rcases k4 (base + k) ht with ⟨a, _⟩ | ⟨_, e, he, hb, hq⟩
          · omega
          · refine hedge (Array.any_eq_true'.2 ⟨e, he, ?_⟩)
            rw [hb, Bool.true_and, beq_iff_eq]; omega
        have hdst : ∃ d : Nat, oj.dst = some d ∧ d ≠ base + k ∧ d ∉ oi.looksAt ops := by
          by_cases hlast : j + 1 = n
          · rw [if_pos hlast] at k2
            refine ⟨last, k2, by omega, fun ht => ?_⟩
            rcases h4 last ht with ⟨_, b⟩ | ⟨_, e, he, hb, hq⟩
            · exact b rfl
            · omega
          · rw [if_neg hlast] at k2
            refine ⟨base + j, k2, by omega, fun ht => ?_⟩
            rcases h4 (base + j) ht with ⟨b, _⟩ | ⟨b, _⟩ <;> omega
        obtain ⟨d, hd, hd1, hd2⟩ := hdst
        unfold Oper.apart
        rw [h2, hd]
        simp only [Bool.and_eq_true, Bool.not_eq_true', bne_iff_ne, ne_eq, Option.some.injEq]
        refine ⟨⟨?_, hd1⟩, ?_⟩
        · rw [← Bool.not_eq_true, List.contains_iff_mem]; exact hno
        · rw [← Bool.not_eq_true, List.contains_iff_mem]; exact hd2
      · by_cases hik : i = k
        · subst hik
          rw [Array.getElem?_setIfInBounds_self_of_lt (by omega)]
          simp
        · rw [Array.getElem?_setIfInBounds_ne (by omega), hi i hin]
          congr 1
          simp; omega
  unfold Region.lexB
  rw [hs, Bool.true_and]
  refine hx _ 0 _ (by omega) (by simpa using hn) fun i hi => ?_
  rw [Array.getElem?_replicate, if_pos (by omega)]
  simp
def linAll (md : Region.Mode) (base last n : Nat) (ops : Array Oper) : Bool := ops.size == n && (List.range n).all (linOp md base last n ops)
theorem lexB_lin {md : Region.Mode} {base last n : Nat} {ops : Array Oper} (hl : last < base) (h : linAll md base last n ops = true) : Region.lexB md ops = true := by
  unfold linAll at h
  simp only [Bool.and_eq_true, beq_iff_eq, List.all_eq_true, List.mem_range] at h
  exact lex_of h.1 hl h.2
end Go.Proofs.Ytcihibmapbigdaa
