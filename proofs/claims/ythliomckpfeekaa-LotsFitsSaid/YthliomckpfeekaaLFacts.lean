/-
  PLAIN: what a lot that was added is found as.
-/
import Derived.Test.YthliomckpfeekaaLBoth
namespace Go.Proofs.Ythliomckpfeekaa
set_option linter.unusedVariables false
open Go.RowKit
open Pl (firstG findG putG overG)

theorem putG_self {α : Type} (ord : α → α → Int) (l : List α) (x : α) : x ∈ putG ord l x := by
  unfold putG
  split
  · simp
  · split <;> simp
theorem putG_new {L : List (List Value)} {x : List Value} (h : findG ordL L x = none) : (putG ordL L x).length = L.length + 1 := by
  rw [Pl.putG_len, h]; rfl
theorem lot_key {x : List Value} (L : List (List Value)) : atL L (itemL x) (codeL x) = findG ordL L x := by
  rw [atL_first]
  unfold findG
  congr 1
  funext e
  exact (ordL_zero e x).symm
/-- What was put is found. -/
theorem got_put {L : List (List Value)} {x : List Value} (h : atL L (itemL x) (codeL x) = none) : (atL (putG ordL L x) (itemL x) (codeL x)).isSome = true ∧ gotL (putG ordL L x) (itemL x) (codeL x) = x := by
  have hs := putG_self ordL L x
  have hn : ∀ e ∈ L, (Pl.eqv (itemL e) (itemL x) && Pl.eqv (codeL e) (codeL x)) = false := fun e he => by
    obtain ⟨j, hj, rfl⟩ := List.mem_iff_getElem.1 he
    rw [atL_first] at h
    exact Pl.firstG_all h j hj
  have hxx : (Pl.eqv (itemL x) (itemL x) && Pl.eqv (codeL x) (codeL x)) = true := by rw [(Pl.eqv_iff _ _).2 rfl, (Pl.eqv_iff _ _).2 rfl]; rfl
  unfold gotL
  cases hf : atL (putG ordL L x) (itemL x) (codeL x) with
  | none =>
    rw [atL_first] at hf
    obtain ⟨j, hj, hjx⟩ := List.mem_iff_getElem.1 hs
    have := Pl.firstG_all hf j hj
    rw [hjx, hxx] at this; cases this
  | some i =>
    refine ⟨rfl, ?_⟩
    rw [atL_first] at hf
    have hi := Pl.firstG_lt hf
    have ht := Pl.firstG_at hf hi
    simp only [List.getD_eq_getElem?_getD, List.getElem?_eq_getElem hi, Option.getD_some]
    rcases Pl.putG_mem (List.getElem_mem hi) with h1 | h1
    · exact h1
    · rw [hn _ h1] at ht; cases ht
/-- What it says that a lot was taken. -/
structure Took (LI LL : List (List Value)) (x : List Value) : Prop where
  item : (atI LI (itemL x)).isSome = true
  lots : lotsI (gotI LI (itemL x)) = true
  name : Pl.nmE (codeL x) = 0
  lo : 0 ≤ expL x
  hi : expL x ≤ 100000
  new : atL LL (itemL x) (codeL x) = none
  len : LL.length < 128
theorem took_of {LI LL : List (List Value)} {x : List Value} (h : addLE LI LL x = 0) : Took LI LL x := by
  unfold addLE at h
  by_cases h1 : (atI LI (itemL x)).isSome = false
  · rw [if_pos h1] at h; cases h
  · rw [if_neg h1] at h
    by_cases h2 : lotsI (gotI LI (itemL x)) = false
    · rw [if_pos h2] at h; cases h
    · rw [if_neg h2] at h
      by_cases h3 : Pl.nmE (codeL x) ≠ 0
      · rw [if_pos h3] at h; exact absurd h h3
      · rw [if_neg h3] at h
        by_cases h4 : expL x < 0 ∨ 100000 < expL x
        · rw [if_pos h4] at h; cases h
        · rw [if_neg h4] at h
          by_cases h5 : (atL LL (itemL x) (codeL x)).isSome = true
          · rw [if_pos h5] at h; cases h
          · rw [if_neg h5] at h
            by_cases h6 : 128 ≤ LL.length
            · rw [if_pos h6] at h; cases h
            · exact ⟨by cases hc : (atI LI (itemL x)).isSome with | true => rfl | false => exact absurd hc h1, by cases hc : lotsI (gotI LI (itemL x)) with | true => rfl | false => exact absurd hc h2, by omega, by omega, by omega, by simpa using h5, by omega⟩
theorem sumQ_none {s t : ByteArray} : ∀ {Q : List (List Value)} {n : Int}, Q.any (ofQ s t) = false → sumQ s t Q n = n
  | [], n, _ => rfl
  | q :: Q, n, h => by
    rw [List.any_cons, Bool.or_eq_false_iff] at h
    show sumQ s t Q (if ofQ s t q = true then wrap64 (n + qtyQ q) else n) = n
    rw [h.1, if_neg (by simp)]
    exact sumQ_none h.2
/-- Behind the first Add: what Fits, Day, a second Add answer. -/
theorem Took.behind {LI LL LQ : List (List Value)} {x : List Value} (h : Took LI LL x) :
    (LQ.any (ofQ (itemL x) (codeL x)) = false → fitE LI (putG ordL LL x) LQ (itemL x) (codeL x) 1 = 0) ∧ dayZ (putG ordL LL x) (itemL x) (codeL x) = (if expL x = 0 then 100001 else expL x) ∧ addLE LI (putG ordL LL x) x = 11 ∧ (putG ordL LL x).length = LL.length + 1 := by
  obtain ⟨g1, g2⟩ := got_put h.new
  refine ⟨fun hq => ?_, ?_, ?_, putG_new (by rw [← lot_key]; exact h.new)⟩
  · unfold fitE
    rw [if_neg (by rw [h.item]; simp), h.lots, g1, if_neg (by simp), sumQ_none hq, if_neg (by simp)]
  · unfold dayZ
    rw [g2]
  · unfold addLE
    rw [if_neg (by rw [h.item]; simp), if_neg (by rw [h.lots]; simp), if_neg (by rw [h.name]; simp), if_neg (by have := h.lo; have := h.hi; omega), if_pos g1]
theorem any_snoc {s t : ByteArray} {Q : List (List Value)} {k : Nat} (hk : k < Q.length) : (Q.take (k + 1)).any (ofQ s t) = ((Q.take k).any (ofQ s t) || ofQ s t Q[k]) := by
  rw [List.take_succ_eq_append_getElem hk, List.any_append]; simp
end Go.Proofs.Ythliomckpfeekaa
