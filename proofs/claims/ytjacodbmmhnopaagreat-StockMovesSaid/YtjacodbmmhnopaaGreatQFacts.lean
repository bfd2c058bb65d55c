/-
  PLAIN: what was put is taken off again; what was held more is held less again.
-/
import Derived.Test.YtjacodbmmhnopaaGreatQPl
namespace Go.Proofs.YtjacodbmmhnopaaGreat
set_option linter.unusedVariables false
open Go.RowKit
open Pl (firstG findG putG dropG It)

theorem atQ_set {L : List (List Value)} {k : Ky} {i : Nat} {x : List Value} (h : atQ L k = some i) (hx : (qnOf x).ky = k) : atQ (L.set i x) k = some i := by
  have hl := Pl.firstG_lt h
  refine Pl.firstG_some (by rw [List.length_set]; exact hl) (fun j hj hji => ?_) ?_
  · rw [List.getElem_set_ne (by omega)]
    have hj' : j < L.length := by rwa [List.length_set] at hj
    exact Pl.firstG_before h j hj' hji
  · rw [List.getElem_set_self]; exact isKy_iff.2 hx
theorem gotQ_set {L : List (List Value)} {k : Ky} {i : Nat} {x : List Value} (h : atQ L k = some i) (hx : (qnOf x).ky = k) : gotQ (L.set i x) k = x := by
  unfold gotQ
  rw [atQ_set h hx]
  have hl := Pl.firstG_lt h
  simp only [List.getD_eq_getElem?_getD]
  rw [List.getElem?_eq_getElem (by rw [List.length_set]; exact hl), List.getElem_set_self]; rfl
theorem gotQ_at {L : List (List Value)} {k : Ky} {i : Nat} (h : atQ L k = some i) : ∃ hi : i < L.length, gotQ L k = L[i] := by
  have hl := Pl.firstG_lt h
  refine ⟨hl, ?_⟩
  unfold gotQ
  rw [h]
  simp only [List.getD_eq_getElem?_getD, List.getElem?_eq_getElem hl]; rfl
theorem upQ_set {L : List (List Value)} {q : Qn} {i : Nat} (h : atQ L q.ky = some i) (hq : q.qty ≠ 0) : upQ L q = L.set i q.cells := by
  unfold upQ
  rw [if_neg hq]
  exact Pl.put_set ordQuant q.cells L i (by rw [findG_atQ]; exact h)
/-- A quant that was not there: between what is ahead and what is behind. -/
theorem upQ_new {L : List (List Value)} {q : Qn} (h : atQ L q.ky = none) (hq : q.qty ≠ 0) : ∃ A B, L = A ++ B ∧ upQ L q = A ++ [q.cells] ++ B ∧ ∀ j (hj : j < A.length), isKy q.ky A[j] = false := by
  have hall : ∀ e ∈ L, isKy q.ky e = false := fun e he => by
    obtain ⟨j, hj, rfl⟩ := List.mem_iff_getElem.1 he
    exact Pl.firstG_all h j hj
  unfold upQ
  rw [if_neg hq]
  unfold putG
  rw [show findG ordQuant L q.cells = none from by rw [findG_atQ]; exact h]
  simp only []
  cases ho : Pl.overG ordQuant L q.cells with
  | some i => exact ⟨L.take i, L.drop i, (List.take_append_drop i L).symm, rfl, fun j hj => hall _ (List.mem_of_mem_take (List.getElem_mem hj))⟩
  | none => exact ⟨L, [], by simp, by simp, fun j hj => hall _ (List.getElem_mem hj)⟩
theorem at_mid {A B : List (List Value)} {x : List Value} {k : Ky} (hx : (qnOf x).ky = k) (hA : ∀ j (hj : j < A.length), isKy k A[j] = false) : atQ (A ++ [x] ++ B) k = some A.length ∧ gotQ (A ++ [x] ++ B) k = x := by
  have h1 : atQ (A ++ [x] ++ B) k = some A.length := by
    refine Pl.firstG_some (by simp only [List.length_append, List.length_cons, List.length_nil]; omega) (fun j hj hjA => ?_) ?_
    · rw [List.getElem_append_left (by rw [List.length_append]; simp; omega), List.getElem_append_left hjA]; exact hA j hjA
    · rw [List.getElem_append_left (by rw [List.length_append]; simp), List.getElem_append_right (Nat.le_refl _)]
      simp only [Nat.sub_self, List.getElem_cons_zero]
      exact isKy_iff.2 hx
  refine ⟨h1, ?_⟩
  unfold gotQ
  rw [h1]
  simp only [List.getD_eq_getElem?_getD]
  rw [List.append_assoc, List.getElem?_append_right (Nat.le_refl _)]
  simp
/-- Each quant is of something, and no more of it is held than there is. -/
def PlainQ (L : List (List Value)) : Prop := ∀ e ∈ L, 0 ≤ (qnOf e).held ∧ (qnOf e).held ≤ (qnOf e).qty ∧ 1 ≤ (qnOf e).qty ∧ (qnOf e).qty ≤ 1000000000
theorem w64 {z : Int} (h1 : -9223372036854775808 ≤ z) (h2 : z ≤ 9223372036854775807) : wrap64 z = z := IntWalk.wrap64_in z ⟨by omega, by omega⟩
theorem Qn.back {q : Qn} {k : Ky} (h : q.ky = k) : (⟨k.bin, k.item, k.lot, k.st, q.qty, q.held⟩ : Qn) = q := by subst h; rfl
/-- What was put is taken off again. -/
theorem put_take {L : List (List Value)} {k : Ky} {n : Int} (hp : PlainQ L) (ht : Things kQuant L) (h : putE L k n = 0) : takeE (putL L k n) k n = 0 ∧ takeL (putL L k n) k n = L := by
  unfold putE at h
  by_cases h1 : n < 1 ∨ 1000000000 < n
  · rw [if_pos h1] at h; cases h
  · rw [if_neg h1] at h
    have hn1 : 1 ≤ n := by omega
    have hn2 : n ≤ 1000000000 := by omega
    cases hc : atQ L k with
    | none =>
      have hs : (atQ L k).isSome = false := by rw [hc]; rfl
      obtain ⟨A, B, hL, hU, hA⟩ := upQ_new (L := L) (q := ⟨k.bin, k.item, k.lot, k.st, n, 0⟩) hc (by show n ≠ 0; omega)
      have hPL : putL L k n = A ++ [(⟨k.bin, k.item, k.lot, k.st, n, 0⟩ : Qn).cells] ++ B := by unfold putL putX; rw [if_pos hs]; exact hU
      obtain ⟨m1, m2⟩ := at_mid (B := B) (x := (⟨k.bin, k.item, k.lot, k.st, n, 0⟩ : Qn).cells) (k := k) rfl hA
      rw [hPL]
      constructor
      · unfold takeE
        rw [if_neg h1, m1, m2, qnOf_cells, if_neg (by simp)]
        simp only []
        rw [if_neg (by omega), w64 (by omega) (by omega), if_neg (by omega)]
      · unfold takeL
        rw [m2, qnOf_cells]
        simp only []
        rw [w64 (by omega) (by omega)]
        unfold upQ
        rw [if_pos (by show n - n = 0; omega)]
        unfold dropG
        rw [findG_atQ]
        show (match atQ (A ++ [(⟨k.bin, k.item, k.lot, k.st, n, 0⟩ : Qn).cells] ++ B) k with | some i => _ | none => _) = L
        rw [m1, hL]
        simp only []
        rw [List.append_assoc, List.take_left, ← List.append_assoc, List.drop_append_of_le_length (by simp)]
        simp
    | some i =>
      have hs : ¬ (atQ L k).isSome = false := by rw [hc]; simp
      rw [if_neg hs] at h
      obtain ⟨hi, hg⟩ := gotQ_at hc
      have hky := gotQ_ky (L := L) (k := k) (by rw [hc]; rfl)
      obtain ⟨q, hq⟩ : ∃ q, qnOf (gotQ L k) = q := ⟨_, rfl⟩
      have hfit := gotQ_fits ht k
      have hcell : gotQ L k = q.cells := by rw [← hq]; exact qn_cells hfit
      have hpl := hp L[i] (List.getElem_mem hi)
      rw [← hg, hq] at hpl
      rw [hq] at h hky
      by_cases h2 : 1000000000 - n < q.qty
      · rw [if_pos h2] at h; cases h
      · have hPL : putL L k n = L.set i (⟨k.bin, k.item, k.lot, k.st, q.qty + n, q.held⟩ : Qn).cells := by
          unfold putL putX
          rw [if_neg hs, hq, w64 (by omega) (by omega)]
          exact upQ_set (q := ⟨k.bin, k.item, k.lot, k.st, q.qty + n, q.held⟩) hc (by show q.qty + n ≠ 0; omega)
        have hgs := gotQ_set (x := (⟨k.bin, k.item, k.lot, k.st, q.qty + n, q.held⟩ : Qn).cells) hc rfl
        have has := atQ_set (x := (⟨k.bin, k.item, k.lot, k.st, q.qty + n, q.held⟩ : Qn).cells) hc rfl
        rw [hPL]
        constructor
        · unfold takeE
          rw [if_neg h1, has, hgs, qnOf_cells, if_neg (by simp)]
          simp only []
          rw [if_neg (by omega), w64 (by omega) (by omega), if_neg (by omega)]
        · unfold takeL
          rw [hgs, qnOf_cells]
          simp only []
          rw [w64 (by omega) (by omega), show q.qty + n - n = q.qty from by omega, Qn.back hky]
          have : upQ (L.set i (⟨k.bin, k.item, k.lot, k.st, q.qty + n, q.held⟩ : Qn).cells) q = _ := upQ_set (q := q) (by rw [hky]; exact has) (by omega)
          rw [this, List.set_set, ← hcell, hg]
          exact List.set_getElem_self hi
/-- What was held more is held less again. -/
theorem hold_back {L : List (List Value)} {k : Ky} {n : Int} (hp : PlainQ L) (ht : Things kQuant L) (h : holdE L k n = 0) : holdE (holdL L k n) k (-n) = 0 ∧ holdL (holdL L k n) k (-n) = L := by
  unfold holdE at h
  cases hc : atQ L k with
  | none => rw [hc] at h; cases h
  | some i =>
    have hs : ¬ (atQ L k).isSome = false := by rw [hc]; simp
    rw [if_neg hs] at h
    obtain ⟨hi, hg⟩ := gotQ_at hc
    have hky := gotQ_ky (L := L) (k := k) (by rw [hc]; rfl)
    obtain ⟨q, hq⟩ : ∃ q, qnOf (gotQ L k) = q := ⟨_, rfl⟩
    have hfit := gotQ_fits ht k
    have hcell : gotQ L k = q.cells := by rw [← hq]; exact qn_cells hfit
    have hpl := hp L[i] (List.getElem_mem hi)
    rw [← hg, hq] at hpl
    rw [hq] at h hky
    by_cases h1 : n < -1000000000 ∨ 1000000000 < n
    · rw [if_pos h1] at h; cases h
    · rw [if_neg h1] at h
      rw [w64 (z := q.qty - q.held) (by omega) (by omega), w64 (z := q.held + n) (by omega) (by omega)] at h
      by_cases h2 : q.qty - q.held < n ∨ q.held + n < 0
      · rw [if_pos h2] at h; cases h
      · have hPL : holdL L k n = L.set i (⟨k.bin, k.item, k.lot, k.st, q.qty, q.held + n⟩ : Qn).cells := by
          unfold holdL
          rw [hq, w64 (by omega) (by omega)]
          exact upQ_set (q := ⟨k.bin, k.item, k.lot, k.st, q.qty, q.held + n⟩) hc (by show q.qty ≠ 0; omega)
        have hgs := gotQ_set (x := (⟨k.bin, k.item, k.lot, k.st, q.qty, q.held + n⟩ : Qn).cells) hc rfl
        have has := atQ_set (x := (⟨k.bin, k.item, k.lot, k.st, q.qty, q.held + n⟩ : Qn).cells) hc rfl
        rw [hPL]
        constructor
        · unfold holdE
          rw [has, hgs, qnOf_cells, if_neg (by simp)]
          simp only []
          rw [if_neg (by omega), w64 (by omega) (by omega), w64 (by omega) (by omega), if_neg (by omega)]
        · show upQ _ ⟨k.bin, k.item, k.lot, k.st, (qnOf (gotQ _ k)).qty, wrap64 ((qnOf (gotQ _ k)).held + -n)⟩ = L
          rw [hgs, qnOf_cells]
          simp only []
          rw [w64 (by omega) (by omega), show q.held + n + -n = q.held from by omega, Qn.back hky]
          have : upQ (L.set i (⟨k.bin, k.item, k.lot, k.st, q.qty, q.held + n⟩ : Qn).cells) q = _ := upQ_set (q := q) (by rw [hky]; exact has) (by omega)
          rw [this, List.set_set, ← hcell, hg]
          exact List.set_getElem_self hi
end Go.Proofs.YtjacodbmmhnopaaGreat
