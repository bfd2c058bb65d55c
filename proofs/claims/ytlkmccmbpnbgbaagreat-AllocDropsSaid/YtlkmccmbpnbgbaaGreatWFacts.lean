/-
 WHAT IS TAKEN, SUMMED UP: no more than is asked for and than is open; no quant twice. (IndexTakes.)
-/
import Derived.Test.YtlkmccmbpnbgbaaGreatWPl
namespace Go.Proofs.YtlkmccmbpnbgbaaGreat
set_option linter.unusedVariables false
open Go.RowKit
open Pl (firstG findG putG It)

namespace Pl
theorem cutN_mem {fr : Nat → Int} : ∀ (l : List Nat) (q : Int), (∀ j ∈ l, 0 < fr j) → ∀ p ∈ cutN fr l q, p.1 ∈ l ∧ 1 ≤ p.2 ∧ p.2 ≤ fr p.1 ∧ p.2 ≤ q
 | [], q, _, p, h => by simp [cutN] at h
 | i :: l, q, hp, p, h => by
  unfold cutN at h
  by_cases hq : q ≤ 0
  · rw [if_pos hq] at h; simp at h
  · rw [if_neg hq] at h
    have hi := hp i (by simp)
    simp only [List.mem_cons] at h
    rcases h with rfl | h
    · simp only [List.mem_cons, true_or, true_and]; omega
    · have := cutN_mem l _ (fun j hj => hp j (by simp [hj])) p h
      refine ⟨by simp [this.1], this.2.1, this.2.2.1, ?_⟩
      have := this.2.2.2
      omega
theorem cutN_pre {fr : Nat → Int} : ∀ (l : List Nat) (q : Int), ((cutN fr l q).map Prod.fst) <+: l
 | [], q => by simp [cutN]
 | i :: l, q => by
  unfold cutN
  by_cases hq : q ≤ 0
  · rw [if_pos hq]; simp
  · rw [if_neg hq]
    simp only [List.map_cons]
    exact List.cons_prefix_cons.2 ⟨rfl, cutN_pre l _⟩
theorem cutN_len {fr : Nat → Int} (l : List Nat) (q : Int) : (cutN fr l q).length ≤ l.length := by
 have := (cutN_pre (fr := fr) l q).length_le
 simpa using this
theorem cutN_sum {fr : Nat → Int} : ∀ (l : List Nat) (q : Int), (∀ j ∈ l, 0 < fr j) → ((cutN fr l q).map Prod.snd).sum = min (max q 0) (l.map fr).sum ∧ 0 ≤ (l.map fr).sum
 | [], q, _ => by simp [cutN]; omega
 | i :: l, q, hp => by
  have hi := hp i (by simp)
  have ih := fun q => cutN_sum l q (fun j hj => hp j (by simp [hj]))
  have h0 := (ih 0).2
  unfold cutN
  by_cases hq : q ≤ 0
  · rw [if_pos hq]; simp only [List.map_nil, List.sum_nil, List.map_cons, List.sum_cons]; omega
  · rw [if_neg hq]
    have := (ih (q - min (fr i) q)).1
    simp only [List.map_cons, List.sum_cons]
    rw [this]
    omega
/-- The sum over those of the first k that pass. -/
def sumN (fr : Nat → Int) (P : Nat → Bool) : Nat → Int
 | 0 => 0
 | k + 1 => sumN fr P k + if P k = true then fr k else 0
theorem sumN_succ (fr : Nat → Int) (P : Nat → Bool) (k : Nat) : sumN fr P (k + 1) = sumN fr P k + if P k = true then fr k else 0 := rfl
theorem sumN_congr {fr : Nat → Int} {P Q : Nat → Bool} : ∀ {k : Nat}, (∀ i, i < k → P i = Q i) → sumN fr P k = sumN fr Q k
 | 0, _ => rfl
 | k + 1, h => by rw [sumN_succ, sumN_succ]; rw [sumN_congr (fun i hi => h i (by omega)), h k (by omega)]
theorem sumN_drop {fr : Nat → Int} {P : Nat → Bool} {i : Nat} (hp : P i = true) : ∀ {m : Nat}, i < m → sumN fr (fun j => P j && decide (j ≠ i)) m + fr i = sumN fr P m
 | 0, h => by omega
 | m + 1, h => by
  by_cases e : i = m
  · subst e
    have h1 : sumN fr (fun j => P j && decide (j ≠ i)) i = sumN fr P i := sumN_congr (fun j hj => by
     have h2 : j ≠ i := by omega
     simp [h2])
    rw [sumN_succ, sumN_succ, h1]
    simp [hp]
  · have ih := sumN_drop (fr := fr) hp (m := m) (by omega)
    have e2 : m ≠ i := fun h => e h.symm
    rw [sumN_succ, sumN_succ]
    have h1 : (P m && decide (m ≠ i)) = P m := by simp [e2]
    rw [h1]
    omega
theorem ordN_sum {fr : Nat → Int} {less : Nat → Nat → Bool} {m : Nat} : ∀ (f : Nat) (P : Nat → Bool), cntN m P ≤ f → ((ordN less m f P).map fr).sum = sumN fr P m
 | 0, P, h => by
  have hn : ∀ i, i < m → P i = false := fun i hi => by
   cases hp : P i with
   | false => rfl
   | true => have := cntN_drop hi hp; omega
  have : ∀ k, k ≤ m → sumN fr P k = 0 := fun k => by
   induction k with
   | zero => intro _; rfl
   | succ k ih => intro hk; rw [sumN_succ, ih (by omega), hn k (by omega)]; rfl
  rw [this m (Nat.le_refl _)]; rfl
 | f + 1, P, h => by
  unfold ordN
  cases hb : best less P m with
  | none =>
   have hn := best_none.1 hb
   have : ∀ k, k ≤ m → sumN fr P k = 0 := fun k => by
    induction k with
    | zero => intro _; rfl
    | succ k ih => intro hk; rw [sumN_succ, ih (by omega), hn k (by omega)]; rfl
   rw [this m (Nat.le_refl _)]; rfl
  | some j =>
   obtain ⟨hj, hpj⟩ := best_lt hb
   have h1 := cntN_drop hj hpj
   have ih := ordN_sum (fr := fr) (less := less) f _ (Nat.le_of_succ_le_succ (Nat.le_trans (Nat.le_of_eq h1) h))
   have h2 := sumN_drop (fr := fr) hpj hj
   simp only [List.map_cons, List.sum_cons]
   rw [ih]; omega
end Pl
/-- Quantities as the law has them. -/
def PlainN (LQ : List (List Value)) : Prop := ∀ e ∈ LQ, 0 ≤ (qnOf e).qty ∧ (qnOf e).qty ≤ 1000000000 ∧ 0 ≤ (qnOf e).held ∧ (qnOf e).held ≤ (qnOf e).qty
theorem frQ_plain {LQ : List (List Value)} (h : PlainN LQ) {e : List Value} (he : e ∈ LQ) : frQ e = (qnOf e).qty - (qnOf e).held ∧ 0 ≤ frQ e ∧ frQ e ≤ 1000000000 := by
 obtain ⟨h1, h2, h3, h4⟩ := h e he
 have : frQ e = (qnOf e).qty - (qnOf e).held := by unfold frQ; exact w64 (by omega) (by omega)
 rw [this]; omega
theorem ordQs_mem {L : Nat → List (List Value)} {s i : ByteArray} {k : Nat} (h : k ∈ ordQs L s i) : k < (L 4).length ∧ mayB (L 2) (L 3) s i (qA (L 4) k) = true := Pl.ordN_mem _ _ h
theorem may_free {LZ LB : List (List Value)} {s i : ByteArray} {e : List Value} (h : mayB LZ LB s i e = true) : 0 < frQ e := by
 unfold mayB at h
 simp only [Bool.and_eq_true, decide_eq_true_eq] at h
 exact h.2.2.2.2.2.2
theorem openZ_snoc (L : Nat → List (List Value)) (s i : ByteArray) (LQ : List (List Value)) (k : Nat) (hk : k < LQ.length) :
 (LQ.take (k + 1)).foldl (fun n e => if mayB (L 2) (L 3) s i e = true then wrap64 (wrap64 (n + (qnOf e).qty) - (qnOf e).held) else n) 0 =
 if mayB (L 2) (L 3) s i LQ[k] = true then wrap64 (wrap64 ((LQ.take k).foldl (fun n e => if mayB (L 2) (L 3) s i e = true then wrap64 (wrap64 (n + (qnOf e).qty) - (qnOf e).held) else n) 0 + (qnOf LQ[k]).qty) - (qnOf LQ[k]).held) else (LQ.take k).foldl (fun n e => if mayB (L 2) (L 3) s i e = true then wrap64 (wrap64 (n + (qnOf e).qty) - (qnOf e).held) else n) 0 := by
 rw [List.take_add_one, List.getElem?_eq_getElem hk, Option.toList_some, List.foldl_append]
 rfl
theorem open_sum {L : Nat → List (List Value)} (s i : ByteArray) (hp : PlainN (L 4)) (hl : (L 4).length ≤ 1000) : openZ L s i = Pl.sumN (fun k => frQ (qA (L 4) k)) (fun k => mayB (L 2) (L 3) s i (qA (L 4) k)) (L 4).length := by
 have key : ∀ k, k ≤ (L 4).length → ((L 4).take k).foldl (fun n e => if mayB (L 2) (L 3) s i e = true then wrap64 (wrap64 (n + (qnOf e).qty) - (qnOf e).held) else n) 0 = Pl.sumN (fun k => frQ (qA (L 4) k)) (fun k => mayB (L 2) (L 3) s i (qA (L 4) k)) k ∧ 0 ≤ Pl.sumN (fun k => frQ (qA (L 4) k)) (fun k => mayB (L 2) (L 3) s i (qA (L 4) k)) k ∧ Pl.sumN (fun k => frQ (qA (L 4) k)) (fun k => mayB (L 2) (L 3) s i (qA (L 4) k)) k ≤ k * 1000000000 := fun k => by
  induction k with
  | zero => intro _; exact ⟨rfl, by simp [Pl.sumN], by simp [Pl.sumN]⟩
  | succ k ih =>
   intro hk
   obtain ⟨h1, h2, h3⟩ := ih (by omega)
   have hkl : k < (L 4).length := by omega
   have hf := frQ_plain hp (List.getElem_mem hkl)
   obtain ⟨p1, p2, p3, p4⟩ := hp _ (List.getElem_mem hkl)
   have hs := Pl.sumN_succ (fun k => frQ (qA (L 4) k)) (fun k => mayB (L 2) (L 3) s i (qA (L 4) k)) k
   rw [qA_at _ k hkl] at hs
   obtain ⟨S, hS⟩ : ∃ S, Pl.sumN (fun k => frQ (qA (L 4) k)) (fun k => mayB (L 2) (L 3) s i (qA (L 4) k)) k = S := ⟨_, rfl⟩
   rw [hS] at h1 h2 h3 hs
   rw [openZ_snoc L s i (L 4) k hkl, h1, hs]
   have hb : (k : Int) ≤ 1000 := by omega
   have hc : ((k + 1 : Nat) : Int) = (k : Int) + 1 := by omega
   rw [hc]
   by_cases hm : mayB (L 2) (L 3) s i (L 4)[k] = true
   · rw [if_pos hm, if_pos hm, w64 (z := S + (qnOf (L 4)[k]).qty) (by omega) (by omega), w64 (by omega) (by omega), hf.1]
     omega
   · rw [if_neg hm, if_neg hm]
     omega
 have := (key _ (Nat.le_refl _)).1
 rw [List.take_length] at this
 exact this
/-- All that is taken is what was asked for, or all that is open. -/
theorem pick_sum {L : Nat → List (List Value)} (s i : ByteArray) (q : Int) (hp : PlainN (L 4)) (hl : (L 4).length ≤ 1000) : ((pickI L s i q).map Prod.snd).sum = min (max q 0) (openZ L s i) := by
 rw [open_sum s i hp hl]
 have hpos : ∀ j ∈ ordQs L s i, 0 < (fun k => frQ (qA (L 4) k)) j := fun j hj => may_free (ordQs_mem hj).2
 have h1 := (Pl.cutN_sum (fr := fun k => frQ (qA (L 4) k)) (ordQs L s i) q hpos).1
 unfold pickI
 rw [h1]
 unfold ordQs
 rw [Pl.ordN_sum (fr := fun k => frQ (qA (L 4) k)) _ _ (Pl.cntN_le _ _)]
theorem pick_mem {L : Nat → List (List Value)} {s i : ByteArray} {q : Int} {p : Nat × Int} (h : p ∈ pickI L s i q) : p.1 < (L 4).length ∧ mayB (L 2) (L 3) s i (qA (L 4) p.1) = true ∧ 1 ≤ p.2 ∧ p.2 ≤ frQ (qA (L 4) p.1) := by
 have hpos : ∀ j ∈ ordQs L s i, 0 < (fun k => frQ (qA (L 4) k)) j := fun j hj => may_free (ordQs_mem hj).2
 have h1 := Pl.cutN_mem (fr := fun k => frQ (qA (L 4) k)) (ordQs L s i) q hpos p h
 exact ⟨(ordQs_mem h1.1).1, (ordQs_mem h1.1).2, h1.2.1, h1.2.2.1⟩
theorem pick_nodup (L : Nat → List (List Value)) (s i : ByteArray) (q : Int) : ((pickI L s i q).map Prod.fst).Nodup :=
 (Pl.ordN_nodup _ _).sublist (Pl.cutN_pre _ _).sublist
end Go.Proofs.YtlkmccmbpnbgbaaGreat
