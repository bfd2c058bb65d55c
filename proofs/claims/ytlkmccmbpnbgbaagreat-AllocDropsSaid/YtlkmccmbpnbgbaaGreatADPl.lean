/-
 PLAIN, for AllocDrops: what a put, a drop do to a sum and to a filter of a list; quants whose held alone is told anew.
-/
import Derived.Test.YtlkmccmbpnbgbaaGreatAFacts
namespace Go.Proofs.YtlkmccmbpnbgbaaGreat
set_option linter.unusedVariables false
open Go.RowKit
open Pl (firstG firstG_none firstG_some findG overG putG dropG It)

theorem sum_cut (g : List Value → Int) (l : List (List Value)) (i : Nat) : (l.map g).sum = ((l.take i).map g).sum + ((l.drop i).map g).sum := by
 rw [← List.sum_append, ← List.map_append, List.take_append_drop]
theorem sum_at (g : List Value → Int) (l : List (List Value)) {i : Nat} (hi : i < l.length) : ((l.drop i).map g).sum = g l[i] + ((l.drop (i + 1)).map g).sum := by
 rw [List.drop_eq_getElem_cons hi, List.map_cons, List.sum_cons]
/-- The sum behind a put: the new one's more, the one's that it takes the place of less. -/
theorem sum_put_none (g : List Value → Int) {ord : List Value → List Value → Int} {l : List (List Value)} {x : List Value} (h : findG ord l x = none) : ((putG ord l x).map g).sum = (l.map g).sum + g x := by
 unfold putG
 rw [h]
 simp only []
 split
 · rename_i i hi
   rw [List.map_append, List.map_append, List.sum_append, List.sum_append, sum_cut g l i]
   simp; omega
 · rw [List.map_append, List.sum_append]; simp
theorem sum_put_some (g : List Value → Int) {ord : List Value → List Value → Int} {l : List (List Value)} {x : List Value} {i : Nat} (h : findG ord l x = some i) (hi : i < l.length) : ((putG ord l x).map g).sum = (l.map g).sum + g x - g l[i] := by
 unfold putG
 rw [h]
 simp only []
 rw [List.map_append, List.map_append, List.sum_append, List.sum_append, sum_cut g l i, sum_at g l hi]
 simp; omega
/-- What a filter takes behind a put, a drop of something that it does not take. -/
theorem filt_cut (p : List Value → Bool) (l : List (List Value)) {i : Nat} (hi : i < l.length) (hp : p l[i] = false) : l.filter p = (l.take i).filter p ++ (l.drop (i + 1)).filter p := by
 conv => lhs; rw [← List.take_append_drop i l, List.drop_eq_getElem_cons hi]
 rw [List.filter_append, List.filter_cons_of_neg (by rw [hp]; simp)]
theorem filt_put (p : List Value → Bool) {ord : List Value → List Value → Int} {l : List (List Value)} {x : List Value} (hx : p x = false) (hf : ∀ i (hi : i < l.length), findG ord l x = some i → p l[i] = false) : (putG ord l x).filter p = l.filter p := by
 unfold putG
 split
 · rename_i i hi
   have hl : i < l.length := Pl.firstG_lt hi
   rw [List.filter_append, List.filter_append, filt_cut p l hl (hf i hl hi)]
   simp [hx]
 · split
   · rename_i i hi
     rw [List.filter_append, List.filter_append]
     conv => rhs; rw [← List.take_append_drop i l, List.filter_append]
     simp [hx]
   · rw [List.filter_append]; simp [hx]
theorem filt_drop (p : List Value → Bool) {ord : List Value → List Value → Int} {l : List (List Value)} {x : List Value} (hf : ∀ i (hi : i < l.length), findG ord l x = some i → p l[i] = false) : (dropG ord l x).filter p = l.filter p := by
 unfold dropG
 split
 · rename_i i hi
   have hl : i < l.length := Pl.firstG_lt hi
   rw [List.filter_append, filt_cut p l hl (hf i hl hi)]
 · rfl
/-- Quants, plain. -/
structure PlainQ (Q : List (List Value)) : Prop where
 fits : Things kQuant Q
 held : ∀ e ∈ Q, 0 ≤ (qnOf e).held ∧ (qnOf e).held ≤ (qnOf e).qty ∧ 1 ≤ (qnOf e).qty ∧ (qnOf e).qty ≤ 1000000000
 uniq : ∀ i j (hi : i < Q.length) (hj : j < Q.length), (qnOf Q[i]).ky = (qnOf Q[j]).ky → i = j
/-- The place of a key. -/
theorem PlainQ.at {Q : List (List Value)} (h : PlainQ Q) {i : Nat} (hi : i < Q.length) : atQ Q (qnOf Q[i]).ky = some i := by
 refine Pl.firstG_some hi (fun j hj hji => ?_) ?_
 · cases hc : isKy (qnOf Q[i]).ky Q[j] with
   | false => rfl
   | true => have := h.uniq j i hj hi (isKy_iff.1 hc); omega
 · exact isKy_iff.2 rfl
theorem PlainQ.got {Q : List (List Value)} (h : PlainQ Q) {i : Nat} (hi : i < Q.length) : gotQ Q (qnOf Q[i]).ky = Q[i] := by
 unfold gotQ
 rw [h.at hi]
 simp only [List.getD_eq_getElem?_getD, List.getElem?_eq_getElem hi, Option.getD_some]
/-- A quant, held otherwise. -/
def heldQ (e : List Value) (z : Int) : List Value := (Qn.mk (qnOf e).bin (qnOf e).item (qnOf e).lot (qnOf e).st (qnOf e).qty z).cells
theorem heldQ_self {e : List Value} (h : Fits kQuant e) : heldQ e (qnOf e).held = e := (qn_cells h).symm
theorem qn_heldQ (e : List Value) (z : Int) : qnOf (heldQ e z) = ⟨(qnOf e).bin, (qnOf e).item, (qnOf e).lot, (qnOf e).st, (qnOf e).qty, z⟩ := rfl
theorem wrap_small {z : Int} (h : -4000000000 ≤ z ∧ z ≤ 4000000000) : wrap64 z = z := IntWalk.wrap64_in z ⟨by omega, by omega⟩
theorem PlainQ.hold {Q : List (List Value)} (h : PlainQ Q) {i : Nat} (hi : i < Q.length) {n : Int} (h0 : 0 ≤ (qnOf Q[i]).held + n) (h1 : (qnOf Q[i]).held + n ≤ (qnOf Q[i]).qty) : holdE Q (qnOf Q[i]).ky n = 0 ∧ holdL Q (qnOf Q[i]).ky n = Q.set i (heldQ Q[i] ((qnOf Q[i]).held + n)) := by
 obtain ⟨a1, a2, a3, a4⟩ := h.held _ (List.getElem_mem hi)
 constructor
 · unfold holdE
   rw [if_neg (by rw [h.at hi]; simp), if_neg (by omega), h.got hi, if_neg (by rw [wrap_small ⟨by omega, by omega⟩, wrap_small ⟨by omega, by omega⟩]; omega)]
 · unfold holdL upQ
   rw [h.got hi, wrap_small ⟨by omega, by omega⟩]
   simp only []
   rw [if_neg (by omega)]
   unfold putG
   rw [findG_atQ]
   show (match atQ Q (qnOf Q[i]).ky with | some i => _ | none => _) = _
   rw [h.at hi]
   simp only []
   rw [List.set_eq_take_append_cons_drop, if_pos hi]
   simp [heldQ, Qn.ky]
theorem PlainQ.held_inv {Q : List (List Value)} (h : PlainQ Q) {k : Ky} {n : Int} (h0 : holdE Q k n = 0) : ∃ i, ∃ hi : i < Q.length, (qnOf Q[i]).ky = k ∧ 0 ≤ (qnOf Q[i]).held + n ∧ (qnOf Q[i]).held + n ≤ (qnOf Q[i]).qty := by
 unfold holdE at h0
 cases ha : atQ Q k with
 | none => rw [ha] at h0; simp at h0
 | some i =>
  have hi : i < Q.length := Pl.firstG_lt ha
  have hk : (qnOf Q[i]).ky = k := isKy_iff.1 (Pl.firstG_at ha hi)
  rw [ha, ← hk, h.got hi] at h0
  obtain ⟨a1, a2, a3, a4⟩ := h.held _ (List.getElem_mem hi)
  simp only [Option.isSome_some, Bool.true_eq_false, if_false] at h0
  split at h0
  · cases h0
  · rename_i hn
    rw [wrap_small ⟨by omega, by omega⟩, wrap_small ⟨by omega, by omega⟩] at h0
    split at h0
    · cases h0
    · exact ⟨i, hi, hk, by omega, by omega⟩
noncomputable instance kyDec : DecidableEq Ky := fun a b => Classical.propDecidable (a = b)
/-- Quants, of each key's held so much more. -/
def addQ (Q : List (List Value)) (f : Ky → Int) : List (List Value) := Q.map fun e => heldQ e ((qnOf e).held + f (qnOf e).ky)
theorem heldQ_ky (e : List Value) (z : Int) : (qnOf (heldQ e z)).ky = (qnOf e).ky := rfl
theorem addQ_zero {Q : List (List Value)} (h : Things kQuant Q) : addQ Q (fun _ => 0) = Q := by
 unfold addQ
 conv => rhs; rw [← List.map_id Q]
 refine List.map_congr_left (fun e he => ?_)
 rw [Int.add_zero, heldQ_self (h e he)]; rfl
theorem addQ_len (Q : List (List Value)) (f : Ky → Int) : (addQ Q f).length = Q.length := List.length_map _
theorem addQ_get (Q : List (List Value)) (f : Ky → Int) {i : Nat} (hi : i < Q.length) (h2 : i < (addQ Q f).length) : (addQ Q f)[i] = heldQ Q[i] ((qnOf Q[i]).held + f (qnOf Q[i]).ky) := List.getElem_map _
/-- What may be added. -/
def MayQ (Q : List (List Value)) (f : Ky → Int) : Prop := ∀ e ∈ Q, 0 ≤ (qnOf e).held + f (qnOf e).ky ∧ (qnOf e).held + f (qnOf e).ky ≤ (qnOf e).qty
theorem PlainQ.add {Q : List (List Value)} (h : PlainQ Q) {f : Ky → Int} (hf : MayQ Q f) : PlainQ (addQ Q f) := by
 refine ⟨fun e he => ?_, fun e he => ?_, fun i j hi hj he => ?_⟩
 · obtain ⟨d, hd, rfl⟩ := List.mem_map.1 he
   exact Qn.fits _
 · obtain ⟨d, hd, rfl⟩ := List.mem_map.1 he
   obtain ⟨a1, a2, a3, a4⟩ := h.held d hd
   obtain ⟨b1, b2⟩ := hf d hd
   rw [qn_heldQ]
   exact ⟨b1, b2, a3, a4⟩
 · rw [addQ_len] at hi hj
   rw [addQ_get Q f hi, addQ_get Q f hj, heldQ_ky, heldQ_ky] at he
   exact h.uniq i j hi hj he
theorem PlainQ.add_hold {Q : List (List Value)} (h : PlainQ Q) {f : Ky → Int} (hf : MayQ Q f) {k : Ky} {n : Int} (h0 : holdE (addQ Q f) k n = 0) : holdL (addQ Q f) k n = addQ Q (fun k' => f k' + if k' = k then n else 0) ∧ MayQ Q (fun k' => f k' + if k' = k then n else 0) := by
 have hp := h.add hf
 obtain ⟨i, hi, hk, b1, b2⟩ := hp.held_inv h0
 have hi2 : i < Q.length := by rw [addQ_len] at hi; exact hi
 have he := addQ_get Q f hi2 hi
 have hky : (qnOf Q[i]).ky = k := by rw [← hk, he, heldQ_ky]
 have hv : (qnOf (addQ Q f)[i]).held = (qnOf Q[i]).held + f (qnOf Q[i]).ky := by rw [he, qn_heldQ]
 have hq : (qnOf (addQ Q f)[i]).qty = (qnOf Q[i]).qty := by rw [he, qn_heldQ]
 constructor
 · rw [← hk, (hp.hold hi b1 b2).2]
   refine List.ext_getElem (by rw [List.length_set, addQ_len, addQ_len]) (fun j h1 h2 => ?_)
   have hj : j < Q.length := by rw [addQ_len] at h2; exact h2
   rw [addQ_get Q _ hj h2, List.getElem_set]
   split
   · rename_i e
     subst e
     rw [hv, hk, if_pos hky, ← Int.add_assoc]
     rw [he]; rfl
   · rename_i e
     rw [addQ_get Q f hj, hk, if_neg (fun e2 => e (h.uniq _ _ hi2 hj (hky.trans e2.symm))), Int.add_zero]
 · intro e hm
   obtain ⟨j, hj, rfl⟩ := List.getElem_of_mem hm
   obtain ⟨c1, c2⟩ := hf _ hm
   by_cases ej : (qnOf Q[j]).ky = k
   · have : i = j := h.uniq _ _ hi2 hj (hky.trans ej.symm)
     subst this
     rw [hv] at b1 b2
     rw [hq] at b2
     simp only [if_pos hky]
     omega
   · simp only [if_neg ej]
     omega
/-- What a claim has of an order and of a key. -/
noncomputable def cq (s : ByteArray) (k : Ky) (e : List Value) : Int := if ofOrd s e = true ∧ (clOf e).ky = k then (clOf e).qty else 0
noncomputable def sumC (s : ByteArray) (C : List (List Value)) (k : Ky) : Int := (C.map (cq s k)).sum
/-- The claims of an order, each of 1 or more, without a task. -/
def OneC (s : ByteArray) (C : List (List Value)) : Prop := ∀ e ∈ C, ofOrd s e = true → 1 ≤ (clOf e).qty ∧ (clOf e).task = 0
theorem cq_pos {s : ByteArray} {C : List (List Value)} (h : OneC s C) (k : Ky) : ∀ e ∈ C, 0 ≤ cq s k e := fun e he => by
 unfold cq
 split
 · rename_i hc
   have := (h e he hc.1).1
   omega
 · omega
theorem sum_nonneg {g : List Value → Int} : ∀ {l : List (List Value)}, (∀ e ∈ l, 0 ≤ g e) → 0 ≤ (l.map g).sum
 | [], _ => by simp
 | a :: l, h => by
  have h1 := h a (List.mem_cons_self ..)
  have h2 := sum_nonneg (l := l) (fun e he => h e (List.mem_cons_of_mem _ he))
  simp only [List.map_cons, List.sum_cons]
  omega
theorem le_sum {g : List Value → Int} {l : List (List Value)} (h : ∀ e ∈ l, 0 ≤ g e) {i : Nat} (hi : i < l.length) : g l[i] ≤ (l.map g).sum := by
 have h1 := sum_nonneg (l := l.take i) (fun e he => h e (List.mem_of_mem_take he))
 have h2 := sum_nonneg (l := l.drop (i + 1)) (fun e he => h e (List.mem_of_mem_drop he))
 rw [sum_cut g l i, sum_at g l hi]
 omega
theorem cl_mk (c : Cl) : clOf c.cells = c := rfl
theorem claim_one {s : ByteArray} {C : List (List Value)} {c : Cl} (hT : Things kClaim C) (h1 : OneC s C) (hs : c.ord = s) (ht : c.task = 0) (hn : 1 ≤ c.qty ∧ c.qty ≤ 1000000000) (hb : sumC s C c.ky ≤ 1000000000) :
  (∀ k, sumC s (claimL C c) k = sumC s C k + if k = c.ky then c.qty else 0) ∧ OneC s (claimL C c) ∧ (claimL C c).filter (fun e => !(ofOrd s e)) = C.filter (fun e => !(ofOrd s e)) ∧ Things kClaim (claimL C c) := by
 have hof : ∀ q, ofOrd s ({ c with qty := q } : Cl).cells = true := fun q => by
  unfold ofOrd
  rw [cl_mk]
  exact (Pl.eqv_iff _ _).2 hs
 cases ha : atC C c with
 | none =>
  have hL : claimL C c = putG ordClaim C c.cells := by
   unfold claimL claimC upC
   rw [ha]
   simp only [Option.isSome_none, Bool.false_eq_true, if_false]
   rw [if_neg (by omega)]
  have hf : findG ordClaim C c.cells = none := by rw [findG_atC, cl_mk]; exact ha
  rw [hL]
  refine ⟨fun k => ?_, fun e he => ?_, filt_put _ (by rw [hof c.qty]; rfl) (fun i hi h2 => by rw [hf] at h2; cases h2), hT.put c.fits⟩
  · unfold sumC
    rw [sum_put_none _ hf]
    congr 1
    unfold cq
    rw [cl_mk]
    by_cases e : k = c.ky
    · rw [if_pos ⟨hof c.qty, e.symm⟩, if_pos e]
    · rw [if_neg (fun h => e h.2.symm), if_neg e]
  · intro h2
    rcases Pl.putG_mem he with rfl | h3
    · rw [cl_mk]; exact ⟨hn.1, ht⟩
    · exact h1 e h3 h2
 | some i =>
  have hi : i < C.length := Pl.firstG_lt ha
  have hg : gotC C c = C[i] := by unfold gotC; rw [ha]; simp only [List.getD_eq_getElem?_getD, List.getElem?_eq_getElem hi, Option.getD_some]
  have hsm : (clOf C[i]).same c := isCl_iff.1 (Pl.firstG_at ha hi)
  have hio : ofOrd s C[i] = true := by unfold ofOrd; exact (Pl.eqv_iff _ _).2 (hsm.1.trans hs)
  obtain ⟨q, hq⟩ : ∃ q, (clOf C[i]).qty = q := ⟨_, rfl⟩
  have h2 := (h1 _ (List.getElem_mem hi) hio).1
  have h3 := le_sum (cq_pos h1 c.ky) hi
  have h4 : ∀ k, cq s k C[i] = if k = c.ky then q else 0 := fun k => by
   unfold cq
   by_cases e : k = c.ky
   · rw [if_pos ⟨hio, hsm.2.2.1.trans e.symm⟩, if_pos e, hq]
   · rw [if_neg (fun h => e (h.2.symm.trans hsm.2.2.1)), if_neg e]
  rw [h4, if_pos rfl] at h3
  rw [hq] at h2
  have h5 : q ≤ 1000000000 := Int.le_trans h3 hb
  have hL : claimL C c = putG ordClaim C ({ c with qty := c.qty + q } : Cl).cells := by
   unfold claimL claimC
   rw [ha, hg, hq, wrap_small ⟨by omega, by omega⟩]
   simp only [Option.isSome_some, if_true]
   unfold upC
   simp only []
   rw [if_neg (by omega)]
  have hf : findG ordClaim C ({ c with qty := c.qty + q } : Cl).cells = some i := by rw [findG_atC, cl_mk]; exact ha
  rw [hL]
  refine ⟨fun k => ?_, fun e he => ?_, filt_put _ (by rw [hof]; rfl) (fun j hj h6 => ?_), hT.put (Cl.fits _)⟩
  · unfold sumC
    rw [sum_put_some _ hf hi, h4]
    have h7 : cq s k ({ c with qty := c.qty + q } : Cl).cells = if k = c.ky then c.qty + q else 0 := by
     unfold cq
     rw [cl_mk]
     by_cases e : k = c.ky
     · rw [if_pos ⟨hof _, e.symm⟩, if_pos e]
     · rw [if_neg (fun h => e h.2.symm), if_neg e]
    rw [h7]
    by_cases e : k = c.ky
    · rw [if_pos e, if_pos e, if_pos e]; omega
    · rw [if_neg e, if_neg e, if_neg e]; omega
  · intro h8
    rcases Pl.putG_mem he with rfl | h9
    · rw [cl_mk]; exact ⟨by show 1 ≤ c.qty + q; omega, ht⟩
    · exact h1 e h9 h8
  · rw [hf] at h6
    have : i = j := Option.some.inj h6
    subst this
    rw [hio]; rfl
/-- What stands while an order is allocated: Q the quants, C the other orders' claims. -/
structure InvA (Q C : List (List Value)) (s : ByteArray) (M : HL) : Prop where
 q : M 4 = addQ Q (sumC s (M 8))
 may : MayQ Q (sumC s (M 8))
 one : OneC s (M 8)
 rest : (M 8).filter (fun e => !(ofOrd s e)) = C
 th : Things kClaim (M 8)
 key : ∀ e ∈ M 8, ofOrd s e = true → ∃ d ∈ Q, (qnOf d).ky = (clOf e).ky
theorem claimL_mem {C : List (List Value)} {c : Cl} {e : List Value} (he : e ∈ claimL C c) : (clOf e).ky = c.ky ∨ e ∈ C := by
 unfold claimL upC at he
 split at he
 · exact .inr (dropG_mem he)
 · rcases Pl.putG_mem he with rfl | h
   · left
     rw [cl_mk]
     unfold claimC
     split <;> rfl
   · exact .inr h
theorem InvA.take {Q C : List (List Value)} {s : ByteArray} {M : HL} (hQ : PlainQ Q) (h : InvA Q C s M) {n : Int} {t : List Value} (hn : 1 ≤ tqN t) (h0 : rsvE1 M s n t = 0) : InvA Q C s (rsvM1 M s n t) := by
 unfold rsvE1 at h0
 have e1 : holdE (M 4) (tqK t) (tqN t) = 0 := by
  by_cases e : holdE (M 4) (tqK t) (tqN t) = 0
  · exact e
  · rw [if_pos e] at h0; exact h0
 have m4 : rsvM1 M s n t 4 = holdL (M 4) (tqK t) (tqN t) := by unfold rsvM1; rw [setE_off rfl _ (by decide), setE_at rfl]
 have m8 : rsvM1 M s n t 8 = claimL (M 8) (tqC s n t) := by unfold rsvM1; rw [setE_at rfl]
 rw [h.q] at e1 m4
 obtain ⟨a1, a2⟩ := hQ.add_hold h.may e1
 obtain ⟨i, hi, hk, b1, b2⟩ := (hQ.add h.may).held_inv e1
 have hi2 : i < Q.length := by rw [addQ_len] at hi; exact hi
 have hg := addQ_get Q (sumC s (M 8)) hi2 hi
 rw [hg, qn_heldQ] at b1 b2
 rw [hg, heldQ_ky] at hk
 rw [hk] at b1 b2
 simp only [] at b1 b2
 obtain ⟨c1, c2, c3, c4⟩ := hQ.held _ (List.getElem_mem hi2)
 have hd := (h.may _ (List.getElem_mem hi2))
 rw [hk] at hd
 have hf0 : 0 ≤ sumC s (M 8) (tqK t) := sum_nonneg (cq_pos h.one _)
 obtain ⟨d1, d2, d3, d4⟩ := claim_one (c := tqC s n t) h.th h.one rfl rfl ⟨hn, by show tqN t ≤ 1000000000; omega⟩ (by show sumC s (M 8) (tqK t) ≤ 1000000000; omega)
 have hf : sumC s (rsvM1 M s n t 8) = fun k' => sumC s (M 8) k' + if k' = tqK t then tqN t else 0 := by
  rw [m8]
  exact funext (fun k' => d1 k')
 exact ⟨by rw [hf, m4]; exact a1, by rw [hf]; exact a2, by rw [m8]; exact d2, by rw [m8, d3]; exact h.rest, by rw [m8]; exact d4, fun e he ho => by
  rw [m8] at he
  rcases claimL_mem he with h5 | h5
  · exact ⟨Q[i], List.getElem_mem hi2, by rw [h5]; exact hk⟩
  · exact h.key e h5 ho⟩
theorem InvA.takes {Q C : List (List Value)} {s : ByteArray} {M : HL} (hQ : PlainQ Q) (h : InvA Q C s M) (n : Int) {T : List (List Value)} (hT : ∀ t ∈ T, 1 ≤ tqN t) : ∀ k, k ≤ T.length → rsvE s n T M k = 0 → InvA Q C s (rsvM s n T M k)
 | 0, _, _ => h
 | k + 1, hk, h0 => by
  obtain ⟨h1, h2⟩ := firstE_prev h0
  refine (InvA.takes hQ h n hT k (by omega) h1).take hQ ?_ h2
  rw [List.getD_eq_getElem?_getD, List.getElem?_eq_getElem (by omega : k < T.length)]
  exact hT _ (List.getElem_mem _)
theorem sumC_none {s : ByteArray} {C : List (List Value)} (h : ∀ e ∈ C, ofOrd s e = false) : sumC s C = fun _ => 0 := by
 funext k
 unfold sumC
 have : C.map (cq s k) = C.map (fun _ => 0) := List.map_congr_left (fun e he => by unfold cq; rw [if_neg (by rw [h e he]; simp)])
 rw [this]
 clear this h
 induction C with
 | nil => rfl
 | cons a l ih => simp only [List.map_cons, List.sum_cons, ih]; rfl
theorem InvA.start {L : HL} {s : ByteArray} (hQ : PlainQ (L 4)) (hT : Things kClaim (L 8)) (h : ∀ e ∈ L 8, ofOrd s e = false) : InvA (L 4) (L 8) s L := by
 refine ⟨by rw [sumC_none h, addQ_zero hQ.fits], fun e he => ?_, fun e he ho => ?_, ?_, hT, fun e he ho => ?_⟩
 · rw [sumC_none h, Int.add_zero]
   exact ⟨(hQ.held e he).1, (hQ.held e he).2.1⟩
 · rw [h e he] at ho; cases ho
 · exact List.filter_eq_self.2 (fun e he => by rw [h e he]; rfl)
 · rw [h e he] at ho; cases ho
theorem sumC_filter (s : ByteArray) (C : List (List Value)) (k : Ky) : sumC s (C.filter (ofOrd s)) k = sumC s C k := by
 unfold sumC
 induction C with
 | nil => rfl
 | cons a l ih =>
  cases ha : ofOrd s a with
  | true => rw [List.filter_cons_of_pos ha, List.map_cons, List.map_cons, List.sum_cons, List.sum_cons, ih]
  | false =>
   rw [List.filter_cons_of_neg (by rw [ha]; simp), List.map_cons, List.sum_cons, ih]
   have : cq s k a = 0 := by unfold cq; rw [if_neg (by rw [ha]; simp)]
   rw [this, Int.zero_add]
/-- Behind j of the order's claims what is held of each key is held for the claims that are left. -/
theorem InvA.release {Q C : List (List Value)} {s : ByteArray} {M : HL} (hQ : PlainQ Q) (h : InvA Q C s M) : ∀ j, j ≤ (claimsL (M 8) s).length → relE (claimsL (M 8) s) M j = 0 ∧ relM (claimsL (M 8) s) M j 4 = addQ Q (sumC s ((claimsL (M 8) s).drop j))
 | 0, _ => ⟨rfl, by
  have : sumC s ((claimsL (M 8) s).drop 0) = sumC s (M 8) := funext (fun k => sumC_filter s (M 8) k)
  rw [this]
  exact h.q⟩
 | j + 1, hj => by
  obtain ⟨r1, r2⟩ := InvA.release hQ h j (by omega)
  obtain ⟨CL, hCL⟩ : ∃ CL, claimsL (M 8) s = CL := ⟨_, rfl⟩
  have hmem : ∀ e ∈ CL, e ∈ M 8 ∧ ofOrd s e = true := fun e he => by rw [← hCL] at he; exact List.mem_filter.1 he
  have hfull : ∀ k, sumC s CL k = sumC s (M 8) k := fun k => by rw [← hCL]; exact sumC_filter s (M 8) k
  rw [hCL] at r1 r2 hj ⊢
  have hjl : j < CL.length := by omega
  have hpos : OneC s CL := fun e he ho => h.one e (hmem e he).1 ho
  obtain ⟨m1, m2⟩ := hmem _ (List.getElem_mem hjl)
  obtain ⟨q1, _⟩ := h.one _ m1 m2
  have hdrop : ∀ k, sumC s (CL.drop j) k = cq s k CL[j] + sumC s (CL.drop (j + 1)) k := fun k => sum_at (cq s k) CL hjl
  have hd1 : ∀ k, 0 ≤ sumC s (CL.drop (j + 1)) k := fun k => sum_nonneg (fun e he => cq_pos hpos k e (List.mem_of_mem_drop he))
  have hd0 : ∀ k, 0 ≤ sumC s (CL.drop j) k := fun k => sum_nonneg (fun e he => cq_pos hpos k e (List.mem_of_mem_drop he))
  have hle : ∀ k, sumC s (CL.drop j) k ≤ sumC s (M 8) k := fun k => by
   rw [← hfull k]
   unfold sumC
   rw [sum_cut (cq s k) CL j]
   have := sum_nonneg (l := CL.take j) (fun e he => cq_pos hpos k e (List.mem_of_mem_take he))
   omega
  have hmay : MayQ Q (sumC s (CL.drop j)) := fun e he => by
   obtain ⟨a1, a2, _, _⟩ := hQ.held e he
   have b := h.may e he
   have c1 := hd0 (qnOf e).ky
   have c2 := hle (qnOf e).ky
   omega
  obtain ⟨d, hd, hky⟩ := h.key _ m1 m2
  obtain ⟨i, hi, rfl⟩ := List.getElem_of_mem hd
  obtain ⟨q, hq⟩ : ∃ q, (clOf CL[j]).qty = q := ⟨_, rfl⟩
  obtain ⟨k, hk⟩ : ∃ k, (clOf CL[j]).ky = k := ⟨_, rfl⟩
  rw [hk] at hky
  rw [hq] at q1
  have hcq : ∀ k', cq s k' CL[j] = if k' = k then q else 0 := fun k' => by
   unfold cq
   by_cases e : k' = k
   · rw [if_pos ⟨m2, hk.trans e.symm⟩, if_pos e, hq]
   · rw [if_neg (fun h => e (h.2.symm.trans hk)), if_neg e]
  have hfk := hdrop k
  rw [hcq, if_pos rfl] at hfk
  have hr := hd1 k
  obtain ⟨a1, a2, a3, a4⟩ := hQ.held _ (List.getElem_mem hi)
  have hb := hmay _ (List.getElem_mem hi)
  rw [hky] at hb
  have hw : wrap64 (-q) = -q := wrap_small ⟨by omega, by omega⟩
  have hi2 : i < (addQ Q (sumC s (CL.drop j))).length := by rw [addQ_len]; exact hi
  have hg := addQ_get Q (sumC s (CL.drop j)) hi hi2
  have he0 : holdE (addQ Q (sumC s (CL.drop j))) k (-q) = 0 := by
   have := ((hQ.add hmay).hold hi2 (n := -q) (by rw [hg, qn_heldQ, hky]; show 0 ≤ (qnOf Q[i]).held + sumC s (CL.drop j) k + -q; omega) (by rw [hg, qn_heldQ, hky]; show (qnOf Q[i]).held + sumC s (CL.drop j) k + -q ≤ (qnOf Q[i]).qty; omega)).1
   rw [hg, heldQ_ky, hky] at this
   exact this
  have hgd : CL.getD j [] = CL[j] := by rw [List.getD_eq_getElem?_getD, List.getElem?_eq_getElem hjl]; rfl
  constructor
  · rw [show relE CL M (j + 1) = _ from firstE_one r1, hgd, hk, hq, hw, r2]
    exact he0
  · rw [relM_succ, setE_off rfl _ (by decide), setE_at rfl, hgd, hk, hq, hw, r2, (hQ.add_hold hmay he0).1]
    congr 1
    funext k'
    rw [hdrop k', hcq k']
    split <;> omega
/-- Behind all of the order's claims the quants are as they were. -/
theorem InvA.freed {Q C : List (List Value)} {s : ByteArray} {M : HL} (hQ : PlainQ Q) (h : InvA Q C s M) : relE (claimsL (M 8) s) M (claimsL (M 8) s).length = 0 ∧ relM (claimsL (M 8) s) M (claimsL (M 8) s).length 4 = Q := by
 obtain ⟨r1, r2⟩ := h.release hQ _ (Nat.le_refl _)
 refine ⟨r1, ?_⟩
 rw [r2, List.drop_length, sumC_none (C := []) (fun e he => by cases he), addQ_zero hQ.fits]
theorem InvA.idle {Q C : List (List Value)} {s : ByteArray} {M : HL} (h : InvA Q C s M) : (claimsL (M 8) s).any taskB = false := by
 rw [List.any_eq_false]
 intro e he
 obtain ⟨h1, h2⟩ := List.mem_filter.1 he
 unfold taskB
 rw [(h.one e h1 h2).2]
 decide
/-- A put of an order or the like elsewhere leaves it all. -/
theorem InvA.congr {Q C : List (List Value)} {s : ByteArray} {M M' : HL} (h : InvA Q C s M) (h4 : M' 4 = M 4) (h8 : M' 8 = M 8) : InvA Q C s M' := ⟨by rw [h4, h8]; exact h.q, by rw [h8]; exact h.may, by rw [h8]; exact h.one, by rw [h8]; exact h.rest, by rw [h8]; exact h.th, by rw [h8]; exact h.key⟩
theorem InvA.lines {Q C : List (List Value)} {s : ByteArray} {L : HL} (hQ : PlainQ Q) (h : InvA Q C s L) (X : List Value) (hp : ∀ M, InvA Q C s M → ∀ k, ∀ t ∈ picksA M X s k, 1 ≤ tqN t) : ∀ k, alcE L X s k = 0 → InvA Q C s (alcM L X s k)
 | 0, _ => h
 | k + 1, h0 => by
  obtain ⟨h1, h2⟩ := firstE_prev h0
  have ih := InvA.lines hQ h X hp k h1
  show InvA Q C s (lineM (alcM L X s k) X s k)
  unfold lineEA at h2
  unfold lineM
  split
  · exact ih
  · rename_i he
    rw [if_neg he] at h2
    exact ih.takes hQ _ (hp _ ih k) _ (Nat.le_refl _) h2
end Go.Proofs.YtlkmccmbpnbgbaaGreat
