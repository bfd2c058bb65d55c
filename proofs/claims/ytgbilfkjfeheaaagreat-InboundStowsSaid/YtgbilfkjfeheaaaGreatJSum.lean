/-
 PLAIN: what quants add up to, behind what is put, taken, moved.
-/
import Derived.Test.YtgbilfkjfeheaaaGreatJCon
namespace Go.Proofs.YtgbilfkjfeheaaaGreat
set_option linter.unusedVariables false
open Go.RowKit
open Pl (firstG findG putG dropG It)

/-- How much stands in a quant that is asked for. -/
def termQ (p : Ky → Bool) (e : List Value) : Int := if p (qnOf e).ky = true then (qnOf e).qty else 0
def sumP (p : Ky → Bool) : List (List Value) → Int
 | [] => 0
 | e :: L => termQ p e + sumP p L
theorem sumP_app (p : Ky → Bool) : ∀ (A B : List (List Value)), sumP p (A ++ B) = sumP p A + sumP p B
 | [], B => by show sumP p B = 0 + sumP p B; omega
 | e :: A, B => by show termQ p e + sumP p (A ++ B) = (termQ p e + sumP p A) + sumP p B; rw [sumP_app p A B]; omega
theorem sumP_set (p : Ky → Bool) (x : List Value) : ∀ (L : List (List Value)) (i : Nat) (hi : i < L.length), sumP p (L.set i x) = sumP p L - termQ p L[i] + termQ p x
 | e :: L, 0, _ => by show termQ p x + sumP p L = termQ p e + sumP p L - termQ p e + termQ p x; omega
 | e :: L, i + 1, hi => by
  have hi' : i < L.length := by simpa using hi
  have := sumP_set p x L i hi'
  show termQ p e + sumP p (L.set i x) = (termQ p e + sumP p L) - termQ p L[i] + termQ p x
  rw [this]; omega
theorem sumP_erase (p : Ky → Bool) : ∀ (L : List (List Value)) (i : Nat) (hi : i < L.length), sumP p (L.take i ++ L.drop (i + 1)) = sumP p L - termQ p L[i]
 | e :: L, 0, _ => by show sumP p L = termQ p e + sumP p L - termQ p e; omega
 | e :: L, i + 1, hi => by
  have hi' : i < L.length := by simpa using hi
  have := sumP_erase p L i hi'
  show termQ p e + sumP p (L.take i ++ L.drop (i + 1)) = (termQ p e + sumP p L) - termQ p L[i]
  rw [this]; omega
theorem gotQ_none {L : List (List Value)} {k : Ky} (h : atQ L k = none) : gotQ L k = zeroQuant := by unfold gotQ; rw [h]
theorem sumP_up (p : Ky → Bool) (L : List (List Value)) (q : Qn) : sumP p (upQ L q) = sumP p L + (if p q.ky = true then q.qty - (qnOf (gotQ L q.ky)).qty else 0) := by
 have hq : termQ p q.cells = if p q.ky = true then q.qty else 0 := rfl
 cases hc : atQ L q.ky with
 | some i =>
  obtain ⟨hi, hg⟩ := gotQ_at hc
  have hk : (qnOf L[i]).ky = q.ky := isKy_iff.1 (Pl.firstG_at hc hi)
  have ht : termQ p L[i] = if p q.ky = true then (qnOf L[i]).qty else 0 := by unfold termQ; rw [hk]
  rw [hg]
  by_cases h0 : q.qty = 0
  · have hd : upQ L q = L.take i ++ L.drop (i + 1) := by
     unfold upQ dropG
     rw [if_pos h0, findG_atQ, show (qnOf q.cells).ky = q.ky from rfl, hc]
    rw [hd, sumP_erase p L i hi, ht, h0]
    split <;> omega
  · rw [upQ_set hc h0, sumP_set p q.cells L i hi, hq, ht]
    split <;> omega
 | none =>
  rw [gotQ_none hc]
  have hz : (qnOf zeroQuant).qty = 0 := rfl
  rw [hz]
  by_cases h0 : q.qty = 0
  · have hd : upQ L q = L := by
     unfold upQ dropG
     rw [if_pos h0, findG_atQ, show (qnOf q.cells).ky = q.ky from rfl, hc]
    rw [hd, h0]
    split <;> omega
  · obtain ⟨A, B, hL, hu, _⟩ := upQ_new hc h0
    rw [hu, hL, sumP_app, sumP_app, sumP_app]
    show sumP p A + (termQ p q.cells + 0) + sumP p B = _
    rw [hq]
    split <;> omega
theorem wrap_mod (a b : Int) (h : (a - b) % 18446744073709551616 = 0) : wrap64 a = wrap64 b := by unfold wrap64; omega
theorem wrap_sub (a : Int) : (wrap64 a - a) % 18446744073709551616 = 0 := by unfold wrap64; omega
theorem sum_put (p : Ky → Bool) (L : List (List Value)) (k : Ky) (n : Int) : wrap64 (sumP p (putL L k n)) = wrap64 (sumP p L + if p k = true then n else 0) := by
 unfold putL
 rw [sumP_up]
 have hk : (putX L k n).ky = k := by unfold putX; split <;> rfl
 rw [hk]
 by_cases hp : p k = true
 · rw [if_pos hp, if_pos hp]
   refine wrap_mod _ _ ?_
   by_cases hs : (atQ L k).isSome = false
   · have hn : atQ L k = none := by cases hc : atQ L k with | none => rfl | some i => rw [hc] at hs; cases hs
     have hx : (putX L k n).qty = n := by unfold putX; rw [if_pos hs]
     rw [hx, gotQ_none hn, show (qnOf zeroQuant).qty = 0 from rfl]
     omega
   · have hx : (putX L k n).qty = wrap64 ((qnOf (gotQ L k)).qty + n) := by unfold putX; rw [if_neg hs]
     rw [hx]
     have := wrap_sub ((qnOf (gotQ L k)).qty + n)
     omega
 · rw [if_neg hp, if_neg hp]
theorem sum_take (p : Ky → Bool) (L : List (List Value)) (k : Ky) (n : Int) : wrap64 (sumP p (takeL L k n)) = wrap64 (sumP p L - if p k = true then n else 0) := by
 unfold takeL
 rw [sumP_up]
 have hk : (Qn.mk k.bin k.item k.lot k.st (wrap64 ((qnOf (gotQ L k)).qty - n)) (qnOf (gotQ L k)).held).ky = k := rfl
 rw [hk]
 by_cases hp : p k = true
 · rw [if_pos hp, if_pos hp]
   refine wrap_mod _ _ ?_
   have := wrap_sub ((qnOf (gotQ L k)).qty - n)
   simp only []
   omega
 · rw [if_neg hp, if_neg hp]
   refine wrap_mod _ _ ?_
   omega
theorem sum_move (p : Ky → Bool) (L : List (List Value)) (k : Ky) (n : Int) (t : ByteArray) (hp : p ⟨t, k.item, k.lot, k.st⟩ = p k) : wrap64 (sumP p (moveL L k n t)) = wrap64 (sumP p L) := by
 unfold moveL
 rw [sum_put, hp]
 have h := sum_take p L k n
 by_cases hk : p k = true
 · rw [if_pos hk] at h ⊢
   unfold wrap64 at h ⊢; omega
 · rw [if_neg hk] at h ⊢
   unfold wrap64 at h ⊢; omega
/-- The total of an item and lot. -/
def ofKy (s t : ByteArray) (k : Ky) : Bool := Pl.eqv k.item s && Pl.eqv k.lot t
theorem stockQ_sum (s t : ByteArray) (L : List (List Value)) : stockQ L s t = wrap64 (sumP (ofKy s t) L) := by
 have key : ∀ (L : List (List Value)) (n : Int), wrap64 n = n → L.foldl (fun n q => if (Pl.eqv (qnOf q).item s && Pl.eqv (qnOf q).lot t) = true then wrap64 (n + (qnOf q).qty) else n) n = wrap64 (n + sumP (ofKy s t) L) := by
  intro L
  induction L with
  | nil => intro n hn; show n = wrap64 (n + 0); rw [Int.add_zero, hn]
  | cons e L ih =>
   intro n hn
   rw [List.foldl_cons]
   have ht : termQ (ofKy s t) e = if (Pl.eqv (qnOf e).item s && Pl.eqv (qnOf e).lot t) = true then (qnOf e).qty else 0 := rfl
   show _ = wrap64 (n + (termQ (ofKy s t) e + sumP (ofKy s t) L))
   rw [ht]
   by_cases h : (Pl.eqv (qnOf e).item s && Pl.eqv (qnOf e).lot t) = true
   · rw [if_pos h, if_pos h, ih _ (by unfold wrap64; omega)]
     refine wrap_mod _ _ ?_
     have := wrap_sub (n + (qnOf e).qty)
     omega
   · rw [if_neg h, if_neg h, ih _ hn]
     congr 1; omega
 have := key L 0 (by unfold wrap64; omega)
 rw [Int.zero_add] at this
 exact this
/-- What is stowed leaves its total; where it goes is another bin, that is there. -/
theorem stow_facts {L : Nat → List (List Value)} {k : Ky} {n : Int} (h : stowE L k n = 0) : (atBin (L 3) (stowT L k n)).isSome = true ∧ Pl.eqv (stowT L k n) k.bin = false ∧ stockQ (stowL L k n) k.item k.lot = stockQ (L 4) k.item k.lot := by
 unfold stowE at h
 split at h
 · cases h
 split at h
 · cases h
 split at h
 · rename_i h1; exact absurd h h1
 unfold moveE at h
 split at h
 · cases h
 rename_i h1
 split at h
 · cases h
 rename_i h2
 refine ⟨by cases hq : (atBin (L 3) (stowT L k n)).isSome with | true => rfl | false => exact absurd hq h2, by cases hq : Pl.eqv (stowT L k n) k.bin with | false => rfl | true => exact absurd hq h1, ?_⟩
 rw [stockQ_sum, stockQ_sum]
 exact sum_move _ _ _ _ _ rfl
end Go.Proofs.YtgbilfkjfeheaaaGreat
