/-
 PLAIN, and of a house in its box: what is so at each round of InboundComes; sums of what stands at a dock.
-/
import Derived.Test.YtgbilfkjfeheaaaGreatJFacts
import Derived.Test.YtgbilfkjfeheaaaGreatJCame
import Derived.Test.YtgbilfkjfeheaaaGreatGT
namespace Go.Proofs.YtgbilfkjfeheaaaGreat
set_option linter.unusedVariables false
open Go.RowKit
open Pl (firstG findG putG It)

/-- A key of a dock, an item and a lot. -/
def dockK (d s t : ByteArray) (k : Ky) : Bool := Pl.eqv k.bin d && (Pl.eqv k.item s && Pl.eqv k.lot t)
theorem sumP_snoc (p : Ky → Bool) (L : List (List Value)) (k : Nat) (hk : k < L.length) : sumP p (L.take (k + 1)) = sumP p (L.take k) + termQ p L[k] := by
 rw [List.take_add_one, List.getElem?_eq_getElem hk, Option.toList_some, sumP_app]
 show _ + (termQ p _ + 0) = _
 omega
theorem wrap_add2 (S t : Int) : wrap64 (wrap64 S + t) = wrap64 (S + t) := by unfold wrap64; omega
theorem wrap_sub3 (S t : Int) : wrap64 (wrap64 S - t) = wrap64 (S - t) := by unfold wrap64; omega
theorem wrap_dif {A B q : Int} (h : wrap64 A = wrap64 (B + q)) (h0 : 0 ≤ q) (h1 : q ≤ 1000000000) : wrap64 (A - B) = q ∧ wrap64 (wrap64 A - wrap64 B) = q := by
 unfold wrap64 at *; omega
theorem eqv_refl (s : ByteArray) : Pl.eqv s s = true := (Pl.eqv_iff _ _).2 rfl
theorem dockK_rec (L : Nat → List (List Value)) (x : Cm) : dockK x.dock x.item x.lot (recK L x) = true := by
 unfold dockK recK
 simp [eqv_refl]
theorem ofKy_rec (L : Nat → List (List Value)) (x : Cm) : ofKy x.item x.lot (recK L x) = true := by
 unfold ofKy recK
 simp [eqv_refl]
/-- The totals, and what stands at the dock, are more by what came. -/
theorem came_tot {L : Nat → List (List Value)} {x : Cm} (h : Came L x) : wrap64 (stockQ (recM L x 4) x.item x.lot - stockQ (L 4) x.item x.lot) = recQ L x := by
 rw [stockQ_sum, stockQ_sum]
 have := came_sum (ofKy x.item x.lot) L x
 rw [if_pos (ofKy_rec L x)] at this
 exact (wrap_dif this (by have := h.lo; omega) h.hi).2
theorem came_dock {L : Nat → List (List Value)} {x : Cm} (h : Came L x) : wrap64 (sumP (dockK x.dock x.item x.lot) (recM L x 4) - sumP (dockK x.dock x.item x.lot) (L 4)) = recQ L x := by
 have := came_sum (dockK x.dock x.item x.lot) L x
 rw [if_pos (dockK_rec L x)] at this
 exact (wrap_dif this (by have := h.lo; omega) h.hi).1
theorem came_in2 {L : Nat → List (List Value)} {x : Cm} (h : Came L x) (z : Int) : wrap64 (wrap64 (z + recQ L x) - z) = recQ L x := by
 have h1 := h.lo; have h2 := h.hi
 unfold wrap64; omega
theorem notice_box2 {w : World} {b : Nat} {cs : List Value} {t : TypeId} (h : w.heap[b]? = some (.cells cs.toArray t (0, 0))) (hf : Fits kNotice cs) : w.rangeAt b 2 (nlines cs) ∧ b < w.heap.size := by
 refine ⟨fun i v hv => ?_, lt_of_block h⟩
 unfold nlines at hv
 rw [cell_of_block h, List.getElem?_toArray]
 have hi : i < 48 := by
  have := (List.getElem?_eq_some_iff.1 hv).1
  rw [List.length_take] at this; omega
 rwa [List.getElem?_take, if_pos hi, List.getElem?_drop] at hv
theorem sum_zero (p : Ky → Bool) (L : List (List Value)) : wrap64 (sumP p (L.take 0)) = 0 := by
 rw [List.take_zero]
 show wrap64 0 = 0
 unfold wrap64; omega
theorem sum_zero2 (S : Int) (p : Ky → Bool) (L : List (List Value)) : wrap64 (S - sumP p (L.take 0)) = wrap64 S := by
 rw [List.take_zero]
 show wrap64 (S - 0) = wrap64 S
 rw [Int.sub_zero]
/-- One quant more, in sums that wrap. -/
theorem sum_next (p : Ky → Bool) (L : List (List Value)) (k : Nat) (hk : k < L.length) : wrap64 (sumP p (L.take (k + 1))) = if p (qnOf L[k]).ky = true then wrap64 (wrap64 (sumP p (L.take k)) + (qnOf L[k]).qty) else wrap64 (sumP p (L.take k)) := by
 rw [sumP_snoc p L k hk]
 unfold termQ
 split
 · rw [wrap_add2]
 · rw [Int.add_zero]
theorem sum_next2 (S : Int) (p : Ky → Bool) (L : List (List Value)) (k : Nat) (hk : k < L.length) : wrap64 (S - sumP p (L.take (k + 1))) = if p (qnOf L[k]).ky = true then wrap64 (wrap64 (S - sumP p (L.take k)) - (qnOf L[k]).qty) else wrap64 (S - sumP p (L.take k)) := by
 rw [sumP_snoc p L k hk]
 unfold termQ
 split
 · rw [wrap_sub3]; congr 1; omega
 · rw [Int.add_zero]
/-- What is so at each round: the house in its box, its lists, its lines' bounds. -/
structure CInv (w : World) (a : Hs) (L : Nat → List (List Value)) (k : Nat) (W : World) : Prop where
 b : HBox w a L W
 n4 : (L 4).length ≤ 1000 + k
 n6 : (L 6).length ≤ 1000 + k
 n13 : (L 13).length ≤ 1000 + k
 ok : NotesOk (L 6)
theorem CInv.below {w W W' : World} {a : Hs} {L : Nat → List (List Value)} {k : Nat} (h : CInv w a L k W) (hb : Below W.heap.size W W') : CInv w a L k W' := ⟨h.b.below hb, h.n4, h.n6, h.n13, h.ok⟩
theorem CInv.next {w W : World} {a : Hs} {L : Nat → List (List Value)} {k : Nat} (h : CInv w a L k W) : CInv w a L (k + 1) W := ⟨h.b, by have := h.n4; omega, by have := h.n6; omega, by have := h.n13; omega, h.ok⟩
theorem recM_len (L : Nat → List (List Value)) (x : Cm) : (recM L x 4).length ≤ (L 4).length + 1 ∧ (recM L x 6).length ≤ (L 6).length + 1 ∧ (recM L x 13).length ≤ (L 13).length + 1 := by
 refine ⟨?_, ?_, ?_⟩
 · rw [show recM L x 4 = putL (L 4) (recK L x) (recQ L x) from rfl]
   exact upQ_len _ _
 · rw [show recM L x 6 = putG ordNotice (L 6) (recN L x) from rfl, Pl.putG_len]; split <;> omega
 · rw [show recM L x 13 = putG ordL (L 13) (recT L x) from rfl, Pl.putG_len]; split <;> omega
theorem CInv.step {w W : World} {a p : Hs} {L : Nat → List (List Value)} {k : Nat} {x : Cm} (h : CInv w a L k W) (hn : NotesOk (recM L x 6)) (ht : HT p (recM L x) W) (hc : Caps p) (ho : Off w.heap.size p (recM L x)) : CInv w p (recM L x) (k + 1) (W.setRow w.heap.size p.cells) := by
 obtain ⟨h4, h6, h13⟩ := recM_len L x
 exact ⟨h.b.store ht hc ho, by have := h.n4; omega, by have := h.n6; omega, by have := h.n13; omega, hn⟩
end Go.Proofs.YtgbilfkjfeheaaaGreat
