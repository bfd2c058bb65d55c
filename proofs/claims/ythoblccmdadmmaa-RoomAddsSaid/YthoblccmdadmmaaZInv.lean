/-
  A HOUSE THAT HOLDS: no bin is overfull, whatever sizes and capacities are given.
-/
import Derived.Test.YthoblccmdadmmaaHLoop
import Derived.Test.YthoblccmdadmmaaZFacts
namespace Go.Proofs.Ythoblccmdadmmaa
set_option linter.unusedVariables false
open Go.RowKit
open Pl (firstG findG putG It)

structure HInv (w : World) (a : Hs) (L : Nat → List (List Value)) (W : World) : Prop where
  b : HBox w a L W
  n0 : a.n 0 ≤ 1000
  n3 : a.n 3 ≤ 1000
  ov : overL (L 0) (L 3) (L 4) = []
theorem HInv.below {w W W' : World} {a : Hs} {L : Nat → List (List Value)} (h : HInv w a L W) (hb : Below W.heap.size W W') : HInv w a L W' := ⟨h.b.below hb, h.n0, h.n3, h.ov⟩
theorem HInv.other {w W : World} {a : Hs} {L : Nat → List (List Value)} {g : Nat} (h : HInv w a L W) (hg : w.heap.size < g) (ho : Off g a L) (cs : Array Value) : HInv w a L (W.setRow g cs) := ⟨h.b.other hg ho cs, h.n0, h.n3, h.ov⟩
theorem res_len {LI LB LQ : List (List Value)} {t : ByteArray} {v u : Int} (hI : Things kItem LI) (h : resE LI LB LQ t v u = 0) : (resL LI t v u).length = LI.length := by
  unfold resE at h
  by_cases h1 : (atItem LI t).isSome = false
  · rw [if_pos h1] at h; cases h
  · have hs : (atItem LI t).isSome = true := by cases hq : (atItem LI t).isSome with | true => rfl | false => exact absurd hq h1
    have hx : codeOf (itSize (itOf (gotItem LI t)) v u).cells = t := by
      have hc := gotItem_code hs
      rw [it_cells (gotItem_fits hI t)] at hc
      exact hc
    unfold resL
    rw [Pl.putG_len, findG_atItem, hx, hs]
    rfl
theorem lim_len {LI LB LQ : List (List Value)} {s : ByteArray} {v u : Int} (hB : Things kBin LB) (h : limE LI LB LQ s v u = 0) : (limL LB s v u).length = LB.length := by
  unfold limE at h
  by_cases h1 : (atBin LB s).isSome = false
  · rw [if_pos h1] at h; cases h
  · have hs : (atBin LB s).isSome = true := by cases hq : (atBin LB s).isSome with | true => rfl | false => exact absurd hq h1
    have hx : codeOf (bnSize (bnOf (gotBin LB s)) v u).cells = s := by
      have hc := gotBin_code hs
      rw [bn_cells (gotBin_fits hB s)] at hc
      exact hc
    unfold limL
    rw [Pl.putG_len, findG_atBin, hx, hs]
    rfl
/-- Behind Resize. -/
theorem HInv.res {w W : World} {a p : Hs} {L : Nat → List (List Value)} {t : ByteArray} {v u : Int} {base : Nat} (h : HInv w a L W) (h0 : resE (L 0) (L 3) (L 4) t v u = 0) (hp : PutK 68 14 0 0 (resL (L 0) t v u) a p base W) (hb : w.heap.size < base) :
    HT p (setE 0 L 0 (resL (L 0) t v u)) W ∧ overL (setE 0 L 0 (resL (L 0) t v u) 0) (setE 0 L 0 (resL (L 0) t v u) 3) (setE 0 L 0 (resL (L 0) t v u) 4) = [] ∧ HInv w p (setE 0 L 0 (resL (L 0) t v u)) (W.setRow w.heap.size p.cells) := by
  have ht : HT p (setE 0 L 0 (resL (L 0) t v u)) W := PutK.ht (by decide) (It.fits _) h.n0 h.b.ht hp
  have ho : overL (setE 0 L 0 (resL (L 0) t v u) 0) (setE 0 L 0 (resL (L 0) t v u) 3) (setE 0 L 0 (resL (L 0) t v u) 4) = [] := hold_res (h.b.ht 0 (by decide)).2.2.1 (h.b.ht 3 (by decide)).2.2.1 h.ov h0
  refine ⟨ht, ho, h.b.store ht (hp.caps h.b.caps) (hp.off hb h.b.off), ?_, ?_, ho⟩
  · rw [(ht 0 (by decide)).1]
    show (resL (L 0) t v u).length ≤ 1000
    rw [res_len (h.b.ht 0 (by decide)).2.2.1 h0, ← (h.b.ht 0 (by decide)).1]; exact h.n0
  · rw [(ht 3 (by decide)).1]
    show (L 3).length ≤ 1000
    rw [← (h.b.ht 3 (by decide)).1]; exact h.n3
/-- Behind Limit. -/
theorem HInv.lim {w W : World} {a p : Hs} {L : Nat → List (List Value)} {s : ByteArray} {v u : Int} {base : Nat} (h : HInv w a L W) (h0 : limE (L 0) (L 3) (L 4) s v u = 0) (hp : PutK 57 8 3 0 (limL (L 3) s v u) a p base W) (hb : w.heap.size < base) :
    HT p (setE 0 L 3 (limL (L 3) s v u)) W ∧ overL (setE 0 L 3 (limL (L 3) s v u) 0) (setE 0 L 3 (limL (L 3) s v u) 3) (setE 0 L 3 (limL (L 3) s v u) 4) = [] ∧ HInv w p (setE 0 L 3 (limL (L 3) s v u)) (W.setRow w.heap.size p.cells) := by
  have ht : HT p (setE 0 L 3 (limL (L 3) s v u)) W := PutK.ht (by decide) (Bn.fits _) h.n3 h.b.ht hp
  have ho : overL (setE 0 L 3 (limL (L 3) s v u) 0) (setE 0 L 3 (limL (L 3) s v u) 3) (setE 0 L 3 (limL (L 3) s v u) 4) = [] := hold_lim h.ov h0
  refine ⟨ht, ho, h.b.store ht (hp.caps h.b.caps) (hp.off hb h.b.off), ?_, ?_, ho⟩
  · rw [(ht 0 (by decide)).1]
    show (L 0).length ≤ 1000
    rw [← (h.b.ht 0 (by decide)).1]; exact h.n0
  · rw [(ht 3 (by decide)).1]
    show (limL (L 3) s v u).length ≤ 1000
    rw [lim_len (h.b.ht 3 (by decide)).2.2.1 h0, ← (h.b.ht 3 (by decide)).1]; exact h.n3
end Go.Proofs.Ythoblccmdadmmaa
