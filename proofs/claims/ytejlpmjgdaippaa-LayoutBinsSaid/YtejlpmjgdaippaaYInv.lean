/-
  A HOUSE THAT GROWS: zones, then bins, one behind the other.
-/
import Derived.Test.YtejlpmjgdaippaaYFacts
import Derived.Test.YtejlpmjgdaippaaHPut
namespace Go.Proofs.Ytejlpmjgdaippaa
set_option linter.unusedVariables false
open Go.RowKit
open Pl (firstG findG putG)

/-- What each bin is. -/
def OkB (LZ : List (List Value)) (e : List Value) : Prop := (atZone LZ (bnOf e).zone).isSome = true ∧ (bnOf e).frz = false ∧ (1 ≤ (bnOf e).kind ∧ (bnOf e).kind ≤ 4) ∧ 0 ≤ (bnOf e).vol ∧ 0 ≤ (bnOf e).wei
/-- A house in a box of its own, at the first block. -/
structure BInv (w : World) (a : Hs) (L : Nat → List (List Value)) (W : World) : Prop where
  ht : HT a L W
  caps : Caps a
  ap : Apart w.heap.size a
  box : W.heap[w.heap.size]? = some (.cells a.cells 37 (0, 0))
  bel : Below w.heap.size w W
  sz : w.heap.size + 1 ≤ W.heap.size
  zu : UpZone (L 2)
  zn : (L 2).length ≤ 16
  bu : UpBin (L 3)
  bn : (L 3).length ≤ 64
  bs : ∀ e ∈ L 3, OkB (L 2) e
theorem BInv.below {w W W' : World} {a : Hs} {L : Nat → List (List Value)} (h : BInv w a L W) (hb : Below W.heap.size W W') : BInv w a L W' :=
  { h with ht := h.ht.below hb, box := (hb.block _ (lt_of_block h.box)).trans h.box, bel := h.bel.trans (hb.mono h.bel.size), sz := Nat.le_trans h.sz hb.size }
theorem BInv.start (w : World) : BInv w hsN (fun _ => []) (w.alloc (.cells Hs.zero 37)) where
  ht := hsN_ht _
  caps := hsN_caps
  ap := hsN_apart _
  box := heap_alloc_new _ _
  bel := (Below.refl _ _).alloc (Nat.le_refl _) _
  sz := by simp
  zu := List.Pairwise.nil
  zn := Nat.zero_le _
  bu := List.Pairwise.nil
  bn := Nat.zero_le _
  bs := fun e he => by simp at he
/-- The box filled with the next house. -/
theorem BInv.store {w W : World} {a p : Hs} {L L' : Nat → List (List Value)} (h : BInv w a L W) (ht : HT p L' W) (hc : Caps p) (ha : Apart w.heap.size p) (zu : UpZone (L' 2)) (zn : (L' 2).length ≤ 16) (bu : UpBin (L' 3)) (bn : (L' 3).length ≤ 64) (bs : ∀ e ∈ L' 3, OkB (L' 2) e) :
    BInv w p L' (W.setRow w.heap.size p.cells) where
  ht := ht.setRow ha _
  caps := hc
  ap := ha
  box := setRow_heap _ _ _ _ _ _ h.box
  bel := setRow_below h.bel (Nat.le_refl _) _
  sz := by simpa using h.sz
  zu := zu
  zn := zn
  bu := bu
  bn := bn
  bs := bs
/-- What it says that a zone was taken. -/
theorem tookZ {LZ : List (List Value)} {x : List Value} (h : addZE LZ x = 0) : atZone LZ (codeOf x) = none ∧ LZ.length < 16 := by
  unfold addZE at h
  by_cases h1 : Pl.nmE (codeOf x) ≠ 0
  · rw [if_pos h1] at h; exact absurd h h1
  · rw [if_neg h1] at h
    by_cases h2 : Pl.nmE (siteZ x) ≠ 0
    · rw [if_pos h2] at h; exact absurd h h2
    · rw [if_neg h2] at h
      by_cases h3 : (atZone LZ (codeOf x)).isSome = true
      · rw [if_pos h3] at h; cases h
      · rw [if_neg h3] at h
        by_cases h4 : 16 ≤ LZ.length
        · rw [if_pos h4] at h; cases h
        · refine ⟨?_, by omega⟩
          cases hc : atZone LZ (codeOf x) with
          | none => rfl
          | some i => rw [hc] at h3; exact absurd rfl h3
theorem BInv.zone {w W : World} {a p : Hs} {L : Nat → List (List Value)} {x : List Value} (h : BInv w a L W) (h3 : L 3 = []) (h0 : addZE (L 2) x = 0) (ht : HT p (setE 0 L 2 (putG ordZone (L 2) x)) W) (hc : Caps p) (ha : Apart w.heap.size p) :
    BInv w p (setE 0 L 2 (putG ordZone (L 2) x)) (W.setRow w.heap.size p.cells) := by
  obtain ⟨t1, t2⟩ := tookZ h0
  have e2 : setE 0 L 2 (putG ordZone (L 2) x) 2 = putG ordZone (L 2) x := rfl
  have e3 : setE 0 L 2 (putG ordZone (L 2) x) 3 = L 3 := rfl
  exact h.store ht hc ha (by rw [e2]; exact put_upZone h.zu t1) (by rw [e2, put_lenZone t1]; omega) (by rw [e3]; exact h.bu) (by rw [e3]; exact h.bn) (by rw [e3, h3]; intro e he; simp at he)
theorem BInv.bin {w W : World} {a p : Hs} {L : Nat → List (List Value)} {x : Bn} (h : BInv w a L W) (h0 : addBE (L 2) (L 3) x = 0) (ht : HT p (setE 0 L 3 (putG ordBin (L 3) x.cells)) W) (hc : Caps p) (ha : Apart w.heap.size p) :
    BInv w p (setE 0 L 3 (putG ordBin (L 3) x.cells)) (W.setRow w.heap.size p.cells) := by
  have tk := tookB_of h0
  have e2 : setE 0 L 3 (putG ordBin (L 3) x.cells) 2 = L 2 := rfl
  have e3 : setE 0 L 3 (putG ordBin (L 3) x.cells) 3 = putG ordBin (L 3) x.cells := rfl
  have hnew : atBin (L 3) (codeOf x.cells) = none := tk.new
  refine h.store ht hc ha (by rw [e2]; exact h.zu) (by rw [e2]; exact h.zn) (by rw [e3]; exact put_upBin h.bu hnew) (by rw [e3, put_lenBin hnew]; have := tk.len; omega) (fun e he => ?_)
  rw [e3] at he
  rw [e2]
  rcases Pl.putG_mem he with rfl | he
  · have ho := tk.out
    unfold Bn.out at ho
    simp only [Bool.or_eq_false_iff, decide_eq_false_iff_not, Int.not_lt] at ho
    exact ⟨tk.zone, tk.frz, tk.kind, by rw [bnOf_cells]; omega, by rw [bnOf_cells]; omega⟩
  · exact h.bs e he
end Go.Proofs.Ytejlpmjgdaippaa
