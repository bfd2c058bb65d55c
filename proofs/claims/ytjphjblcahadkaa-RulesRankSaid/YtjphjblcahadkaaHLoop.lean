/-
  A HOUSE IN A BOX of its own, whatever house it was at the start: it may be filled with the next one, again and again.
-/
import Derived.Test.YtjphjblcahadkaaHPut
namespace Go.Proofs.Ytjphjblcahadkaa
set_option linter.unusedVariables false
open Go.RowKit
open Pl (putG)

/-- No list of a house that has anything lies in block g. -/
def Off (g : Nat) (a : Hs) (L : Nat → List (List Value)) : Prop := ∀ i, i < 14 → L i ≠ [] → ∀ p, a.A i = some p → p.block ≠ g
theorem HT.setRowOff {a : Hs} {L : Nat → List (List Value)} {W : World} {g : Nat} (h : HT a L W) (ha : Off g a L) (cs : Array Value) : HT a L (W.setRow g cs) := fun i hi => by
  obtain ⟨h1, h2, h3, h4⟩ := h i hi
  refine ⟨h1, h2, h3, fun hx => ?_⟩
  obtain ⟨b, off, hA, hb, hc⟩ := h4 hx
  have hne : L i ≠ [] := fun e => by rw [e] at hx; exact absurd hx (by simp)
  have hgb : b ≠ g := ha i hi hne _ hA
  exact ⟨b, off, hA, by simpa using hb, fun j u hu => (World.cell?_of_block (setRow_other W g b cs hgb)).trans (hc j u hu)⟩
theorem kOf_pos {i : Nat} (hi : i < 14) : 1 ≤ (kOf i).length := by
  match i, hi with
  | 0, _ | 1, _ | 2, _ | 3, _ | 4, _ | 5, _ | 6, _ | 7, _ | 8, _ | 9, _ | 10, _ | 11, _ | 12, _ | 13, _ => decide
/-- A house that was there before the block was made. -/
theorem HT.offge {a : Hs} {L : Nat → List (List Value)} {w : World} {g : Nat} (h : HT a L w) (hg : w.heap.size ≤ g) : Off g a L := fun i hi hne p hp => by
  obtain ⟨_, _, h3, h4⟩ := h i hi
  have hpos : 0 < (L i).flatten.length := by
    rw [flat_length h3.len]
    exact Nat.mul_pos (List.length_pos_iff.2 hne) (kOf_pos hi)
  obtain ⟨b, off, hA, hb, _⟩ := h4 hpos
  rw [hA] at hp
  injection hp with hp
  subst hp
  have : b < w.heap.size := hb
  show b ≠ g
  omega
theorem Off.nil (g : Nat) (a : Hs) : Off g a (fun _ => []) := fun i hi h => absurd rfl h
theorem PutK.off {T : TypeId} {k i err base g : Nat} {l : List (List Value)} {h p : Hs} {L : Nat → List (List Value)} {W : World} (H : PutK T k i err l h p base W) (hg : g < base) (ha : Off g h L) : Off g p (setE err L i l) := by
  rcases H with ⟨h1, rfl⟩ | ⟨h1, A, n, c, hl, ho, rfl⟩
  · exact fun j hj hne => absurd (setE_bad h1 L i j l) hne
  · refine fun j hj hne q hq => ?_
    by_cases h0 : j = i
    · subst h0
      have := own_block ho (p := q) (by simpa [Hs.set] using hq)
      omega
    · rw [setE_off h1 L h0] at hne
      exact ha j hj hne q (by simpa [Hs.set, h0] using hq)
/-- A house in its box, the box at the first block. -/
structure HBox (w : World) (a : Hs) (L : Nat → List (List Value)) (W : World) : Prop where
  ht : HT a L W
  caps : Caps a
  off : Off w.heap.size a L
  box : W.heap[w.heap.size]? = some (.cells a.cells 37 (0, 0))
  bel : Below w.heap.size w W
  sz : w.heap.size + 1 ≤ W.heap.size
theorem HBox.below {w W W' : World} {a : Hs} {L : Nat → List (List Value)} (h : HBox w a L W) (hb : Below W.heap.size W W') : HBox w a L W' :=
  ⟨h.ht.below hb, h.caps, h.off, (hb.block _ (lt_of_block h.box)).trans h.box, h.bel.trans (hb.mono h.bel.size), Nat.le_trans h.sz hb.size⟩
theorem HBox.store {w W : World} {a p : Hs} {L L' : Nat → List (List Value)} (h : HBox w a L W) (ht : HT p L' W) (hc : Caps p) (ho : Off w.heap.size p L') : HBox w p L' (W.setRow w.heap.size p.cells) :=
  ⟨ht.setRowOff ho _, hc, ho, setRow_heap _ _ _ _ _ _ h.box, setRow_below h.bel (Nat.le_refl _) _, by simpa using h.sz⟩
/-- A list is put in its place, in the house's box: block g. -/
theorem HT.setList {h : Hs} {L : Nat → List (List Value)} {W : World} {g i n c : Nat} {A : Option Addr} {l : List (List Value)} {o' : Nat} (hh : HT h L W) (ho : Off g h L) (hi : i < 14) (hl : Things (kOf i) l) (hn : n = l.length) (hn6 : n ≤ 1000000) (hr : Rd W W.heap.size A l.flatten) (hg : ∀ p, A = some p → p.block ≠ g) (v : Value) : HT (h.set i A n c) (setE 0 L i l) (W.setCell ⟨g, o', none⟩ v) := fun j hj => by
  have hcell : ∀ (b o : Nat) (u : Value), b ≠ g → W.cell? ⟨b, o, none⟩ = some u → (W.setCell ⟨g, o', none⟩ v).cell? ⟨b, o, none⟩ = some u := fun b o u hb hu => (World.cell?_of_block (block_setCell_other hb v)).trans hu
  by_cases h0 : j = i
  · subst h0
    rw [setE_at rfl]
    refine ⟨by simpa [Hs.set] using hn, by simpa [Hs.set] using hn6, hl, fun hx => ?_⟩
    obtain ⟨b, off, hA, hb, hc⟩ := hr hx
    exact ⟨b, off, by simpa [Hs.set] using hA, by simpa using hb, fun q u hu => hcell _ _ _ (hg _ hA) (hc q u hu)⟩
  · rw [setE_off rfl L h0]
    obtain ⟨h1, h2, h3, h4⟩ := hh j hj
    refine ⟨by simpa [Hs.set, h0] using h1, by simpa [Hs.set, h0] using h2, h3, fun hx => ?_⟩
    obtain ⟨b, off, hA, hb, hc⟩ := h4 hx
    have hne : L j ≠ [] := fun e => by rw [e] at hx; exact absurd hx (by simp)
    exact ⟨b, off, by simpa [Hs.set, h0] using hA, by simpa using hb, fun q u hu => hcell _ _ _ (ho j hj hne _ hA) (hc q u hu)⟩
/-- Another box is filled. -/
theorem HBox.other {w W : World} {a : Hs} {L : Nat → List (List Value)} {g : Nat} (h : HBox w a L W) (hg : w.heap.size < g) (ho : Off g a L) (cs : Array Value) : HBox w a L (W.setRow g cs) :=
  ⟨h.ht.setRowOff ho _, h.caps, h.off, (setRow_other W g w.heap.size cs (by omega)).trans h.box, setRow_below h.bel (by omega) _, by simpa using h.sz⟩
theorem range_other {W : World} {g b o : Nat} {xs : List Value} {cs : Array Value} (h : W.rangeAt b o xs) (hb : b ≠ g) : (W.setRow g cs).rangeAt b o xs := fun j u hu => (World.cell?_of_block (setRow_other W g b cs hb)).trans (h j u hu)
theorem cell_other {W : World} {g b o : Nat} {v : Value} {cs : Array Value} (h : W.cell? ⟨b, o, none⟩ = some v) (hb : b ≠ g) : (W.setRow g cs).cell? ⟨b, o, none⟩ = some v := (World.cell?_of_block (setRow_other W g b cs hb)).trans h
end Go.Proofs.Ytjphjblcahadkaa
