/-
  THE CONTRACT of stevedorekeep's Lent.
-/
import Derived.Test.YtjphjblcahadkaaGreatHSamesAll
import Derived.Test.YtjphjblcahadkaaGreatHLent
namespace Go.Proofs.YtjphjblcahadkaaGreat
open Go.RowKit

/-- Which cell of the thing behind tells that it was left alone, and what it holds. -/
def pOf : Nat → Nat
  | 0 => 0
  | 1 => 1
  | 2 => 0
  | 3 => 0
  | 4 => 4
  | 5 => 1
  | 6 => 0
  | 7 => 0
  | 8 => 0
  | 9 => 8
  | 10 => 0
  | 11 => 0
  | 12 => 4
  | 13 => 1
  | _ => 0
def vOf : Nat → Value
  | 0 => .string ⟨#[98, 101, 104, 105, 110, 100]⟩
  | 1 => .string ⟨#[98, 101, 104, 105, 110, 100]⟩
  | 2 => .string ⟨#[98, 101, 104, 105, 110, 100]⟩
  | 3 => .string ⟨#[98, 101, 104, 105, 110, 100]⟩
  | 4 => .int .i64 (-77)
  | 5 => .string ⟨#[98, 101, 104, 105, 110, 100]⟩
  | 6 => .string ⟨#[98, 101, 104, 105, 110, 100]⟩
  | 7 => .string ⟨#[98, 101, 104, 105, 110, 100]⟩
  | 8 => .string ⟨#[98, 101, 104, 105, 110, 100]⟩
  | 9 => .string ⟨#[98, 101, 104, 105, 110, 100]⟩
  | 10 => .string ⟨#[98, 101, 104, 105, 110, 100]⟩
  | 11 => .string ⟨#[98, 101, 104, 105, 110, 100]⟩
  | 12 => .int .i64 (-77)
  | 13 => .string ⟨#[98, 101, 104, 105, 110, 100]⟩
  | _ => .int .i64 0
/-- A list that was lent. -/
def Lt (h : Hs) (L : Nat → List (List Value)) (w : World) (a : Hs) (cur : World) (i : Nat) : Prop :=
  ∃ (bh : List Value) (g : Nat), a.n i = h.n i ∧ h.n i + 1 ≤ a.c i ∧ a.c i ≤ 9223372036854775807 ∧ a.A i = some ⟨g, 0, none⟩ ∧ w.heap.size + 1 < g ∧ bh.length = (kOf i).length ∧ bh[pOf i]? = some (vOf i) ∧ Rd cur cur.heap.size (some ⟨g, 0, none⟩) ((L i).flatten ++ bh)
/-- The first k lists are lent; the house is in its box. -/
structure LS (h : Hs) (L : Nat → List (List Value)) (T : TypeId) (w : World) (k : Nat) (a : Hs) (cur : World) : Prop where
  bel : Below w.heap.size w cur
  box : cur.heap[w.heap.size]? = some (.cells a.cells T (0, 0))
  res : cur.heap[w.heap.size + 1]? = some (.cells Hs.zero T (0, 0))
  z : a.z = h.z
  old : ∀ i, k ≤ i → a.A i = h.A i ∧ a.n i = h.n i ∧ a.c i = h.c i
  new : ∀ i, i < k → Lt h L w a cur i
theorem Lt.next {h : Hs} {L : Nat → List (List Value)} {w : World} {a : Hs} {cur w' : World} {i : Nat} (H : Lt h L w a cur i) (hb : Below cur.heap.size cur w') : Lt h L w a w' i := by
  obtain ⟨bh, g, h1, h2, h3, h4, h5, h6, h7, h8⟩ := H
  exact ⟨bh, g, h1, h2, h3, h4, h5, h6, h7, (h8.below hb).mono hb.size⟩
theorem LS.next {h : Hs} {L : Nat → List (List Value)} {T : TypeId} {w : World} {k : Nat} {a : Hs} {cur w' : World} (H : LS h L T w k a cur) (hb : Below cur.heap.size cur w') : LS h L T w k a w' :=
  ⟨H.bel.trans (hb.mono H.bel.size), (hb.block _ (lt_of_block H.box)).trans H.box, (hb.block _ (lt_of_block H.res)).trans H.res, H.z, H.old, fun i hi => (H.new i hi).next hb⟩
theorem LS.stored {h : Hs} {L : Nat → List (List Value)} {T : TypeId} {w : World} {k : Nat} {a : Hs} {cur : World} (H : LS h L T w k a cur) (hk : k < 14) {g n c : Nat} (bh : List Value) (hn : n = h.n k) (hc : h.n k + 1 ≤ c) (hm : c ≤ 9223372036854775807) (hg : w.heap.size + 1 < g) (hb : bh.length = (kOf k).length) (hv : bh[pOf k]? = some (vOf k)) (hr : Rd cur cur.heap.size (some ⟨g, 0, none⟩) ((L k).flatten ++ bh)) :
    LS h L T w (k + 1) (a.set k (some ⟨g, 0, none⟩) n c) (cur.setCell ⟨w.heap.size, k, none⟩ (.slice (some ⟨g, 0, none⟩) n c)) := by
  refine ⟨H.bel.setCell (Nat.le_refl _) _, ?_, (block_setCell_other (by omega) _).trans H.res, H.z, fun i hi => ?_, fun i hi => ?_⟩
  · rw [block_setCell H.box, a.set_cells _ _ _ k hk]
  · have e : ¬ i = k := by omega
    simpa [Hs.set, e] using H.old i (by omega)
  · by_cases e : i = k
    · subst e
      exact ⟨bh, g, by simpa [Hs.set] using hn, by simpa [Hs.set] using hc, by simpa [Hs.set] using hm, by simp [Hs.set], hg, hb, hv, hr.box (by omega)⟩
    · obtain ⟨bh', g', h1, h2, h3, h4, h5, h6, h7, h8⟩ := H.new i (by omega)
      exact ⟨bh', g', by simpa [Hs.set, e] using h1, by simpa [Hs.set, e] using h2, by simpa [Hs.set, e] using h3, by simpa [Hs.set, e] using h4, h5, h6, h7, h8.box (by omega)⟩
/-- All lists are lent, and the house is laid where it is answered. -/
structure LE (h : Hs) (L : Nat → List (List Value)) (T : TypeId) (w : World) (a : Hs) (cur : World) : Prop where
  bel : Below w.heap.size w cur
  res : cur.heap[w.heap.size + 1]? = some (.cells a.cells T (0, 0))
  z : a.z = h.z
  new : ∀ i, i < 14 → Lt h L w a cur i
theorem LS.finish {h : Hs} {L : Nat → List (List Value)} {T : TypeId} {w : World} {a : Hs} {cur : World} (H : LS h L T w 14 a cur) : LE h L T w a (cur.setRow (w.heap.size + 1) a.cells) :=
  ⟨⟨H.bel.os, H.bel.tape, H.bel.output, by simpa using H.bel.size, fun k hk => (setRow_other cur (w.heap.size + 1) k a.cells (by omega)).trans (H.bel.block k hk)⟩, setRow_heap cur _ _ _ _ _ H.res, H.z, fun i hi => by
    obtain ⟨bh, g, h1, h2, h3, h4, h5, h6, h7, h8⟩ := H.new i hi
    exact ⟨bh, g, h1, h2, h3, h4, h5, h6, h7, Rd.row h8 (by omega)⟩⟩
theorem LS.cell {h : Hs} {L : Nat → List (List Value)} {T : TypeId} {w : World} {k : Nat} {a : Hs} {cur : World} (H : LS h L T w k a cur) (j : Nat) (hj : j < 14) (hk : k ≤ j) : cur.cell? ⟨w.heap.size, j, none⟩ = some (.slice (h.A j) (h.n j) (h.c j)) := by
  obtain ⟨e1, e2, e3⟩ := H.old j hk
  rw [cell_of_block H.box, ← e1, ← e2, ← e3]
  match j, hj with
  | 0, _ => rfl
  | 1, _ => rfl
  | 2, _ => rfl
  | 3, _ => rfl
  | 4, _ => rfl
  | 5, _ => rfl
  | 6, _ => rfl
  | 7, _ => rfl
  | 8, _ => rfl
  | 9, _ => rfl
  | 10, _ => rfl
  | 11, _ => rfl
  | 12, _ => rfl
  | 13, _ => rfl
  | i + 14, hi => omega
theorem LS.start (h : Hs) (L : Nat → List (List Value)) (T : TypeId) (w : World) : LS h L T w 0 h ((w.alloc (.cells h.cells T)).alloc (.cells Hs.zero T)) :=
  ⟨((Below.refl _ _).alloc (Nat.le_refl _) _).alloc (by simp) _, (Below.heap_alloc _ _ _ (by simp)).trans (heap_alloc_new _ _), (by have := heap_alloc_new (w.alloc (.cells h.cells T)) (.cells Hs.zero T); simpa using this), rfl, fun i _ => ⟨rfl, rfl, rfl⟩, fun i hi => by omega⟩
end Go.Proofs.YtjphjblcahadkaaGreat
