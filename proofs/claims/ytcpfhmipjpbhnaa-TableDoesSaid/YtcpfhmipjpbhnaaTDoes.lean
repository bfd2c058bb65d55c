/-
  WORDS and facts for TableDoes: a row that may be written; the kept pairs one by one; the closure's answer.
-/
import Derived.Test.YtcpfhmipjpbhnaaTAwake
import Derived.Test.YtcpfhmipjpbhnaaTRef
namespace Go.Proofs.Ytcpfhmipjpbhnaa
open Go.RowKit

/-- The n pairs at A lie in a block from B on, and may be written. -/
def Free (w : World) (B : Nat) (A : Option Addr) (n : Nat) : Prop :=
  0 < n → ∃ g cur, A = some ⟨g, 0, none⟩ ∧ B ≤ g ∧ w.heap[g]? = some (.cells cur 24 (0, 0)) ∧ n * 2 ≤ cur.size

section
variable {w w' : World} {B n : Nat} {A : Option Addr}
theorem Free.of_own {c : Nat} {xs : List Value} (h : w.ownsRow B 24 2 (.slice A n c) n xs) : Free w B A n := fun hn => by
  rcases h.2 with ⟨_, rfl⟩ | ⟨g, cap, cur, hv, hb, hh, hnc, _, hs, _⟩
  · omega
  · injection hv with hA _ _
    exact ⟨g, cur, hA, hb, hh, by rw [hs]; omega⟩
theorem Free.below (h : Free w B A n) (hb : Below w.heap.size w w') : Free w' B A n := fun hn => by
  obtain ⟨g, cur, hA, hg, hh, hs⟩ := h hn
  exact ⟨g, cur, hA, hg, (hb.block g (lt_of_block hh)).trans hh, hs⟩
theorem Free.lower {B' : Nat} (h : Free w B A n) (hb : B' ≤ B) : Free w B' A n := fun hn => by
  obtain ⟨g, cur, hA, hg, hh, hs⟩ := h hn
  exact ⟨g, cur, hA, by omega, hh, hs⟩
theorem Free.setCell (h : Free w B A n) (g' j : Nat) (u : Value) : Free (w.setCell ⟨g', j, none⟩ u) B A n := fun hn => by
  obtain ⟨g, cur, hA, hg, hh, hs⟩ := h hn
  by_cases e : g = g'
  · subst e
    exact ⟨g, cur.setIfInBounds j u, hA, hg, heap_setCell_same w g j cur _ u hh, by simpa using hs⟩
  · exact ⟨g, cur, hA, hg, (Below.heap_setCell _ _ _ _ e).trans hh, hs⟩
theorem Free.at_ (h : Free w B A n) {i : Nat} (hi : i < n) : ∃ g, A = some ⟨g, 0, none⟩ ∧ B ≤ g ∧ (∃ u, w.cell? ⟨g, i * 2, none⟩ = some u) ∧ (∃ u, w.cell? ⟨g, i * 2 + 1, none⟩ = some u) ∧
    w.frozen? ⟨g, i * 2, none⟩ = false ∧ w.frozen? ⟨g, i * 2 + 1, none⟩ = false := by
  obtain ⟨g, cur, hA, hg, hh, hs⟩ := h (by omega)
  refine ⟨g, hA, hg, ⟨cur[i * 2]'(by omega), ?_⟩, ⟨cur[i * 2 + 1]'(by omega), ?_⟩, frozen_of_row w g _ cur _ hh, frozen_of_row w g _ cur _ hh⟩
  · rw [cell_of_row w g _ cur _ (0, 0) hh]; exact Array.getElem?_eq_getElem _
  · rw [cell_of_row w g _ cur _ (0, 0) hh]; exact Array.getElem?_eq_getElem _
end

theorem keepL_split (f : ByteArray → Int → Bool) (l : List Pl.Pr) (k : Nat) (h : k < l.length) (hf : f l[k].1 l[k].2 = true) : (keepL f l)[(keepL f (l.take k)).length]? = some l[k] := by
  have e : keepL f l = keepL f (l.take k) ++ (l[k] :: keepL f (l.drop (k + 1))) := by
    have : l = l.take k ++ (l[k] :: l.drop (k + 1)) := by rw [List.getElem_cons_drop, List.take_append_drop]
    rw [show keepL f l = keepL f (l.take k ++ (l[k] :: l.drop (k + 1))) from by rw [← this]]
    unfold keepL
    rw [List.filter_append, List.filter_cons, if_pos hf]
  rw [e, List.getElem?_append_right (Nat.le_refl _), Nat.sub_self]
  rfl

theorem tells_does (bq : Nat) (xn : Int) (w : World) (hq1 : w.cell? ⟨bq, 1, none⟩ = some (.int .i64 xn)) : Tells w 16 #[.pointer (some ⟨bq, 0, none⟩)] (fun _ n => decide (xn ≤ n)) := by
  have lq := World.block_lt_of_cell? w _ hq1
  refine ⟨fun args W => by kernel_rfl, fun W hW s n => ?_⟩
  exact doesf_any bq s xn n W ((hW.cell (p := ⟨bq, 1, none⟩) lq).trans hq1) (Nat.lt_of_lt_of_le lq hW.size)
end Go.Proofs.Ytcpfhmipjpbhnaa
