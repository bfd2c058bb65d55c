/-
  WHAT IS SO at each round of ItemsFinds: a house in its box, the items in it, the map beside it.
-/
import Derived.Test.YtcihibmapbigdaaIUp
import Derived.Test.YtcihibmapbigdaaICheck3
import Derived.Test.YtcihibmapbigdaaIBoth
import Derived.Test.YtcihibmapbigdaaHMap
namespace Go.Proofs.Ytcihibmapbigdaa
set_option linter.unusedVariables false
open Go.RowKit Go.Maps
open Pl (putG)

theorem turned_only {a b : World} {j : Nat} (h : a.mapTurned b j) : b.os = a.os ∧ b.tape = a.tape ∧ b.output = a.output ∧ b.heap.size = a.heap.size ∧ ∀ k, k ≠ j → b.heap[k]? = a.heap[k]? := by
  obtain ⟨es, cl, es', cl', hb, he⟩ := h
  have hg := World.mapTurned.grown ⟨es, cl, es', cl', hb, he⟩
  exact ⟨hg.os, hg.tape, hg.output, by rw [he]; simp [Go.ChangeMaps.setBlock], fun k hk => by rw [he]; simp [Go.ChangeMaps.setBlock, Array.getElem?_setIfInBounds_ne (Ne.symm hk)]⟩
/-- A house that holds items alone. -/
abbrev hsI (q : Option Addr × Nat × Nat) : Hs := hsN.set 0 q.1 q.2.1 q.2.2
/-- Add, of a house that holds items alone. -/
theorem addsI (q : Option Addr × Nat × Nat) (x : Pl.It) (L : List (List Value)) (W : World) (hx : x.Ok) (hn : q.2.1 = L.length) (h6 : q.2.1 ≤ 64) (hc : q.2.1 ≤ q.2.2) (hm : q.2.2 ≤ 9223372036854775807) (ht : Things kItem L) (hr : Rd W W.heap.size q.1 L.flatten) :
    Calls Try.prog 11 #[.agg (hsI q).cells, .agg x.cells.toArray] W fun e W' => Below W.heap.size W W' ∧ ∃ p : Option Addr × Nat × Nat, e = .returned (.tuple #[.agg (hsI p).cells, .int .i64 (addE L x.cells (Pl.chE x))]) ∧
      (addE L x.cells (Pl.chE x) = 0 → p.2.1 = (putG ordI L x.cells).length ∧ W'.ownsRow W.heap.size 42 14 (.slice p.1 p.2.1 p.2.2) p.2.1 (putG ordI L x.cells).flatten) := by
  refine (adds_any (hsI q) x.cells (Pl.chE x) L W x.fits (fun W' => check_any x hx W') (by simpa [Hs.set] using hn) (by simp [Hs.set]; omega) (by simpa [Hs.set] using hc) (by simpa [Hs.set] using hm) ht (by simpa [Hs.set] using hr)).mono ?_
  rintro e W' ⟨hb, ⟨h1, he⟩ | ⟨h1, A, n, c, hl, ho, he⟩⟩
  · exact ⟨hb, (none, 0, 0), he, fun h => absurd h h1⟩
  · refine ⟨hb, (A, n, c), ?_, fun _ => ⟨hl, ho⟩⟩
    rw [he, h1]
    rfl
theorem own_to_size {w : World} {B B' size n : Nat} {e : TypeId} {v : Value} {xs : List Value} (h : w.ownsRow B e size v n xs) (hB : B' ≤ B) : w.ownsRow B' e size v n xs := own_down h hB
structure FInv (w : World) (k : Nat) (q : Option Addr × Nat × Nat) (L : List (List Value)) (f : ByteArray → Option Value) (W : World) : Prop where
  n : q.2.1 = L.length
  n64 : q.2.1 ≤ 64
  mc : q.2.1 ≤ q.2.2
  cm : q.2.2 ≤ 9223372036854775807
  up : UpI L
  t : Things kItem L
  z : ∀ e ∈ L, (codeOf e).size ≤ maxLen
  ag : Agr L f
  box : W.heap[w.heap.size]? = some (.cells (hsI q).cells 37 (0, 0))
  rd : Rd W W.heap.size q.1 L.flatten
  map : SM W (w.heap.size + 1) k q.2.1 f
  bel : Below w.heap.size w W
  sz : w.heap.size + 2 ≤ W.heap.size
theorem FInv.below {w : World} {k : Nat} {q : Option Addr × Nat × Nat} {L : List (List Value)} {f : ByteArray → Option Value} {W W' : World} (h : FInv w k q L f W) (hb : Below W.heap.size W W') : FInv w k q L f W' :=
  { h with box := (hb.block _ (lt_of_block h.box)).trans h.box, rd := (h.rd.below hb).mono hb.size, map := h.map.below hb, bel := h.bel.trans (hb.mono h.bel.size), sz := Nat.le_trans h.sz hb.size }
theorem SM.more {w : World} {b n n' c : Nat} {f : ByteArray → Option Value} (h : SM w b n c f) (hn : n ≤ n') : SM w b n' c f := by
  obtain ⟨D, h, hS⟩ := h; exact ⟨D, h.mono hn, hS⟩
theorem FInv.later {w : World} {k : Nat} {q : Option Addr × Nat × Nat} {L : List (List Value)} {f : ByteArray → Option Value} {W : World} (h : FInv w k q L f W) : FInv w (k + 1) q L f W := { h with map := h.map.more (Nat.le_succ k) }
theorem FInv.start (w : World) : FInv w 0 (none, 0, 0) [] (fun _ => none) ((w.alloc (.cells Hs.zero 37)).alloc (.map #[] 0)) where
  n := rfl
  n64 := by decide
  mc := Nat.le_refl _
  cm := by decide
  up := List.Pairwise.nil
  t := fun e he => by simp at he
  z := fun e he => by simp at he
  ag := Agr.nil
  box := (Below.heap_alloc _ _ _ (by simp)).trans (heap_alloc_new _ _)
  rd := Rd.none_
  map := by have := SM.made (w.alloc (.cells Hs.zero 37)); simpa using this
  bel := ((Below.refl _ _).alloc (Nat.le_refl _) _).alloc (by simp) _
  sz := by simp
/-- The house that Add left is laid in the box, and the item in the map. -/
theorem FInv.put {w : World} {k : Nat} {q p : Option Addr × Nat × Nat} {L : List (List Value)} {f : ByteArray → Option Value} {W W2 W3 : World} {x : List Value} {B : Nat} (h : FInv w k q L f W) (hx : Fits kItem x) (hz : (codeOf x).size ≤ maxLen) (hn : atI L (codeOf x) = none) (h64 : L.length < 64)
    (hp : p.2.1 = (putG ordI L x).length) (hB : w.heap.size + 2 ≤ B) (hown : W.ownsRow B 42 14 (.slice p.1 p.2.1 p.2.2) p.2.1 (putG ordI L x).flatten)
    (h2 : W2 = (W.setRow w.heap.size (hsI p).cells).drew) (hm : SM W3 (w.heap.size + 1) (k + 1) (q.2.1 + 1) (updS f (codeOf x) (some (.agg x.toArray)))) (ht : W2.mapTurned W3 (w.heap.size + 1)) : FInv w (k + 1) p (putG ordI L x) (updS f (codeOf x) (some (.agg x.toArray))) W3 := by
  obtain ⟨t1, t2, t3, t4, t5⟩ := turned_only ht
  have hl := put_len (x := x) hn
  have hb2 : W2.heap[w.heap.size]? = some (.cells (hsI p).cells 37 (0, 0)) := by rw [h2]; exact setRow_heap _ _ _ _ _ _ h.box
  have ho2 : W2.ownsRow B 42 14 (.slice p.1 p.2.1 p.2.2) p.2.1 (putG ordI L x).flatten := by rw [h2]; exact (own_rowed hown (by omega) (Nat.le_refl _)).drew
  have ho3 : W3.ownsRow B 42 14 (.slice p.1 p.2.1 p.2.2) p.2.1 (putG ordI L x).flatten := by
    refine ⟨ho2.1, ho2.2.imp id fun ⟨g, cap, cur, hv, hg, hh, hr⟩ => ⟨g, cap, cur, hv, hg, (t5 g (by omega)).trans hh, hr⟩⟩
  have hsz : W3.heap.size = W.heap.size := by rw [t4, h2]; simp [World.drew]
  exact {
    n := hp
    n64 := by rw [hp, hl]; omega
    mc := own_cap ho3
    cm := own_max ho3
    up := put_up h.up hn
    t := h.t.put hx
    z := fun e he => (Pl.putG_mem he).elim (fun e' => by rw [e']; exact hz) (h.z e)
    ag := by have := h.ag.put hn; exact this
    box := (t5 _ (by omega)).trans hb2
    rd := Rd.of_own ho3
    map := by rw [hp, hl, ← h.n]; exact hm
    bel := ⟨by rw [t1, h2]; exact h.bel.os, by rw [t2, h2]; exact h.bel.tape, by rw [t3, h2]; exact h.bel.output, by rw [hsz]; exact h.bel.size, fun j hj => (t5 j (by omega)).trans (by rw [h2]; exact (setRow_other W _ j _ (by omega)).trans (h.bel.block j hj))⟩
    sz := by rw [hsz]; exact h.sz }
end Go.Proofs.Ytcihibmapbigdaa
