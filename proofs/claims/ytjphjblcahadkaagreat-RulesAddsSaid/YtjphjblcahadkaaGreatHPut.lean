/-
  WHAT A CALL LEAVES that puts a thing into one of a house's lists, or says what is wrong.
-/
import Derived.Test.YtjphjblcahadkaaGreatHOwn
namespace Go.Proofs.YtjphjblcahadkaaGreat
set_option linter.unusedVariables false
open Go.RowKit
open Pl (putG)

def hsN : Hs := ⟨fun _ => none, fun _ => 0, fun _ => 0, 0⟩
/-- A house whose list i is l, in a row of its own; or what is wrong, with an empty house. -/
def PutP (T : TypeId) (k i err : Nat) (l : List (List Value)) (h : Hs) (w : World) (e : Ending) (w' : World) : Prop :=
  Below w.heap.size w w' ∧ ((err ≠ 0 ∧ e = .returned (.tuple #[.agg Hs.zero, .int .i64 (err : Nat)])) ∨
    (err = 0 ∧ ∃ A n c, n = l.length ∧ w'.ownsRow w.heap.size T k (.slice A n c) n l.flatten ∧ e = .returned (.tuple #[.agg (h.set i A n c).cells, .int .i64 0])))
/-- The lists of such a house. -/
def setE (err : Nat) (L : Nat → List (List Value)) (i : Nat) (l : List (List Value)) : Nat → List (List Value) := fun j => if err = 0 then (if j = i then l else L j) else []
def zE (err : Nat) (z : Int) : Int := if err = 0 then z else 0
theorem setE_at {err : Nat} (h : err = 0) (L : Nat → List (List Value)) (i : Nat) (l : List (List Value)) : setE err L i l i = l := by unfold setE; rw [if_pos h, if_pos rfl]
theorem setE_off {err : Nat} (h : err = 0) (L : Nat → List (List Value)) {i j : Nat} (hj : j ≠ i) (l : List (List Value)) : setE err L i l j = L j := by unfold setE; rw [if_pos h, if_neg hj]
theorem setE_bad {err : Nat} (h : err ≠ 0) (L : Nat → List (List Value)) (i j : Nat) (l : List (List Value)) : setE err L i l j = [] := by unfold setE; rw [if_neg h]
/-- No list says that it has more room than a list may have. -/
def Caps (h : Hs) : Prop := ∀ j, j < 14 → h.n j ≤ h.c j ∧ h.c j ≤ 9223372036854775807
theorem hsN_ht (w : World) : HT hsN (fun _ => []) w := fun i hi => ⟨rfl, by show (0 : Nat) ≤ _; omega, fun e he => by simp at he, Rd.none_⟩
theorem hsN_caps : Caps hsN := fun j hj => ⟨Nat.le_refl _, by show (0 : Nat) ≤ _; omega⟩
theorem PutP.ht {T : TypeId} {k i err : Nat} {l : List (List Value)} {h : Hs} {L : Nat → List (List Value)} {w w' : World} {e : Ending} (hi : i < 14) (hl : Things (kOf i) l) (hn : l.length ≤ 1000000) (hh : HT h L w) (H : PutP T k i err l h w e w') :
    ∃ a : Hs, e = .returned (.tuple #[.agg a.cells, .int .i64 (err : Nat)]) ∧ HT a (setE err L i l) w' ∧ a.z = zE err h.z ∧ Below w.heap.size w w' ∧ (Caps h → Caps a) := by
  obtain ⟨hb, ⟨h1, he⟩ | ⟨h1, A, n, c, hln, ho, he⟩⟩ := H
  · refine ⟨hsN, he, fun j hj => ?_, by unfold zE; rw [if_neg h1]; rfl, hb, fun _ => hsN_caps⟩
    rw [setE_bad h1]
    exact hsN_ht w' j hj
  · refine ⟨h.set i A n c, by rw [he, h1]; rfl, fun j hj => ?_, by unfold zE; rw [if_pos h1]; rfl, hb, fun hc j hj => ?_⟩
    · by_cases h0 : j = i
      · subst h0
        rw [setE_at h1]
        exact ⟨by simpa [Hs.set] using hln, by simp only [Hs.set, if_true]; rw [hln]; exact hn, hl, by simpa [Hs.set] using Rd.of_own ho⟩
      · rw [setE_off h1 L h0]
        have := (hh.below hb) j hj
        simpa [Hs.set, h0] using this
    · by_cases h0 : j = i
      · subst h0
        exact ⟨by simpa [Hs.set] using own_cap ho, by simpa [Hs.set] using own_max ho⟩
      · simpa [Hs.set, h0] using hc j hj
theorem PutP.put {T : TypeId} {k i err : Nat} {ord : List Value → List Value → Int} {x : List Value} {h : Hs} {L : Nat → List (List Value)} {w w' : World} {e : Ending} (hi : i < 14) (hx : Fits (kOf i) x) (hn : h.n i ≤ 1000) (hh : HT h L w) (H : PutP T k i err (putG ord (L i) x) h w e w') :
    ∃ a : Hs, e = .returned (.tuple #[.agg a.cells, .int .i64 (err : Nat)]) ∧ HT a (setE err L i (putG ord (L i) x)) w' ∧ a.z = zE err h.z ∧ Below w.heap.size w w' ∧ (Caps h → Caps a) :=
  H.ht hi ((hh i hi).2.2.1.put hx) (by rw [Pl.putG_len, ← (hh i hi).1]; split <;> omega) hh
theorem HT.congr {a : Hs} {L L' : Nat → List (List Value)} {W : World} (h : HT a L W) (e : ∀ i, i < 14 → L i = L' i) : HT a L' W := fun i hi => by rw [← e i hi]; exact h i hi
/-- No list of a house lies in a block up to g. -/
def Apart (g : Nat) (a : Hs) : Prop := ∀ i, i < 14 → ∀ p, a.A i = some p → g < p.block
theorem hsN_apart (g : Nat) : Apart g hsN := fun i hi p hp => by cases hp
theorem own_block {w : World} {base size n c : Nat} {e : TypeId} {A : Option Addr} {xs : List Value} (h : w.ownsRow base e size (.slice A n c) n xs) {p : Addr} (hp : A = some p) : base ≤ p.block := by
  rcases h.2 with ⟨hv, _⟩ | ⟨g, cap, cur, hv, hg, _⟩
  · injection hv with h1; rw [hp] at h1; cases h1
  · injection hv with h1; rw [hp] at h1; injection h1 with h1; rw [h1]; exact hg
theorem HT.setRow {a : Hs} {L : Nat → List (List Value)} {W : World} {g : Nat} (h : HT a L W) (ha : Apart g a) (cs : Array Value) : HT a L (W.setRow g cs) := fun i hi => by
  obtain ⟨h1, h2, h3, h4⟩ := h i hi
  refine ⟨h1, h2, h3, fun hx => ?_⟩
  obtain ⟨b, off, hA, hb, hc⟩ := h4 hx
  have hgb : g < b := ha i hi _ hA
  exact ⟨b, off, hA, by simpa using hb, fun j u hu => (World.cell?_of_block (setRow_other W g b cs (by omega))).trans (hc j u hu)⟩
/-- What such a call hands back, by itself: p. -/
def PutK (T : TypeId) (k i err : Nat) (l : List (List Value)) (h p : Hs) (base : Nat) (W : World) : Prop :=
  (err ≠ 0 ∧ p = hsN) ∨ (err = 0 ∧ ∃ A n c, n = l.length ∧ W.ownsRow base T k (.slice A n c) n l.flatten ∧ p = h.set i A n c)
theorem PutP.k {T : TypeId} {k i err : Nat} {l : List (List Value)} {h : Hs} {w w' : World} {e : Ending} (H : PutP T k i err l h w e w') : Below w.heap.size w w' ∧ ∃ p : Hs, e = .returned (.tuple #[.agg p.cells, .int .i64 (err : Nat)]) ∧ PutK T k i err l h p w.heap.size w' := by
  obtain ⟨hb, ⟨h1, he⟩ | ⟨h1, A, n, c, hl, ho, he⟩⟩ := H
  · exact ⟨hb, hsN, he, .inl ⟨h1, rfl⟩⟩
  · exact ⟨hb, h.set i A n c, by rw [he, h1]; rfl, .inr ⟨h1, A, n, c, hl, ho, rfl⟩⟩
theorem PutK.below {T : TypeId} {k i err base base' : Nat} {l : List (List Value)} {h p : Hs} {W W' : World} (H : PutK T k i err l h p base W) (hB : base' ≤ base) (hb : Below W.heap.size W W') : PutK T k i err l h p base' W' :=
  H.imp id fun ⟨h1, A, n, c, hl, ho, hp⟩ => ⟨h1, A, n, c, hl, own_below (own_down ho hB) hb, hp⟩
theorem PutK.rowed {T : TypeId} {k i err base base' g : Nat} {l : List (List Value)} {h p : Hs} {W : World} (H : PutK T k i err l h p base W) (hg : g < base) (hB : base' ≤ base) (cs : Array Value) : PutK T k i err l h p base' (W.setRow g cs) :=
  H.imp id fun ⟨h1, A, n, c, hl, ho, hp⟩ => ⟨h1, A, n, c, hl, own_rowed ho hg hB, hp⟩
theorem PutK.ht {T : TypeId} {k i err base : Nat} {ord : List Value → List Value → Int} {x : List Value} {h p : Hs} {L : Nat → List (List Value)} {W : World} (hi : i < 14) (hx : Fits (kOf i) x) (hn : h.n i ≤ 1000) (hh : HT h L W) (H : PutK T k i err (putG ord (L i) x) h p base W) : HT p (setE err L i (putG ord (L i) x)) W := by
  rcases H with ⟨h1, rfl⟩ | ⟨h1, A, n, c, hl, ho, rfl⟩
  · exact fun j hj => by rw [setE_bad h1]; exact hsN_ht W j hj
  · refine fun j hj => ?_
    by_cases h0 : j = i
    · subst h0
      rw [setE_at h1]
      exact ⟨by simpa [Hs.set] using hl, by simp only [Hs.set, if_true]; rw [hl, Pl.putG_len, ← (hh j hi).1]; split <;> omega, (hh j hi).2.2.1.put hx, by simpa [Hs.set] using Rd.of_own ho⟩
    · rw [setE_off h1 L h0]
      simpa [Hs.set, h0] using hh j hj
theorem PutK.caps {T : TypeId} {k i err base : Nat} {l : List (List Value)} {h p : Hs} {W : World} (H : PutK T k i err l h p base W) (hc : Caps h) : Caps p := by
  rcases H with ⟨h1, rfl⟩ | ⟨h1, A, n, c, hl, ho, rfl⟩
  · exact hsN_caps
  · refine fun j hj => ?_
    by_cases h0 : j = i
    · subst h0
      exact ⟨by simpa [Hs.set] using own_cap ho, by simpa [Hs.set] using own_max ho⟩
    · simpa [Hs.set, h0] using hc j hj
theorem PutK.apart {T : TypeId} {k i err base g : Nat} {l : List (List Value)} {h p : Hs} {W : World} (H : PutK T k i err l h p base W) (hg : g < base) (ha : Apart g h) : Apart g p := by
  rcases H with ⟨h1, rfl⟩ | ⟨h1, A, n, c, hl, ho, rfl⟩
  · exact hsN_apart g
  · refine fun j hj q hq => ?_
    by_cases h0 : j = i
    · subst h0
      exact Nat.lt_of_lt_of_le hg (own_block ho (p := q) (by simpa [Hs.set] using hq))
    · exact ha j hj q (by simpa [Hs.set, h0] using hq)
theorem range_cells {w : World} {b : Nat} {cs : List Value} {t : TypeId} (h : w.heap[b]? = some (.cells cs.toArray t (0, 0))) : w.rangeAt b 0 cs := fun i v hv => by rw [cell_of_block h, List.getElem?_toArray, Nat.zero_add]; exact hv
end Go.Proofs.YtjphjblcahadkaaGreat
