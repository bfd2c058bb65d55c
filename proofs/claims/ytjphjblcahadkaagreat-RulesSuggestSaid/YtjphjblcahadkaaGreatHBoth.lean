/-
  A HOUSE as it came in, and lent; what both Adds leave.
-/
import Derived.Test.YtjphjblcahadkaaGreatHLentsW
import Derived.Test.YtjphjblcahadkaaGreatGT
import Derived.Test.YtjphjblcahadkaaGreatIRow
import Derived.Test.YtjphjblcahadkaaGreatHKept
namespace Go.Proofs.YtjphjblcahadkaaGreat
set_option linter.unusedVariables false
open Go.RowKit
open Pl (putG)

theorem pOf_lt (i : Nat) (hi : i < 14) : pOf i < (kOf i).length := by
  match i, hi with
  | 0, _ => decide
  | 1, _ => decide
  | 2, _ => decide
  | 3, _ => decide
  | 4, _ => decide
  | 5, _ => decide
  | 6, _ => decide
  | 7, _ => decide
  | 8, _ => decide
  | 9, _ => decide
  | 10, _ => decide
  | 11, _ => decide
  | 12, _ => decide
  | 13, _ => decide
  | i + 14, hi => omega
/-- A house that was lent, its lists' blocks by name. -/
theorem lent_own {h a : Hs} {L : Nat → List (List Value)} {w cur : World} (hlt : ∀ i, i < 14 → Lt h L w a cur i) (hh : HT h L w) (hs : ∀ i, i < 14 → h.n i ≤ capOf i) :
    ∃ (g n c : Nat → Nat) (z : Int), a.cells = (Hs.mk (fun i => some ⟨g i, 0, none⟩) n c z).cells ∧ z = a.z ∧ (∀ i, i < 14 → h.n i = n i) ∧ (∀ i, i < 14 → n i + 1 ≤ c i ∧ c i ≤ 9223372036854775807) ∧ (∀ i, i < 14 → n i ≤ 1000) ∧
      (∀ i, i < 14 → cur.cell? ⟨g i, n i * (kOf i).length + pOf i, none⟩ = some (vOf i)) ∧ HT (Hs.mk (fun i => some ⟨g i, 0, none⟩) n c z) L cur := by
  have hg : ∀ i, ∃ g : Nat, i < 14 → a.A i = some ⟨g, 0, none⟩ ∧ ∃ bh : List Value, bh.length = (kOf i).length ∧ bh[pOf i]? = some (vOf i) ∧ Rd cur cur.heap.size (some ⟨g, 0, none⟩) ((L i).flatten ++ bh) := fun i => by
    by_cases hi : i < 14
    · obtain ⟨bh, g, h1, h2, h3, h4, h5, h6, h7, h8⟩ := hlt i hi
      exact ⟨g, fun _ => ⟨h4, bh, h6, h7, h8⟩⟩
    · exact ⟨0, fun h => absurd h hi⟩
  obtain ⟨g, hg⟩ := Classical.axiomOfChoice hg
  have key : ∀ i, i < 14 → (a.A i = some ⟨g i, 0, none⟩ ∧ a.n i = h.n i ∧ a.n i + 1 ≤ a.c i ∧ a.c i ≤ 9223372036854775807) := fun i hi => by
    obtain ⟨bh, g', h1, h2, h3, _⟩ := hlt i hi
    exact ⟨(hg i hi).1, h1, by omega, h3⟩
  refine ⟨g, a.n, a.c, a.z, ?_, rfl, fun i hi => (key i hi).2.1.symm, fun i hi => (key i hi).2.2, fun i hi => ?_, fun i hi => ?_, fun i hi => ?_⟩
  · unfold Hs.cells
    simp only [(key 0 (by decide)).1, (key 1 (by decide)).1, (key 2 (by decide)).1, (key 3 (by decide)).1, (key 4 (by decide)).1, (key 5 (by decide)).1, (key 6 (by decide)).1, (key 7 (by decide)).1, (key 8 (by decide)).1, (key 9 (by decide)).1, (key 10 (by decide)).1, (key 11 (by decide)).1, (key 12 (by decide)).1, (key 13 (by decide)).1]
  · rw [(key i hi).2.1]; exact Nat.le_trans (hs i hi) (cap_le i hi)
  · obtain ⟨_, bh, h1, h2, h3⟩ := hg i hi
    obtain ⟨b, off, hb, hlt', hc⟩ := h3 (by rw [List.length_append]; have := pOf_lt i hi; omega)
    injection hb with hb
    injection hb with e1 e2 _
    have hl : (L i).flatten.length = a.n i * (kOf i).length := by rw [flat_length (hh i hi).2.2.1.len, (key i hi).2.1, (hh i hi).1]
    have := hc (a.n i * (kOf i).length + pOf i) (vOf i) (by rw [List.getElem?_append_right (by omega), hl, show a.n i * (kOf i).length + pOf i - a.n i * (kOf i).length = pOf i from by omega]; exact h2)
    rw [e1]
    rw [← e2, Nat.zero_add] at this
    exact this
  · obtain ⟨_, bh, h1, h2, h3⟩ := hg i hi
    exact ⟨by rw [show (Hs.mk (fun i => some ⟨g i, 0, none⟩) a.n a.c a.z).n i = a.n i from rfl, (key i hi).2.1]; exact (hh i hi).1, by rw [show (Hs.mk (fun i => some ⟨g i, 0, none⟩) a.n a.c a.z).n i = a.n i from rfl, (key i hi).2.1]; exact (hh i hi).2.1, (hh i hi).2.2.1, h3.take⟩
/-- What lies behind the lists of a house that was lent. -/
def KB (g n : Nat → Nat) (cur : World) : Prop := ∀ i, i < 14 → cur.cell? ⟨g i, n i * (kOf i).length + pOf i, none⟩ = some (vOf i)
theorem KB.below {g n : Nat → Nat} {w W : World} (H : KB g n w) (hb : Below w.heap.size w W) : KB g n W := fun i hi =>
  (hb.cell (p := ⟨g i, n i * (kOf i).length + pOf i, none⟩) (World.block_lt_of_cell? w _ (H i hi))).trans (H i hi)
theorem same_true {a b : Hs} {L : Nat → List (List Value)} {W : World} (ha : HT a L W) (hb : HT b L W) (hz : a.z = b.z) : Calls Tryz.prog 12 #[.agg a.cells, .agg b.cells] W fun e w' => e = .returned (.bool true) ∧ Below W.heap.size W w' :=
  (sames_calls a b L L W ha hb).mono fun e w' ⟨⟨c, he, hc⟩, h2⟩ => ⟨by rw [he, hc.2 ⟨fun _ _ => rfl, hz⟩], h2⟩
theorem kept_true {g n c : Nat → Nat} {z : Int} {h a : Hs} {L : Nat → List (List Value)} {W : World} (ha : a = Hs.mk (fun i => some ⟨g i, 0, none⟩) n c z) (hn : ∀ i, i < 14 → h.n i = n i) (hc : ∀ i, i < 14 → n i + 1 ≤ c i ∧ c i ≤ 9223372036854775807) (hn6 : ∀ i, i < 14 → n i ≤ 1000)
    (hk : KB g n W) (hA : HT a L W) (hH : HT h L W) (hz : a.z = h.z) : Calls Tryz.prog 13 #[.agg a.cells, .agg h.cells] W fun e w' => e = .returned (.bool true) ∧ Below W.heap.size W w' := by
  subst ha
  exact kept_calls g n c z h W hn (fun i hi => (hc i hi).1) hn6 hk (fun W' hW => same_true (hA.below hW) (hH.below hW) hz)
end Go.Proofs.YtjphjblcahadkaaGreat
