/-
  What both Adds leave.
-/
import Derived.Test.YthliomckpfeekaaLRAddA
import Derived.Test.YthliomckpfeekaaHBoth
namespace Go.Proofs.Ythliomckpfeekaa
set_option linter.unusedVariables false
open Go.RowKit
open Pl (putG)

/-- The lists of a house with a lot put. -/
def addXL (L : Nat → List (List Value)) (x : List Value) : Nat → List (List Value) := fun i => if addLE (L 0) (L 1) x = 0 then (if i = 1 then putG ordL (L 1) x else L i) else []
def addZL (L : Nat → List (List Value)) (x : List Value) (z : Int) : Int := if addLE (L 0) (L 1) x = 0 then z else 0
def hsN : Hs := ⟨fun _ => none, fun _ => 0, fun _ => 0, 0⟩
theorem addsL_ht {h : Hs} {L : Nat → List (List Value)} {x : List Value} {w w' : World} {e : Ending} (hc : Fits kLot x) (hh : HT h L w) (hn : h.n 1 ≤ 1000) (H : AddLP h L x w e w') :
    ∃ a : Hs, e = .returned (.tuple #[.agg a.cells, .int .i64 (addLE (L 0) (L 1) x : Nat)]) ∧ HT a (addXL L x) w' ∧ a.z = addZL L x h.z ∧ Below w.heap.size w w' ∧ (a.n 1 ≤ a.c 1 ∧ a.c 1 ≤ 9223372036854775807) ∧ a.n 1 = (addXL L x 1).length := by
  obtain ⟨hb, ⟨h1, he⟩ | ⟨h1, A, n, c, hl, ho, he⟩⟩ := H
  · have h0 : ∀ i, addXL L x i = [] := fun i => by unfold addXL; rw [if_neg h1]
    refine ⟨hsN, he, fun i hi => ?_, by unfold addZL; rw [if_neg h1]; rfl, hb, ⟨Nat.le_refl _, by show (0 : Nat) ≤ _; omega⟩, by rw [h0]; rfl⟩
    rw [h0]
    exact ⟨rfl, by show (0 : Nat) ≤ _; omega, fun e he => by simp at he, Rd.none_⟩
  · have hx1 : addXL L x 1 = putG ordL (L 1) x := by unfold addXL; rw [if_pos h1, if_pos rfl]
    refine ⟨h.set 1 A n c, by rw [he, h1]; rfl, fun i hi => ?_, by unfold addZL; rw [if_pos h1]; rfl, hb, ⟨by simpa [Hs.set] using own_cap ho, by simpa [Hs.set] using own_max ho⟩, by rw [hx1]; simpa [Hs.set] using hl⟩
    by_cases h0 : i = 1
    · subst h0
      rw [hx1]
      have hln := Pl.putG_len ordL (L 1) x
      have h00 := (hh 1 hi).1
      refine ⟨by simpa [Hs.set] using hl, ?_, (hh 1 hi).2.2.1.put hc, by simpa [Hs.set] using Rd.of_own ho⟩
      simp only [Hs.set, if_true]
      rw [hl, hln]
      split <;> omega
    · have : addXL L x i = L i := by unfold addXL; rw [if_pos h1, if_neg h0]
      rw [this]
      have := (hh.below hb) i hi
      simpa [Hs.set, h0] using this
end Go.Proofs.Ythliomckpfeekaa
