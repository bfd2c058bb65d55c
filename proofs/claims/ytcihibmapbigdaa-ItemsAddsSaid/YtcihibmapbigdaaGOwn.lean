/-
  A THING STORED into a row of the call's own.
-/
import Derived.Test.YtcihibmapbigdaaGTab
namespace Go.Proofs.Ytcihibmapbigdaa
set_option linter.unusedVariables false
open Go.RowKit

/-- Values laid one behind the other from place o on. -/
def setL (xs : List Value) : Nat → List Value → List Value
  | _, [] => xs
  | o, v :: vs => setL (xs.set o v) (o + 1) vs
theorem setL_eq : ∀ (vs xs : List Value) (o : Nat), o + vs.length ≤ xs.length → setL xs o vs = xs.take o ++ vs ++ xs.drop (o + vs.length)
  | [], xs, o, _ => by simp [setL]
  | v :: vs, xs, o, h => by
    simp only [List.length_cons] at h
    unfold setL
    rw [setL_eq vs (xs.set o v) (o + 1) (by rw [List.length_set]; omega)]
    have h1 : (xs.set o v).take (o + 1) = xs.take o ++ [v] := by
      rw [List.set_eq_take_append_cons_drop, if_pos (by omega), List.take_append]
      simp only [List.length_take, List.take_take]
      rw [show o + 1 - min o xs.length = 1 from by omega, show min (o + 1) o = o from by omega]
      simp
    have h2 : (xs.set o v).drop (o + 1 + vs.length) = xs.drop (o + (v :: vs).length) := by
      rw [List.drop_set_of_lt (by omega)]
      simp only [List.length_cons]
      rw [show o + 1 + vs.length = o + (vs.length + 1) from by omega]
    rw [h1, h2]
    simp
theorem set_flatten {sz : Nat} {L : List (List Value)} (h : ∀ e ∈ L, e.length = sz) {x : List Value} (hx : x.length = sz) {i : Nat} (hi : i < L.length) : (L.set i x).flatten = setL L.flatten (i * sz) x := by
  have hl := flat_length h
  have hs : (i + 1) * sz ≤ L.length * sz := Nat.mul_le_mul_right sz hi
  rw [Nat.succ_mul] at hs
  rw [setL_eq _ _ _ (by rw [hl, hx]; exact hs), hx, ← Nat.succ_mul, ← flat_take h, ← flat_drop h]
  rw [List.set_eq_take_append_cons_drop, if_pos hi]
  simp
theorem own_cells {B g n c sz : Nat} {e : TypeId} (hg : B ≤ g) : ∀ (vs : List Value) (w : World) (o : Nat) (xs : List Value), w.ownsRow B e sz (.slice (some ⟨g, 0, none⟩) n c) n xs →
    (w.setCells g o vs).ownsRow B e sz (.slice (some ⟨g, 0, none⟩) n c) n (setL xs o vs) ∧ Below B w (w.setCells g o vs)
  | [], w, o, xs, h => ⟨h, Below.refl _ _⟩
  | v :: vs, w, o, xs, h => by
    have h1 := h.stored o v
    have h2 := own_cells hg vs _ (o + 1) _ h1.1
    exact ⟨h2.1, ((Below.refl B w).setCell (p := ⟨g, o, none⟩) hg v).trans h2.2⟩
theorem own_thing {w : World} {B g n c sz : Nat} {e : TypeId} {L : List (List Value)} (hown : w.ownsRow B e sz (.slice (some ⟨g, 0, none⟩) n c) n L.flatten) (hg : B ≤ g) (hL : ∀ e ∈ L, e.length = sz) {x : List Value} (hx : x.length = sz) {i : Nat} (hi : i < L.length) :
    (w.setCells g (i * sz) x).ownsRow B e sz (.slice (some ⟨g, 0, none⟩) n c) n (L.set i x).flatten ∧ Below B w (w.setCells g (i * sz) x) := by
  rw [set_flatten hL hx hi]
  exact own_cells hg x w (i * sz) _ hown
theorem own_there {w : World} {B g n c sz : Nat} {e : TypeId} {L : List (List Value)} (hown : w.ownsRow B e sz (.slice (some ⟨g, 0, none⟩) n c) n L.flatten) (hL : ∀ e ∈ L, e.length = sz) (hn : n = L.length) {i : Nat} (hi : i < n) : w.there g (i * sz) sz := fun j hj => by
  have hs : (i + 1) * sz ≤ n * sz := Nat.mul_le_mul_right sz hi
  rw [Nat.succ_mul] at hs
  have hl : L.flatten.length = n * sz := by rw [flat_length hL, hn]
  rw [hown.cellAt (i * sz + j) (by omega), List.getElem?_eq_getElem (by omega)]
  exact ⟨rfl, hown.frozenAt _⟩
end Go.Proofs.Ytcihibmapbigdaa
