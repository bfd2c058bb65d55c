/-
  WORDS: a slice value that reads as a list of cells.
-/
import Derived.Test.YtkcickbkmedbmaaMMed
import Derived.WalkKit
import Derived.WalkSmall
import Derived.Lib.Hide
import Derived.Laws.OwnMore
import Derived.Deep.Draws
namespace Go.Proofs.Ytkcickbkmedbmaa
open Go.RowKit

/-- At the slice's address A lie the cells xs, below block B. -/
def Rd (w : World) (B : Nat) (A : Option Addr) (xs : List Value) : Prop :=
  0 < xs.length → ∃ b off, A = some ⟨b, off, none⟩ ∧ b < B ∧ ∀ (j : Nat) (u : Value), xs[j]? = some u → w.cell? ⟨b, off + j, none⟩ = some u

section
variable {w w' : World} {B B' : Nat} {A : Option Addr} {xs ys : List Value}
theorem Rd.none_ : Rd w B A [] := fun h => absurd h (by simp)
theorem Rd.mono (h : Rd w B A xs) (hB : B ≤ B') : Rd w B' A xs := fun hx => by
  obtain ⟨b, off, e, hb, hc⟩ := h hx
  exact ⟨b, off, e, by omega, hc⟩
theorem Rd.keep (h : Rd w B A xs) (hk : ∀ b i, b < B → w'.cell? ⟨b, i, none⟩ = w.cell? ⟨b, i, none⟩) : Rd w' B A xs := fun hx => by
  obtain ⟨b, off, e, hb, hc⟩ := h hx
  exact ⟨b, off, e, hb, fun j u hu => (hk _ _ hb).trans (hc j u hu)⟩
theorem Rd.below (h : Rd w B A xs) (hb : Below B w w') : Rd w' B A xs := h.keep fun b i hp => hb.cell (p := ⟨b, i, none⟩) hp
theorem Rd.take (h : Rd w B A (xs ++ ys)) : Rd w B A xs := fun hx => by
  obtain ⟨b, off, e, hb, hc⟩ := h (by rw [List.length_append]; omega)
  refine ⟨b, off, e, hb, fun j u hu => hc j u ?_⟩
  have : j < xs.length := (List.getElem?_eq_some_iff.1 hu).1
  rw [List.getElem?_append_left this]; exact hu
/-- Behind a cut: what lies from k cells on. -/
theorem Rd.drop (h : Rd w B A xs) (k : Nat) : Rd w B (A.map (·.add k)) (xs.drop k) := fun hx => by
  rw [List.length_drop] at hx
  obtain ⟨b, off, rfl, hb, hc⟩ := h (by omega)
  refine ⟨b, off + k, by simp [Addr.add_lit], hb, fun j u hu => ?_⟩
  rw [Nat.add_assoc]
  exact hc _ u (by rw [← hu, List.getElem?_drop])
/-- Behind a cut s[k:], as the model spells its address. -/
def cutA (A : Option Addr) (cap c k : Nat) : Option Addr := if cap = c then A else A.map (·.add (c * k))
theorem Rd.cut (h : Rd w B A xs) (k c cap : Nat) (hcap : cap = c → xs.length ≤ c * k) :
    Rd w B (cutA A cap c k) (xs.drop (c * k)) := fun hd => by
  rw [List.length_drop] at hd
  unfold cutA
  rw [if_neg (fun e => by have := hcap e; omega)]
  exact h.drop (c * k) (by rw [List.length_drop]; omega)
theorem Rd.of_own {base size n c : Nat} {e : TypeId} (h : w.ownsRow base e size (.slice A n c) n xs) : Rd w w.heap.size A xs := fun hx => by
  rcases h.2 with ⟨_, rfl⟩ | ⟨g, cap, cur, hv, _, hh, hnc, _, hs, ht⟩
  · have := h.1; omega
  · have hA : A = some ⟨g, 0, none⟩ := by injection hv
    subst hA
    refine ⟨g, 0, rfl, lt_of_block hh, fun j u hu => ?_⟩
    rw [Nat.zero_add, cell_of_row w g j cur e (0, 0) hh]
    rw [← ht] at hu
    have hj : j < n * size := by
      have := (List.getElem?_eq_some_iff.1 hu).1
      rw [List.length_take] at this; omega
    rw [List.getElem?_take_of_lt hj] at hu
    rw [← hu, Array.getElem?_toList]
end

theorem run_cut {P : Program} (t e : TypeId) (s : Nat) (i : TypeInfo) (ht : P.underlying t = some (.slice e)) (hi : P.info? e = some i) (hs : i.size = s) (A : Option Addr) (n c j : Nat) (hj : j ≤ n) (w : World) :
    (Instr.sliceAt t (.slice A n c) (some (.int .i64 (j : Int))) none none).run P w = .ok (.slice (cutA A c j s) (n - j) (c - j)) w := by
  have he : P.elem t = e := by simp [Program.elem, ht]
  have ht' : P.underlying t = some (.slice (P.elem t)) := by rw [he]; exact ht
  rw [run_sliceAt_slice (h := ht'), run_slice_l (ht := ht') (h0 := by omega) (h1 := by omega), he]
  simp [sizeOf, typeInfo, hi, hs, sliced, cutA, Result.andThen]

/-- One int at its place. -/
theorem Rd.int_at {w : World} {B : Nat} {A : Option Addr} {zs : List Int} (h : Rd w B A (zs.map (Value.int .i64))) {i : Nat} (hi : i < zs.length) :
    ∃ b off, A = some ⟨b, off, none⟩ ∧ b < B ∧ ∀ j (hj : j < zs.length), w.cell? ⟨b, off + j, none⟩ = some (.int .i64 zs[j]) := by
  obtain ⟨b, off, e, hb, hc⟩ := h (by rw [List.length_map]; omega)
  exact ⟨b, off, e, hb, fun j hj => hc j _ (by rw [List.getElem?_map, List.getElem?_eq_getElem hj]; rfl)⟩
end Go.Proofs.Ytkcickbkmedbmaa
