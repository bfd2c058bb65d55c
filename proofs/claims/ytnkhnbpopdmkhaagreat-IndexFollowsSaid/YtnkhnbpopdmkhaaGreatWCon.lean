/-
  THE SHAPE of the contracts of index's functions over an invariant IX (world, block, its own blocks, the lists of the house that it follows); the chapter's examples over it.
-/
import Derived.Test.YtnkhnbpopdmkhaaGreatWSmall
import Derived.Test.YtnkhnbpopdmkhaaGreatWRefA
import Derived.Test.YtnkhnbpopdmkhaaGreatWFacts
namespace Go.Proofs.YtnkhnbpopdmkhaaGreat
set_option linter.unusedVariables false
open Go.RowKit
open Pl (firstG findG putG It)

/-- The call hands back a list of takes. -/
def TakesP (l : List (List Value)) (w : World) (e : Ending) (w' : World) : Prop :=
  Below w.heap.size w w' ∧ ∃ A c, e = .returned (.slice A l.length c) ∧ Rd w' w'.heap.size A l.flatten
/-- All that a house's lists hold is as a machine holds it. -/
def MildL (L : Nat → List (List Value)) : Prop := ∀ i, i < 14 → ∀ e ∈ L i, ∀ u ∈ e, Mild u
/-- What index's functions answer. IX w b X L: in world w, at block b, stands the index of a house of lists L; it is made of the blocks X. -/
structure ConsX (IX : World → Nat → (Nat → Prop) → (Nat → List (List Value)) → Prop) : Prop where
  keep : ∀ (w w' : World) (b : Nat) (X : Nat → Prop) (L : Nat → List (List Value)), IX w b X L → (∀ k, X k → w'.heap[k]? = w.heap[k]?) → IX w' b X L
  lt : ∀ (w : World) (b : Nat) (X : Nat → Prop) (L : Nat → List (List Value)), IX w b X L → ∀ k, X k → k < w.heap.size
  new : ∀ w : World, Calls Tryz.prog 14 #[] w fun e w' => Below w.heap.size w w' ∧ ∃ (b : Nat) (X : Nat → Prop), e = .returned (.pointer (some ⟨b, 0, none⟩)) ∧ IX w' b X (fun _ => []) ∧ ∀ k, X k → w.heap.size ≤ k
  follow : ∀ (h : Hs) (L L0 : Nat → List (List Value)) (b : Nat) (X : Nat → Prop) (w : World), IX w b X L0 → HT h L w → (∀ i, i < 14 → h.n i ≤ 1000) → MildL L → (∀ k, X k → Off k h L) → Calls Tryz.prog 15 #[.pointer (some ⟨b, 0, none⟩), .agg h.cells] w fun e w' => e = .returned (.tuple #[]) ∧ (∀ B, B ≤ w.heap.size → (∀ k, X k → B ≤ k) → Below B w w') ∧ (∀ k, k < w.heap.size → ¬ X k → w'.heap[k]? = w.heap[k]?) ∧ ∃ X' : Nat → Prop, IX w' b X' L ∧ ∀ k, X' k → X k ∨ w.heap.size ≤ k
  pick : ∀ (L : Nat → List (List Value)) (b : Nat) (X : Nat → Prop) (s i : ByteArray) (n : Int) (w : World), IX w b X L → i.size ≤ 9223372036854775807 → Wf n → Calls Tryz.prog 16 #[.pointer (some ⟨b, 0, none⟩), .string s, .string i, .int .i64 n] w (TakesP (pickL L s i n) w)
  naive : ∀ (h : Hs) (L : Nat → List (List Value)) (s i : ByteArray) (n : Int) (w : World), HT h L w → (∀ i, i < 14 → h.n i ≤ 1000) → Wf n → Calls Tryz.prog 9 #[.agg h.cells, .string s, .string i, .int .i64 n] w (TakesP (pickL L s i n) w)
  opens : ∀ (h : Hs) (L : Nat → List (List Value)) (s i : ByteArray) (w : World), HT h L w → (∀ i, i < 14 → h.n i ≤ 1000) → Calls Tryz.prog 11 #[.agg h.cells, .string s, .string i] w fun e w' => e = .returned (.int .i64 (openZ L s i)) ∧ Below w.heap.size w w'
  nilf : ∀ (h : Hs) (L : Nat → List (List Value)) (w : World), HT h L w → Calls Tryz.prog 15 #[.pointer none, .agg h.cells] w fun e w' => e = .returned (.tuple #[]) ∧ Below w.heap.size w w'
  nilp : ∀ (s i : ByteArray) (n : Int) (w : World), Calls Tryz.prog 16 #[.pointer none, .string s, .string i, .int .i64 n] w (TakesP [] w)
theorem things_pick (L : Nat → List (List Value)) (s i : ByteArray) (n : Int) : Things kTake (pickL L s i n) := fun e he => by
  obtain ⟨p, _, rfl⟩ := List.mem_map.1 he
  exact takeQ_fits _ p
theorem Pl.ordN_len {less : Nat → Nat → Bool} {m : Nat} : ∀ (f : Nat) (P : Nat → Bool), (Pl.ordN less m f P).length ≤ f
  | 0, _ => Nat.le_refl 0
  | f + 1, P => by
    unfold Pl.ordN
    split
    · exact Nat.zero_le _
    · exact Nat.succ_le_succ (Pl.ordN_len f _)
theorem pick_len (L : Nat → List (List Value)) (s i : ByteArray) (n : Int) : (pickL L s i n).length ≤ (L 4).length := by
  unfold pickL pickI
  rw [List.length_map]
  exact Nat.le_trans (Pl.cutN_len _ _) (Pl.ordN_len _ _)
/-- The chapter's answers. -/
abbrev exS : ByteArray := ⟨#[115]⟩
abbrev exT : ByteArray := ⟨#[110, 117, 116]⟩
def exP4 : List (List Value) := [[.string ⟨#[98, 51]⟩, .string exT, .string ⟨#[99]⟩, .int .i64 1, .int .i64 1], [.string ⟨#[98, 50]⟩, .string exT, .string ⟨#[97]⟩, .int .i64 1, .int .i64 3]]
def exP20 : List (List Value) := [[.string ⟨#[98, 51]⟩, .string exT, .string ⟨#[99]⟩, .int .i64 1, .int .i64 1], [.string ⟨#[98, 50]⟩, .string exT, .string ⟨#[97]⟩, .int .i64 1, .int .i64 5], [.string ⟨#[98, 49]⟩, .string exT, .string ⟨#[98]⟩, .int .i64 1, .int .i64 4]]
set_option maxRecDepth 100000 in
theorem ex4 : pickL exL exS exT 4 = exP4 := by kernel_rfl
set_option maxRecDepth 100000 in
theorem ex20 : pickL exL exS exT 20 = exP20 := by kernel_rfl
set_option maxRecDepth 100000 in
theorem exO : openZ exL exS exT = 10 := by kernel_rfl
end Go.Proofs.YtnkhnbpopdmkhaaGreat
