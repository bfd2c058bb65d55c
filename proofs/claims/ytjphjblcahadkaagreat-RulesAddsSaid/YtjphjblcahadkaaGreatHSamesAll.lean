/-
  THE CONTRACT of stevedorekeep's Same, of two houses in memory.
-/
import Derived.Test.YtjphjblcahadkaaGreatHSamesA
import Derived.Test.YtjphjblcahadkaaGreatHSamesB
import Derived.Test.YtjphjblcahadkaaGreatHSamesC
import Derived.Test.YtjphjblcahadkaaGreatHSamesD
import Derived.Test.YtjphjblcahadkaaGreatHSamesE
import Derived.Test.YtjphjblcahadkaaGreatHSamesF
import Derived.Test.YtjphjblcahadkaaGreatHSamesG
namespace Go.Proofs.YtjphjblcahadkaaGreat
open Go.RowKit

/-- Same's answer. -/
def SameP (h g : Hs) (L X : Nat → List (List Value)) : Prop := (∀ i, i < 14 → L i = X i) ∧ h.z = g.z
theorem sameK_of {P : Program} {f : FuncId} {h g : Hs} {w : World} {i : Nat} {p : Prop} (hc : ∀ W, Below w.heap.size w W → Calls P f #[.slice (h.A i) (h.n i) (h.c i), .slice (g.A i) (g.n i) (g.c i)] W fun e w' => (∃ b : Bool, e = .returned (.bool b) ∧ (b = true ↔ p)) ∧ ∃ q, w' = W.drewN q) {b : Bool} (hb : b = true ↔ p) : SameK P f h g w i b := fun W hW =>
  (hc W hW).mono fun e w' ⟨⟨b', he, hb'⟩, q, hq⟩ => ⟨by rw [he, show b' = b from Bool.eq_iff_iff.2 (hb'.trans hb.symm)], by rw [hq]; exact below_drewN (Below.refl _ _) _⟩
theorem sameK0 (h g : Hs) (L X : Nat → List (List Value)) (w : World) (hh : HT h L w) (hg : HT g X w) {b : Bool} (hb : b = true ↔ L 0 = X 0) : SameK Tryz.prog 41 h g w 0 b :=
  sameK_of (fun W hW => sameItem _ _ _ _ _ _ (L 0) (X 0) W ((hh 0 (by decide)).1) ((hg 0 (by decide)).1) ((hh 0 (by decide)).2.1) ((hh 0 (by decide)).2.2.1) ((hg 0 (by decide)).2.2.1) (((hh.below hW) 0 (by decide)).2.2.2) (((hg.below hW) 0 (by decide)).2.2.2)) hb
theorem sameK1 (h g : Hs) (L X : Nat → List (List Value)) (w : World) (hh : HT h L w) (hg : HT g X w) {b : Bool} (hb : b = true ↔ L 1 = X 1) : SameK Tryz.prog 42 h g w 1 b :=
  sameK_of (fun W hW => sameLot _ _ _ _ _ _ (L 1) (X 1) W ((hh 1 (by decide)).1) ((hg 1 (by decide)).1) ((hh 1 (by decide)).2.1) ((hh 1 (by decide)).2.2.1) ((hg 1 (by decide)).2.2.1) (((hh.below hW) 1 (by decide)).2.2.2) (((hg.below hW) 1 (by decide)).2.2.2)) hb
theorem sameK2 (h g : Hs) (L X : Nat → List (List Value)) (w : World) (hh : HT h L w) (hg : HT g X w) {b : Bool} (hb : b = true ↔ L 2 = X 2) : SameK Tryz.prog 43 h g w 2 b :=
  sameK_of (fun W hW => sameZone _ _ _ _ _ _ (L 2) (X 2) W ((hh 2 (by decide)).1) ((hg 2 (by decide)).1) ((hh 2 (by decide)).2.1) ((hh 2 (by decide)).2.2.1) ((hg 2 (by decide)).2.2.1) (((hh.below hW) 2 (by decide)).2.2.2) (((hg.below hW) 2 (by decide)).2.2.2)) hb
theorem sameK3 (h g : Hs) (L X : Nat → List (List Value)) (w : World) (hh : HT h L w) (hg : HT g X w) {b : Bool} (hb : b = true ↔ L 3 = X 3) : SameK Tryz.prog 44 h g w 3 b :=
  sameK_of (fun W hW => sameBin _ _ _ _ _ _ (L 3) (X 3) W ((hh 3 (by decide)).1) ((hg 3 (by decide)).1) ((hh 3 (by decide)).2.1) ((hh 3 (by decide)).2.2.1) ((hg 3 (by decide)).2.2.1) (((hh.below hW) 3 (by decide)).2.2.2) (((hg.below hW) 3 (by decide)).2.2.2)) hb
theorem sameK4 (h g : Hs) (L X : Nat → List (List Value)) (w : World) (hh : HT h L w) (hg : HT g X w) {b : Bool} (hb : b = true ↔ L 4 = X 4) : SameK Tryz.prog 45 h g w 4 b :=
  sameK_of (fun W hW => sameQuant _ _ _ _ _ _ (L 4) (X 4) W ((hh 4 (by decide)).1) ((hg 4 (by decide)).1) ((hh 4 (by decide)).2.1) ((hh 4 (by decide)).2.2.1) ((hg 4 (by decide)).2.2.1) (((hh.below hW) 4 (by decide)).2.2.2) (((hg.below hW) 4 (by decide)).2.2.2)) hb
theorem sameK5 (h g : Hs) (L X : Nat → List (List Value)) (w : World) (hh : HT h L w) (hg : HT g X w) {b : Bool} (hb : b = true ↔ L 5 = X 5) : SameK Tryz.prog 46 h g w 5 b :=
  sameK_of (fun W hW => sameRule _ _ _ _ _ _ (L 5) (X 5) W ((hh 5 (by decide)).1) ((hg 5 (by decide)).1) ((hh 5 (by decide)).2.1) ((hh 5 (by decide)).2.2.1) ((hg 5 (by decide)).2.2.1) (((hh.below hW) 5 (by decide)).2.2.2) (((hg.below hW) 5 (by decide)).2.2.2)) hb
theorem sameK6 (h g : Hs) (L X : Nat → List (List Value)) (w : World) (hh : HT h L w) (hg : HT g X w) {b : Bool} (hb : b = true ↔ L 6 = X 6) : SameK Tryz.prog 47 h g w 6 b :=
  sameK_of (fun W hW => sameNotice _ _ _ _ _ _ (L 6) (X 6) W ((hh 6 (by decide)).1) ((hg 6 (by decide)).1) ((hh 6 (by decide)).2.1) ((hh 6 (by decide)).2.2.1) ((hg 6 (by decide)).2.2.1) (((hh.below hW) 6 (by decide)).2.2.2) (((hg.below hW) 6 (by decide)).2.2.2)) hb
theorem sameK7 (h g : Hs) (L X : Nat → List (List Value)) (w : World) (hh : HT h L w) (hg : HT g X w) {b : Bool} (hb : b = true ↔ L 7 = X 7) : SameK Tryz.prog 48 h g w 7 b :=
  sameK_of (fun W hW => sameOrder _ _ _ _ _ _ (L 7) (X 7) W ((hh 7 (by decide)).1) ((hg 7 (by decide)).1) ((hh 7 (by decide)).2.1) ((hh 7 (by decide)).2.2.1) ((hg 7 (by decide)).2.2.1) (((hh.below hW) 7 (by decide)).2.2.2) (((hg.below hW) 7 (by decide)).2.2.2)) hb
theorem sameK8 (h g : Hs) (L X : Nat → List (List Value)) (w : World) (hh : HT h L w) (hg : HT g X w) {b : Bool} (hb : b = true ↔ L 8 = X 8) : SameK Tryz.prog 49 h g w 8 b :=
  sameK_of (fun W hW => sameClaim _ _ _ _ _ _ (L 8) (X 8) W ((hh 8 (by decide)).1) ((hg 8 (by decide)).1) ((hh 8 (by decide)).2.1) ((hh 8 (by decide)).2.2.1) ((hg 8 (by decide)).2.2.1) (((hh.below hW) 8 (by decide)).2.2.2) (((hg.below hW) 8 (by decide)).2.2.2)) hb
theorem sameK9 (h g : Hs) (L X : Nat → List (List Value)) (w : World) (hh : HT h L w) (hg : HT g X w) {b : Bool} (hb : b = true ↔ L 9 = X 9) : SameK Tryz.prog 50 h g w 9 b :=
  sameK_of (fun W hW => sameTask _ _ _ _ _ _ (L 9) (X 9) W ((hh 9 (by decide)).1) ((hg 9 (by decide)).1) ((hh 9 (by decide)).2.1) ((hh 9 (by decide)).2.2.1) ((hg 9 (by decide)).2.2.1) (((hh.below hW) 9 (by decide)).2.2.2) (((hg.below hW) 9 (by decide)).2.2.2)) hb
theorem sameK10 (h g : Hs) (L X : Nat → List (List Value)) (w : World) (hh : HT h L w) (hg : HT g X w) {b : Bool} (hb : b = true ↔ L 10 = X 10) : SameK Tryz.prog 51 h g w 10 b :=
  sameK_of (fun W hW => sameParcel _ _ _ _ _ _ (L 10) (X 10) W ((hh 10 (by decide)).1) ((hg 10 (by decide)).1) ((hh 10 (by decide)).2.1) ((hh 10 (by decide)).2.2.1) ((hg 10 (by decide)).2.2.1) (((hh.below hW) 10 (by decide)).2.2.2) (((hg.below hW) 10 (by decide)).2.2.2)) hb
theorem sameK11 (h g : Hs) (L X : Nat → List (List Value)) (w : World) (hh : HT h L w) (hg : HT g X w) {b : Bool} (hb : b = true ↔ L 11 = X 11) : SameK Tryz.prog 52 h g w 11 b :=
  sameK_of (fun W hW => sameSent _ _ _ _ _ _ (L 11) (X 11) W ((hh 11 (by decide)).1) ((hg 11 (by decide)).1) ((hh 11 (by decide)).2.1) ((hh 11 (by decide)).2.2.1) ((hg 11 (by decide)).2.2.1) (((hh.below hW) 11 (by decide)).2.2.2) (((hg.below hW) 11 (by decide)).2.2.2)) hb
theorem sameK12 (h g : Hs) (L X : Nat → List (List Value)) (w : World) (hh : HT h L w) (hg : HT g X w) {b : Bool} (hb : b = true ↔ L 12 = X 12) : SameK Tryz.prog 53 h g w 12 b :=
  sameK_of (fun W hW => sameCounted _ _ _ _ _ _ (L 12) (X 12) W ((hh 12 (by decide)).1) ((hg 12 (by decide)).1) ((hh 12 (by decide)).2.1) ((hh 12 (by decide)).2.2.1) ((hg 12 (by decide)).2.2.1) (((hh.below hW) 12 (by decide)).2.2.2) (((hg.below hW) 12 (by decide)).2.2.2)) hb
theorem sameK13 (h g : Hs) (L X : Nat → List (List Value)) (w : World) (hh : HT h L w) (hg : HT g X w) {b : Bool} (hb : b = true ↔ L 13 = X 13) : SameK Tryz.prog 54 h g w 13 b :=
  sameK_of (fun W hW => sameTotal _ _ _ _ _ _ (L 13) (X 13) W ((hh 13 (by decide)).1) ((hg 13 (by decide)).1) ((hh 13 (by decide)).2.1) ((hh 13 (by decide)).2.2.1) ((hg 13 (by decide)).2.2.1) (((hh.below hW) 13 (by decide)).2.2.2) (((hg.below hW) 13 (by decide)).2.2.2)) hb
theorem sames_not {h g : Hs} {L X : Nat → List (List Value)} (i : Nat) (hi : i < 14) (hc : ¬ L i = X i) : (false = true ↔ SameP h g L X) := ⟨fun e => (by cases e), fun hs => absurd (hs.1 i hi) hc⟩
theorem sames_calls (h g : Hs) (L X : Nat → List (List Value)) (w : World) (hh : HT h L w) (hg : HT g X w) : Calls Tryz.prog 12 #[h.val, g.val] w fun e w' => (∃ b : Bool, e = .returned (.bool b) ∧ (b = true ↔ SameP h g L X)) ∧ Below w.heap.size w w' := by
  by_cases h0 : L 0 = X 0
  case neg => exact (sames_at0 h g w (sameK0 h g L X w hh hg (by simpa using h0))).mono fun e w' he => ⟨⟨false, he.1, sames_not 0 (by decide) h0⟩, he.2⟩
  by_cases h1 : L 1 = X 1
  case neg => exact (sames_at1 h g w (sameK0 h g L X w hh hg (by simpa using h0)) (sameK1 h g L X w hh hg (by simpa using h1))).mono fun e w' he => ⟨⟨false, he.1, sames_not 1 (by decide) h1⟩, he.2⟩
  by_cases h2 : L 2 = X 2
  case neg => exact (sames_at2 h g w (sameK0 h g L X w hh hg (by simpa using h0)) (sameK1 h g L X w hh hg (by simpa using h1)) (sameK2 h g L X w hh hg (by simpa using h2))).mono fun e w' he => ⟨⟨false, he.1, sames_not 2 (by decide) h2⟩, he.2⟩
  by_cases h3 : L 3 = X 3
  case neg => exact (sames_at3 h g w (sameK0 h g L X w hh hg (by simpa using h0)) (sameK1 h g L X w hh hg (by simpa using h1)) (sameK2 h g L X w hh hg (by simpa using h2)) (sameK3 h g L X w hh hg (by simpa using h3))).mono fun e w' he => ⟨⟨false, he.1, sames_not 3 (by decide) h3⟩, he.2⟩
  by_cases h4 : L 4 = X 4
  case neg => exact (sames_at4 h g w (sameK0 h g L X w hh hg (by simpa using h0)) (sameK1 h g L X w hh hg (by simpa using h1)) (sameK2 h g L X w hh hg (by simpa using h2)) (sameK3 h g L X w hh hg (by simpa using h3)) (sameK4 h g L X w hh hg (by simpa using h4))).mono fun e w' he => ⟨⟨false, he.1, sames_not 4 (by decide) h4⟩, he.2⟩
  by_cases h5 : L 5 = X 5
  case neg => exact (sames_at5 h g w (sameK0 h g L X w hh hg (by simpa using h0)) (sameK1 h g L X w hh hg (by simpa using h1)) (sameK2 h g L X w hh hg (by simpa using h2)) (sameK3 h g L X w hh hg (by simpa using h3)) (sameK4 h g L X w hh hg (by simpa using h4)) (sameK5 h g L X w hh hg (by simpa using h5))).mono fun e w' he => ⟨⟨false, he.1, sames_not 5 (by decide) h5⟩, he.2⟩
  by_cases h6 : L 6 = X 6
  case neg => exact (sames_at6 h g w (sameK0 h g L X w hh hg (by simpa using h0)) (sameK1 h g L X w hh hg (by simpa using h1)) (sameK2 h g L X w hh hg (by simpa using h2)) (sameK3 h g L X w hh hg (by simpa using h3)) (sameK4 h g L X w hh hg (by simpa using h4)) (sameK5 h g L X w hh hg (by simpa using h5)) (sameK6 h g L X w hh hg (by simpa using h6))).mono fun e w' he => ⟨⟨false, he.1, sames_not 6 (by decide) h6⟩, he.2⟩
  by_cases h7 : L 7 = X 7
  case neg => exact (sames_at7 h g w (sameK0 h g L X w hh hg (by simpa using h0)) (sameK1 h g L X w hh hg (by simpa using h1)) (sameK2 h g L X w hh hg (by simpa using h2)) (sameK3 h g L X w hh hg (by simpa using h3)) (sameK4 h g L X w hh hg (by simpa using h4)) (sameK5 h g L X w hh hg (by simpa using h5)) (sameK6 h g L X w hh hg (by simpa using h6)) (sameK7 h g L X w hh hg (by simpa using h7))).mono fun e w' he => ⟨⟨false, he.1, sames_not 7 (by decide) h7⟩, he.2⟩
  by_cases h8 : L 8 = X 8
  case neg => exact (sames_at8 h g w (sameK0 h g L X w hh hg (by simpa using h0)) (sameK1 h g L X w hh hg (by simpa using h1)) (sameK2 h g L X w hh hg (by simpa using h2)) (sameK3 h g L X w hh hg (by simpa using h3)) (sameK4 h g L X w hh hg (by simpa using h4)) (sameK5 h g L X w hh hg (by simpa using h5)) (sameK6 h g L X w hh hg (by simpa using h6)) (sameK7 h g L X w hh hg (by simpa using h7)) (sameK8 h g L X w hh hg (by simpa using h8))).mono fun e w' he => ⟨⟨false, he.1, sames_not 8 (by decide) h8⟩, he.2⟩
  by_cases h9 : L 9 = X 9
  case neg => exact (sames_at9 h g w (sameK0 h g L X w hh hg (by simpa using h0)) (sameK1 h g L X w hh hg (by simpa using h1)) (sameK2 h g L X w hh hg (by simpa using h2)) (sameK3 h g L X w hh hg (by simpa using h3)) (sameK4 h g L X w hh hg (by simpa using h4)) (sameK5 h g L X w hh hg (by simpa using h5)) (sameK6 h g L X w hh hg (by simpa using h6)) (sameK7 h g L X w hh hg (by simpa using h7)) (sameK8 h g L X w hh hg (by simpa using h8)) (sameK9 h g L X w hh hg (by simpa using h9))).mono fun e w' he => ⟨⟨false, he.1, sames_not 9 (by decide) h9⟩, he.2⟩
  by_cases h10 : L 10 = X 10
  case neg => exact (sames_at10 h g w (sameK0 h g L X w hh hg (by simpa using h0)) (sameK1 h g L X w hh hg (by simpa using h1)) (sameK2 h g L X w hh hg (by simpa using h2)) (sameK3 h g L X w hh hg (by simpa using h3)) (sameK4 h g L X w hh hg (by simpa using h4)) (sameK5 h g L X w hh hg (by simpa using h5)) (sameK6 h g L X w hh hg (by simpa using h6)) (sameK7 h g L X w hh hg (by simpa using h7)) (sameK8 h g L X w hh hg (by simpa using h8)) (sameK9 h g L X w hh hg (by simpa using h9)) (sameK10 h g L X w hh hg (by simpa using h10))).mono fun e w' he => ⟨⟨false, he.1, sames_not 10 (by decide) h10⟩, he.2⟩
  by_cases h11 : L 11 = X 11
  case neg => exact (sames_at11 h g w (sameK0 h g L X w hh hg (by simpa using h0)) (sameK1 h g L X w hh hg (by simpa using h1)) (sameK2 h g L X w hh hg (by simpa using h2)) (sameK3 h g L X w hh hg (by simpa using h3)) (sameK4 h g L X w hh hg (by simpa using h4)) (sameK5 h g L X w hh hg (by simpa using h5)) (sameK6 h g L X w hh hg (by simpa using h6)) (sameK7 h g L X w hh hg (by simpa using h7)) (sameK8 h g L X w hh hg (by simpa using h8)) (sameK9 h g L X w hh hg (by simpa using h9)) (sameK10 h g L X w hh hg (by simpa using h10)) (sameK11 h g L X w hh hg (by simpa using h11))).mono fun e w' he => ⟨⟨false, he.1, sames_not 11 (by decide) h11⟩, he.2⟩
  by_cases h12 : L 12 = X 12
  case neg => exact (sames_at12 h g w (sameK0 h g L X w hh hg (by simpa using h0)) (sameK1 h g L X w hh hg (by simpa using h1)) (sameK2 h g L X w hh hg (by simpa using h2)) (sameK3 h g L X w hh hg (by simpa using h3)) (sameK4 h g L X w hh hg (by simpa using h4)) (sameK5 h g L X w hh hg (by simpa using h5)) (sameK6 h g L X w hh hg (by simpa using h6)) (sameK7 h g L X w hh hg (by simpa using h7)) (sameK8 h g L X w hh hg (by simpa using h8)) (sameK9 h g L X w hh hg (by simpa using h9)) (sameK10 h g L X w hh hg (by simpa using h10)) (sameK11 h g L X w hh hg (by simpa using h11)) (sameK12 h g L X w hh hg (by simpa using h12))).mono fun e w' he => ⟨⟨false, he.1, sames_not 12 (by decide) h12⟩, he.2⟩
  by_cases h13 : L 13 = X 13
  case neg => exact (sames_at13 h g w (sameK0 h g L X w hh hg (by simpa using h0)) (sameK1 h g L X w hh hg (by simpa using h1)) (sameK2 h g L X w hh hg (by simpa using h2)) (sameK3 h g L X w hh hg (by simpa using h3)) (sameK4 h g L X w hh hg (by simpa using h4)) (sameK5 h g L X w hh hg (by simpa using h5)) (sameK6 h g L X w hh hg (by simpa using h6)) (sameK7 h g L X w hh hg (by simpa using h7)) (sameK8 h g L X w hh hg (by simpa using h8)) (sameK9 h g L X w hh hg (by simpa using h9)) (sameK10 h g L X w hh hg (by simpa using h10)) (sameK11 h g L X w hh hg (by simpa using h11)) (sameK12 h g L X w hh hg (by simpa using h12)) (sameK13 h g L X w hh hg (by simpa using h13))).mono fun e w' he => ⟨⟨false, he.1, sames_not 13 (by decide) h13⟩, he.2⟩
  have hs : ∀ i, i < 14 → L i = X i := fun i hi => by
    match i, hi with
    | 0, _ => exact h0
    | 1, _ => exact h1
    | 2, _ => exact h2
    | 3, _ => exact h3
    | 4, _ => exact h4
    | 5, _ => exact h5
    | 6, _ => exact h6
    | 7, _ => exact h7
    | 8, _ => exact h8
    | 9, _ => exact h9
    | 10, _ => exact h10
    | 11, _ => exact h11
    | 12, _ => exact h12
    | 13, _ => exact h13
    | i + 14, hi => omega
  by_cases hz : h.z = g.z
  · exact (sames_at15 h g w (sameK0 h g L X w hh hg (by simpa using h0)) (sameK1 h g L X w hh hg (by simpa using h1)) (sameK2 h g L X w hh hg (by simpa using h2)) (sameK3 h g L X w hh hg (by simpa using h3)) (sameK4 h g L X w hh hg (by simpa using h4)) (sameK5 h g L X w hh hg (by simpa using h5)) (sameK6 h g L X w hh hg (by simpa using h6)) (sameK7 h g L X w hh hg (by simpa using h7)) (sameK8 h g L X w hh hg (by simpa using h8)) (sameK9 h g L X w hh hg (by simpa using h9)) (sameK10 h g L X w hh hg (by simpa using h10)) (sameK11 h g L X w hh hg (by simpa using h11)) (sameK12 h g L X w hh hg (by simpa using h12)) (sameK13 h g L X w hh hg (by simpa using h13)) (by simpa using hz)).mono fun e w' he => ⟨⟨true, he.1, fun _ => ⟨hs, hz⟩, fun _ => rfl⟩, he.2⟩
  · exact (sames_at14 h g w (sameK0 h g L X w hh hg (by simpa using h0)) (sameK1 h g L X w hh hg (by simpa using h1)) (sameK2 h g L X w hh hg (by simpa using h2)) (sameK3 h g L X w hh hg (by simpa using h3)) (sameK4 h g L X w hh hg (by simpa using h4)) (sameK5 h g L X w hh hg (by simpa using h5)) (sameK6 h g L X w hh hg (by simpa using h6)) (sameK7 h g L X w hh hg (by simpa using h7)) (sameK8 h g L X w hh hg (by simpa using h8)) (sameK9 h g L X w hh hg (by simpa using h9)) (sameK10 h g L X w hh hg (by simpa using h10)) (sameK11 h g L X w hh hg (by simpa using h11)) (sameK12 h g L X w hh hg (by simpa using h12)) (sameK13 h g L X w hh hg (by simpa using h13)) (by simpa using hz)).mono fun e w' he => ⟨⟨false, he.1, fun e => (by cases e), fun hp => absurd hp.2 hz⟩, he.2⟩
end Go.Proofs.YtjphjblcahadkaaGreat
