/-
 A HOUSE in memory: its lists, their things, its cells.
-/
import Derived.Test.YtlkmccmbpnbgbaaGreatHA
import Derived.Laws.MakeOwn
import Derived.Laws.Rows
import Derived.Deep.RegionHeld3
namespace Go.Proofs.YtlkmccmbpnbgbaaGreat
set_option linter.unusedVariables false
open Go.RowKit

/-- A house's lists and its last task's number. -/
structure Hs where
 A : Nat → Option Addr
 n : Nat → Nat
 c : Nat → Nat
 z : Int
def Hs.val (h : Hs) : Value := .agg #[.slice (h.A 0) (h.n 0) (h.c 0), .slice (h.A 1) (h.n 1) (h.c 1), .slice (h.A 2) (h.n 2) (h.c 2), .slice (h.A 3) (h.n 3) (h.c 3), .slice (h.A 4) (h.n 4) (h.c 4), .slice (h.A 5) (h.n 5) (h.c 5), .slice (h.A 6) (h.n 6) (h.c 6), .slice (h.A 7) (h.n 7) (h.c 7), .slice (h.A 8) (h.n 8) (h.c 8), .slice (h.A 9) (h.n 9) (h.c 9), .slice (h.A 10) (h.n 10) (h.c 10), .slice (h.A 11) (h.n 11) (h.c 11), .slice (h.A 12) (h.n 12) (h.c 12), .slice (h.A 13) (h.n 13) (h.c 13), .int .i64 h.z]
/-- How long each list may be. -/
def capOf : Nat → Nat
 | 0 => 80
 | 1 => 160
 | 2 => 40
 | 3 => 80
 | 4 => 300
 | 5 => 60
 | 6 => 60
 | 7 => 60
 | 8 => 160
 | 9 => 160
 | 10 => 80
 | 11 => 160
 | 12 => 120
 | 13 => 300
 | _ => 0
def Hs.small (h : Hs) : Prop := ∀ i, i < 14 → h.n i ≤ capOf i
theorem fits_one : ∀ {ks : List CK} {vs : List Value}, Fits ks vs → ∀ u ∈ vs, u.oneCell' = true
 | [], [], _ => fun u hu => by cases hu
 | k :: ks, v :: vs, h => fun u hu => by
  rcases List.mem_cons.1 hu with rfl | hu
  · cases k <;> (obtain ⟨z, rfl⟩ := h.1; rfl)
  · exact fits_one h.2 u hu
 | [], _ :: _, h => h.elim
 | _ :: _, [], h => h.elim
theorem things_one {ks : List CK} {L : List (List Value)} (h : Things ks L) : ∀ u ∈ L.flatten, u.oneCell' = true := fun u hu => by
 obtain ⟨e, he, hu⟩ := List.mem_flatten.1 hu
 exact fits_one (h e he) u hu
/-- What the things of a house's i'th list are made of. -/
def kOf : Nat → List CK
 | 0 => kItem
 | 1 => kLot
 | 2 => kZone
 | 3 => kBin
 | 4 => kQuant
 | 5 => kRule
 | 6 => kNotice
 | 7 => kOrder
 | 8 => kClaim
 | 9 => kTask
 | 10 => kParcel
 | 11 => kSent
 | 12 => kCounted
 | _ => kTotal
/-- A house in memory: its lists' things. -/
def HT (h : Hs) (L : Nat → List (List Value)) (w : World) : Prop := ∀ i, i < 14 → h.n i = (L i).length ∧ h.n i ≤ 1000000 ∧ Things (kOf i) (L i) ∧ Rd w w.heap.size (h.A i) (L i).flatten
theorem HT.below {h : Hs} {L : Nat → List (List Value)} {w W : World} (H : HT h L w) (hb : Below w.heap.size w W) : HT h L W := fun i hi => ⟨(H i hi).1, (H i hi).2.1, (H i hi).2.2.1, ((H i hi).2.2.2.below hb).mono hb.size⟩
def Hs.cells (h : Hs) : Array Value := #[.slice (h.A 0) (h.n 0) (h.c 0), .slice (h.A 1) (h.n 1) (h.c 1), .slice (h.A 2) (h.n 2) (h.c 2), .slice (h.A 3) (h.n 3) (h.c 3), .slice (h.A 4) (h.n 4) (h.c 4), .slice (h.A 5) (h.n 5) (h.c 5), .slice (h.A 6) (h.n 6) (h.c 6), .slice (h.A 7) (h.n 7) (h.c 7), .slice (h.A 8) (h.n 8) (h.c 8), .slice (h.A 9) (h.n 9) (h.c 9), .slice (h.A 10) (h.n 10) (h.c 10), .slice (h.A 11) (h.n 11) (h.c 11), .slice (h.A 12) (h.n 12) (h.c 12), .slice (h.A 13) (h.n 13) (h.c 13), .int .i64 h.z]
def Hs.zero : Array Value := #[.slice none 0 0, .slice none 0 0, .slice none 0 0, .slice none 0 0, .slice none 0 0, .slice none 0 0, .slice none 0 0, .slice none 0 0, .slice none 0 0, .slice none 0 0, .slice none 0 0, .slice none 0 0, .slice none 0 0, .slice none 0 0, .int .i64 0]
/-- A list of a house in another place. -/
def Hs.set (a : Hs) (k : Nat) (A : Option Addr) (n c : Nat) : Hs := ⟨fun i => if i = k then A else a.A i, fun i => if i = k then n else a.n i, fun i => if i = k then c else a.c i, a.z⟩
theorem Hs.set_cells (a : Hs) (A : Option Addr) (n c : Nat) : ∀ k, k < 14 → (a.set k A n c).cells = a.cells.setIfInBounds k (.slice A n c) := fun k hk => by
 match k, hk with
 | 0, _ => rfl
 | 1, _ => rfl
 | 2, _ => rfl
 | 3, _ => rfl
 | 4, _ => rfl
 | 5, _ => rfl
 | 6, _ => rfl
 | 7, _ => rfl
 | 8, _ => rfl
 | 9, _ => rfl
 | 10, _ => rfl
 | 11, _ => rfl
 | 12, _ => rfl
 | 13, _ => rfl
 | i + 14, hi => omega
theorem Rd.box {w : World} {bx j g : Nat} {v : Value} {xs : List Value} (h : Rd w w.heap.size (some ⟨g, 0, none⟩) xs) (hg : g ≠ bx) : Rd (w.setCell ⟨bx, j, none⟩ v) (w.setCell ⟨bx, j, none⟩ v).heap.size (some ⟨g, 0, none⟩) xs := fun hx => by
 obtain ⟨b, off, hb, hlt, hc⟩ := h hx
 injection hb with hb
 injection hb with h1 h2 _
 subst h1 h2
 exact ⟨g, 0, rfl, by simpa [World.setCell] using hlt, fun i u hu => (World.cell?_of_block (block_setCell_other hg v)).trans (hc i u hu)⟩
theorem Rd.row {w : World} {bx g : Nat} {cs : Array Value} {xs : List Value} (h : Rd w w.heap.size (some ⟨g, 0, none⟩) xs) (hg : g ≠ bx) : Rd (w.setRow bx cs) (w.setRow bx cs).heap.size (some ⟨g, 0, none⟩) xs := fun hx => by
 obtain ⟨b, off, hb, hlt, hc⟩ := h hx
 injection hb with hb
 injection hb with h1 h2 _
 subst h1 h2
 exact ⟨g, 0, rfl, by simpa using hlt, fun i u hu => (World.cell?_of_block (setRow_other w bx g cs hg)).trans (hc i u hu)⟩
def fitsB : List CK → List Value → Bool
 | [], [] => true
 | .i :: ks, .int .i64 _ :: vs => fitsB ks vs
 | .s :: ks, .string _ :: vs => fitsB ks vs
 | .b :: ks, .bool _ :: vs => fitsB ks vs
 | _, _ => false
theorem fits_of : ∀ {ks : List CK} {vs : List Value}, fitsB ks vs = true → Fits ks vs
 | [], [], _ => trivial
 | .i :: ks, .int .i64 z :: vs, h => ⟨⟨z, rfl⟩, fits_of (ks := ks) (vs := vs) h⟩
 | .s :: ks, .string d :: vs, h => ⟨⟨d, rfl⟩, fits_of (ks := ks) (vs := vs) h⟩
 | .b :: ks, .bool c :: vs, h => ⟨⟨c, rfl⟩, fits_of (ks := ks) (vs := vs) h⟩
/-- A piece of code that comes to one end. -/
theorem region_to {P : Program} {c : Code} {Q : Exit → Act → World → Prop} {a : Act} {w : World} {A : Act} {W : World} (h : c.wp P (fun e a' w' => e = .normal ∧ a' = A ∧ w' = W) a w) (hq : Q .normal A W) : c.wp P Q a w :=
 Code.wp_mono (fun e a' w' => (by rintro ⟨rfl, rfl, rfl⟩; exact hq)) h
theorem cap_le (i : Nat) (hi : i < 14) : capOf i ≤ 1000 := by
 match i, hi with
 | 0, _ => decide
 | 1, _ => decide
 | 2, _ => decide
 | 3, _ => decide
 | 4, _ => decide
 | 5, _ => decide
 | 6, _ => decide
 | 7, _ => decide
 | 8, _ => decide
 | 9, _ => decide
 | 10, _ => decide
 | 11, _ => decide
 | 12, _ => decide
 | 13, _ => decide
 | i + 14, hi => omega
theorem info_thing {P : Program} {T : TypeId} {sz : Nat} (h : (P.info? T).map (fun i => (i.size, i.zero.map (·.cells.size), decide (i.bytes ≤ 1000))) = some (sz, some sz, true)) :
 ∃ i z, P.info? T = some i ∧ i.zero = some z ∧ i.size = sz ∧ z.cells.size = sz ∧ i.bytes ≤ 1000 := by
 cases hq : P.info? T with
 | none => rw [hq] at h; cases h
 | some i =>
  rw [hq] at h
  simp at h
  obtain ⟨h1, ⟨z, h2, h3⟩, h4⟩ := h
  exact ⟨i, z, rfl, h2, h1, h3, h4⟩
theorem own_zero {w : World} {base sz n c : Nat} {e : TypeId} {A : Option Addr} {xs : List Value} (h : w.ownsRow base e sz (.slice A (0 + n) c) (0 + n) ([] ++ xs)) (bh : List Value) : (w.alloc (.cells bh.toArray e)).ownsRow base e sz (.slice A n c) n xs := by
 rw [Nat.zero_add, List.nil_append] at h
 exact h.alloc _
theorem rd_one (w : World) (bh : List Value) (e : TypeId) : Rd (w.alloc (.cells bh.toArray e)) (w.heap.size + 1) (some ⟨w.heap.size, 0, none⟩) bh := fun _ => ⟨w.heap.size, 0, rfl, by omega, fun j u hu => by
 rw [Nat.zero_add, cell_of_row _ _ j bh.toArray e (0, 0) (heap_alloc_new _ _)]
 simpa using hu⟩
end Go.Proofs.YtlkmccmbpnbgbaaGreat
