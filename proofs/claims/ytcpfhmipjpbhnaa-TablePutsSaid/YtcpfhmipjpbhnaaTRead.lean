/-
  WORDS: a slice value that reads as a list of cells; pairs as cells.
-/
import Derived.Test.YtcpfhmipjpbhnaaRows
import Derived.Test.YtcpfhmipjpbhnaaTPlain
import Derived.WalkKit
import Derived.WalkSmall
import Derived.Lib.Hide
import Derived.Laws.OwnMore
import Derived.Deep.Draws
namespace Go.Proofs.Ytcpfhmipjpbhnaa
open Go.RowKit

/-- At the slice's address A lie the cells xs, below block B. -/
def Rd (w : World) (B : Nat) (A : Option Addr) (xs : List Value) : Prop :=
  0 < xs.length → ∃ b off, A = some ⟨b, off, none⟩ ∧ b < B ∧ ∀ (j : Nat) (u : Value), xs[j]? = some u → w.cell? ⟨b, off + j, none⟩ = some u

section
variable {w w' : World} {B B' : Nat} {A : Option Addr} {xs ys : List Value}
theorem Rd.none_ : Rd w B A [] := fun h => absurd h (by simp)
theorem Rd.mono (h : Rd w B A xs) (hB : B ≤ B') : Rd w B' A xs := fun hx => by
  obtain ⟨b, off, e, hb, hc⟩ := h hx
  exact ⟨b, off, e, by omega, hc⟩
theorem Rd.keep (h : Rd w B A xs) (hk : ∀ b i, b < B → w'.cell? ⟨b, i, none⟩ = w.cell? ⟨b, i, none⟩) : Rd w' B A xs := fun hx => by
  obtain ⟨b, off, e, hb, hc⟩ := h hx
  exact ⟨b, off, e, hb, fun j u hu => (hk _ _ hb).trans (hc j u hu)⟩
theorem Rd.below (h : Rd w B A xs) (hb : Below B w w') : Rd w' B A xs := h.keep fun b i hp => hb.cell (p := ⟨b, i, none⟩) hp
theorem Rd.take (h : Rd w B A (xs ++ ys)) : Rd w B A xs := fun hx => by
  obtain ⟨b, off, e, hb, hc⟩ := h (by rw [List.length_append]; omega)
  refine ⟨b, off, e, hb, fun j u hu => hc j u ?_⟩
  have : j < xs.length := (List.getElem?_eq_some_iff.1 hu).1
  rw [List.getElem?_append_left this]; exact hu
/-- Behind a cut: what lies from k cells on. -/
theorem Rd.drop (h : Rd w B A xs) (k : Nat) : Rd w B (A.map (·.add k)) (xs.drop k) := fun hx => by
  rw [List.length_drop] at hx
  obtain ⟨b, off, rfl, hb, hc⟩ := h (by omega)
  refine ⟨b, off + k, by simp [Addr.add_lit], hb, fun j u hu => ?_⟩
  rw [Nat.add_assoc]
  exact hc _ u (by rw [← hu, List.getElem?_drop])
/-- Behind a cut s[k:], as the model spells its address. -/
def cutA (A : Option Addr) (cap c k : Nat) : Option Addr := if cap = c then A else A.map (·.add (c * k))
theorem Rd.cut (h : Rd w B A xs) (k c cap : Nat) (hcap : cap = c → xs.length ≤ c * k) :
    Rd w B (cutA A cap c k) (xs.drop (c * k)) := fun hd => by
  rw [List.length_drop] at hd
  unfold cutA
  rw [if_neg (fun e => by have := hcap e; omega)]
  exact h.drop (c * k) (by rw [List.length_drop]; omega)
theorem Rd.of_own {base size n c : Nat} {e : TypeId} (h : w.ownsRow base e size (.slice A n c) n xs) : Rd w w.heap.size A xs := fun hx => by
  rcases h.2 with ⟨_, rfl⟩ | ⟨g, cap, cur, hv, _, hh, hnc, _, hs, ht⟩
  · have := h.1; omega
  · have hA : A = some ⟨g, 0, none⟩ := by injection hv
    subst hA
    refine ⟨g, 0, rfl, lt_of_block hh, fun j u hu => ?_⟩
    rw [Nat.zero_add, cell_of_row w g j cur e (0, 0) hh]
    rw [← ht] at hu
    have hj : j < n * size := by
      have := (List.getElem?_eq_some_iff.1 hu).1
      rw [List.length_take] at this; omega
    rw [List.getElem?_take_of_lt hj] at hu
    rw [← hu, Array.getElem?_toList]
end

theorem run_cut {P : Program} (t e : TypeId) (s : Nat) (i : TypeInfo) (ht : P.underlying t = some (.slice e)) (hi : P.info? e = some i) (hs : i.size = s) (A : Option Addr) (n c j : Nat) (hj : j ≤ n) (w : World) :
    (Instr.sliceAt t (.slice A n c) (some (.int .i64 (j : Int))) none none).run P w = .ok (.slice (cutA A c j s) (n - j) (c - j)) w := by
  have he : P.elem t = e := by simp [Program.elem, ht]
  have ht' : P.underlying t = some (.slice (P.elem t)) := by rw [he]; exact ht
  rw [run_sliceAt_slice (h := ht'), run_slice_l (ht := ht') (h0 := by omega) (h1 := by omega), he]
  simp [sizeOf, typeInfo, hi, hs, sliced, cutA, Result.andThen]
/-- Pairs as cells. -/
def pc (l : List Pl.Pr) : List Value := l.flatMap fun p => [.string p.1, .int .i64 p.2]
theorem pc_nil : pc [] = [] := rfl
theorem pc_cons (p : Pl.Pr) (l : List Pl.Pr) : pc (p :: l) = .string p.1 :: .int .i64 p.2 :: pc l := rfl
theorem pc_append (a b : List Pl.Pr) : pc (a ++ b) = pc a ++ pc b := by simp [pc]
theorem pc_length (l : List Pl.Pr) : (pc l).length = l.length * 2 := by
  induction l with
  | nil => rfl
  | cons p l ih => rw [pc_cons]; simp only [List.length_cons, ih]; omega
theorem pc_at0 (l : List Pl.Pr) (i : Nat) (h : i < l.length) : (pc l)[i * 2]? = some (.string l[i].1) := by
  induction l generalizing i with
  | nil => simp at h
  | cons p l ih =>
    rw [pc_cons]
    cases i with
    | zero => rfl
    | succ i =>
      rw [show (i + 1) * 2 = i * 2 + 1 + 1 from by omega, List.getElem?_cons_succ, List.getElem?_cons_succ]
      exact ih i (by simpa using h)
theorem pc_at1 (l : List Pl.Pr) (i : Nat) (h : i < l.length) : (pc l)[i * 2 + 1]? = some (.int .i64 l[i].2) := by
  induction l generalizing i with
  | nil => simp at h
  | cons p l ih =>
    rw [pc_cons]
    cases i with
    | zero => rfl
    | succ i =>
      rw [show (i + 1) * 2 + 1 = i * 2 + 1 + 1 + 1 from by omega, List.getElem?_cons_succ, List.getElem?_cons_succ]
      exact ih i (by simpa using h)
theorem pc_take (l : List Pl.Pr) (k : Nat) : pc (l.take k) = (pc l).take (k * 2) := by
  induction l generalizing k with
  | nil => simp [pc_nil]
  | cons p l ih =>
    cases k with
    | zero => simp [pc_nil]
    | succ k => rw [List.take_succ_cons, pc_cons, pc_cons, ih k, show (k + 1) * 2 = k * 2 + 1 + 1 from by omega, List.take_succ_cons, List.take_succ_cons]
theorem pc_drop (l : List Pl.Pr) (k : Nat) : pc (l.drop k) = (pc l).drop (k * 2) := by
  induction l generalizing k with
  | nil => simp [pc_nil]
  | cons p l ih =>
    cases k with
    | zero => simp
    | succ k => rw [List.drop_succ_cons, pc_cons, ih k, show (k + 1) * 2 = k * 2 + 1 + 1 from by omega, List.drop_succ_cons, List.drop_succ_cons]

theorem Rd.tk {w : World} {B : Nat} {A : Option Addr} {l : List Pl.Pr} (h : Rd w B A (pc l)) (k : Nat) : Rd w B A (pc (l.take k)) := by
  have : pc l = pc (l.take k) ++ pc (l.drop k) := by rw [← pc_append, List.take_append_drop]
  rw [this] at h
  exact h.take
/-- One pair in a block of its own. -/
theorem Rd.one (w : World) (s : ByteArray) (n : Int) (t : TypeId) : Rd (w.alloc (.cells #[.string s, .int .i64 n] t)) (w.heap.size + 1) (some ⟨w.heap.size, 0, none⟩) (pc [(s, n)]) := fun _ => by
  refine ⟨w.heap.size, 0, rfl, by omega, fun j u hu => ?_⟩
  match j, hu with
  | 0, hu => simp [pc] at hu; subst hu; simp [go_sem]
  | 1, hu => simp [pc] at hu; subst hu; simp [go_sem]
  | j + 2, hu => simp [pc] at hu
/-- One element's two cells, at its place. -/
theorem Rd.pair {w : World} {B : Nat} {A : Option Addr} {l : List Pl.Pr} (h : Rd w B A (pc l)) {i : Nat} (hi : i < l.length) :
    ∃ b off, A = some ⟨b, off, none⟩ ∧ b < B ∧ ∀ j (hj : j < l.length), w.cell? ⟨b, off + j * 2, none⟩ = some (.string l[j].1) ∧ w.cell? ⟨b, off + j * 2 + 1, none⟩ = some (.int .i64 l[j].2) := by
  obtain ⟨b, off, e, hb, hc⟩ := h (by rw [pc_length]; omega)
  exact ⟨b, off, e, hb, fun j hj => ⟨hc _ _ (pc_at0 l j hj), by rw [Nat.add_assoc]; exact hc _ _ (pc_at1 l j hj)⟩⟩
end Go.Proofs.Ytcpfhmipjpbhnaa
