/-
  WHAT THE LAWS OF LAYER 5 ASK of the log's functions: their contracts, over a word LO for the log's own memory.
-/
import Derived.Test.YtcmeaeemjecjiaaMAt
import Derived.Test.YtcmeaeemjecjiaaFLay
import Derived.Test.YtcmeaeemjecjiaaLLook
namespace Go.Proofs.Ytcmeaeemjecjiaa
open Go.RowKit Go.Maps

/-- The sectors of a medium's files. -/
def mdT (s : St) : Pl.Md := fun f a => s.S (f : Int) (a : Int)
/-- Frames as cells, of the numbers from n on. -/
def fc (n : Nat) : List ByteArray → List Value
  | [] => []
  | d :: r => .int .i64 (n : Int) :: .string d :: fc (n + 1) r
theorem fc_length (l : List ByteArray) : ∀ n, (fc n l).length = l.length * 2 := by
  induction l with
  | nil => intro n; rfl
  | cons d r ih => intro n; simp only [fc, List.length_cons, ih]; omega
theorem fc_at0 (l : List ByteArray) : ∀ n i, i < l.length → (fc n l)[i * 2]? = some (.int .i64 ((n + i : Nat) : Int)) := by
  induction l with
  | nil => intro n i h; simp at h
  | cons d r ih =>
    intro n i h
    cases i with
    | zero => rfl
    | succ i =>
      rw [fc, show (i + 1) * 2 = i * 2 + 1 + 1 from by omega, List.getElem?_cons_succ, List.getElem?_cons_succ, ih (n + 1) i (by simpa using h), show n + 1 + i = n + (i + 1) from by omega]
theorem fc_at1 (l : List ByteArray) : ∀ n i (h : i < l.length), (fc n l)[i * 2 + 1]? = some (.string l[i]) := by
  induction l with
  | nil => intro n i h; simp at h
  | cons d r ih =>
    intro n i h
    cases i with
    | zero => rfl
    | succ i =>
      rw [fc, show (i + 1) * 2 + 1 = i * 2 + 1 + 1 + 1 from by omega, List.getElem?_cons_succ, List.getElem?_cons_succ]
      exact ih (n + 1) i (by simpa using h)

abbrev Own := World → (Nat → Prop) → Nat → Nat → Nat → Nat → List (List ByteArray) → List ByteArray → Prop

/-- A log over a medium: X, the blocks of both. -/
def LM (LO : Own) (w : World) (X : Nat → Prop) (b bl n : Nat) (s : St) (lo nn : Nat) (pre : List (List ByteArray)) (cur : List ByteArray) : Prop :=
  ∃ Y Z, M w Y b n s ∧ LO w Z b bl lo nn pre cur ∧ (∀ k, Y k → ¬ Z k) ∧ (∀ k, X k ↔ Y k ∨ Z k) ∧ Pl.Inv (mdT s) lo nn pre cur

/-- All frames. -/
def flat (pre : List (List ByteArray)) (cur : List ByteArray) : List ByteArray := (pre ++ [cur]).flatten

/-- How many sectors a file has. -/
def szN (T : Pl.Md) (f : Nat) : Nat := (List.range 16).foldl (fun m a => if (T f a).isSome then a + 1 else m) 0
def secN (T : Pl.Md) (lo k e : Nat) : Nat := ((List.range k).map fun j => szN T (lo + j)).sum + e

structure Cons (LO : Own) : Prop where
  kept : ∀ {w w' Z b bl lo nn pre cur}, LO w Z b bl lo nn pre cur → (∀ k, Z k → w'.heap[k]? = w.heap[k]?) → LO w' Z b bl lo nn pre cur
  lt : ∀ {w Z b bl lo nn pre cur}, LO w Z b bl lo nn pre cur → ∀ k, Z k → k < w.heap.size
  open_ : ∀ {w X b n s lo nn pre cur}, M w X b n s → s.off = false → Pl.Inv (mdT s) lo nn pre cur → n ≤ 500000 → nn + Pl.cnt pre + cur.length ≤ 100000 → lo + pre.length ≤ 100000 →
    Calls Try.prog 7 #[.pointer (some ⟨b, 0, none⟩)] w fun e w' => ∃ X' bl A m c, e = .returned (.tuple #[.pointer (some ⟨bl, 0, none⟩), .slice A m c, .int .i64 0]) ∧ m = (flat pre cur).length ∧ m ≤ c ∧
      Rd w' w'.heap.size A (fc nn (flat pre cur)) ∧ LM LO w' X' b bl n s lo nn pre cur ∧ Below w.heap.size w w' ∧ (∀ k, X' k → X k ∨ w.heap.size ≤ k)
  append : ∀ {w X b bl n s lo nn pre cur}, LM LO w X b bl n s lo nn pre cur → s.off = false → n ≤ 500000 → nn + Pl.cnt pre + cur.length ≤ 100000 → lo + pre.length ≤ 100000 → ∀ data : ByteArray,
    Calls Try.prog 10 #[.pointer (some ⟨bl, 0, none⟩), .string data] w fun e w' => Only X w w' ∧ ∃ X', (∀ k, X' k → X k ∨ w.heap.size ≤ k) ∧
      ((440 < data.size ∧ e = .returned (.tuple #[.int .i64 0, .int .i64 43]) ∧ LM LO w' X' b bl n s lo nn pre cur) ∨
       (data.size ≤ 440 ∧ ∃ s' pre' cur', e = .returned (.tuple #[.int .i64 ((nn + Pl.cnt pre + cur.length : Nat) : Int), .int .i64 0]) ∧ flat pre' cur' = flat pre cur ++ [data] ∧ s'.off = false ∧ s'.armed = s.armed ∧ LM LO w' X' b bl (n + 8) s' lo nn pre' cur' ∧
          (pre', cur') = if (Pl.segL (nn + Pl.cnt pre) cur).length + Pl.partsN data.size ≤ 16 then (pre, cur ++ [data]) else (pre ++ [cur], [data])) ∨
       (data.size ≤ 440 ∧ s.armed = true ∧ ∃ s', e = .returned (.tuple #[.int .i64 0, .int .i64 40]) ∧ M w' X' b (n + 8) s' ∧ Pl.Inv (mdT s') lo nn pre cur))
  trim : ∀ {w X b bl n s lo nn pre cur}, LM LO w X b bl n s lo nn pre cur → s.off = false → n ≤ 500000 → nn + Pl.cnt pre + cur.length ≤ 100000 → lo + pre.length ≤ 100000 → pre.length ≤ 900 → ∀ z : Int, Wf z →
    Calls Try.prog 12 #[.pointer (some ⟨bl, 0, none⟩), .int .i64 z] w fun e w' => Only X w w' ∧ ∃ X' i s', (∀ k, X' k → X k ∨ w.heap.size ≤ k) ∧ i ≤ pre.length ∧ (i = 0 ∨ ((nn + Pl.cnt (pre.take i) : Nat) : Int) ≤ z + 1) ∧
      ((e = .returned (.int .i64 0) ∧ s'.off = false ∧ s'.armed = s.armed ∧ LM LO w' X' b bl (n + 1000) s' (lo + i) (nn + Pl.cnt (pre.take i)) (pre.drop i) cur ∧ (i < pre.length → z + 1 < ((nn + Pl.cnt (pre.take (i + 1)) : Nat) : Int))) ∨
       (e = .returned (.int .i64 40) ∧ s.armed = true ∧ M w' X' b (n + 1000) s' ∧ Pl.Inv (mdT s') (lo + i) (nn + Pl.cnt (pre.take i)) (pre.drop i) cur))
  next : ∀ {w X b bl n s lo nn pre cur}, LM LO w X b bl n s lo nn pre cur →
    Calls Try.prog 13 #[.pointer (some ⟨bl, 0, none⟩)] w fun e w' => e = .returned (.int .i64 ((nn + Pl.cnt pre + cur.length : Nat) : Int)) ∧ Below w.heap.size w w'
  sectors : ∀ {w X b bl n s lo nn pre cur}, LM LO w X b bl n s lo nn pre cur → n ≤ 500000 → lo + pre.length ≤ 100000 →
    Calls Try.prog 16 #[.pointer (some ⟨bl, 0, none⟩)] w fun e w' => e = .returned (.int .i64 ((secN (mdT s) lo pre.length (Pl.segL (nn + Pl.cnt pre) cur).length : Nat) : Int)) ∧ Below w.heap.size w w'

section
variable {LO : Own} (C : Cons LO) {w w' : World} {X : Nat → Prop} {b bl n : Nat} {s : St} {lo nn : Nat} {pre : List (List ByteArray)} {cur : List ByteArray}
include C
theorem LM.lt (h : LM LO w X b bl n s lo nn pre cur) {k : Nat} (hk : X k) : k < w.heap.size := by
  obtain ⟨Y, Z, hm, hl, _, hX, _⟩ := h
  rcases (hX k).1 hk with h1 | h1
  · exact hm.lt h1
  · exact C.lt hl k h1
theorem LM.below (h : LM LO w X b bl n s lo nn pre cur) (hb : Below w.heap.size w w') : LM LO w' X b bl n s lo nn pre cur := by
  obtain ⟨Y, Z, hm, hl, hd, hX, hi⟩ := h
  exact ⟨Y, Z, hm.below hb, C.kept hl (fun k hk => hb.block k (C.lt hl k hk)), hd, hX, hi⟩
/-- The medium is armed beside the log. -/
theorem armL (h : LM LO w X b bl n s lo nn pre cur) (v : Int) (hv : Wf v) :
    Calls Try.prog 8 #[.pointer (some ⟨b, 0, none⟩), .int .i64 v] w fun e w' => e = .returned (.tuple #[]) ∧ LM LO w' X b bl n (armF s v) lo nn pre cur ∧ Only X w w' := by
  obtain ⟨Y, Z, hm, hl, hd, hX, hi⟩ := h
  refine (armX Y b n s v w hm hv).mono ?_
  rintro e w' ⟨he, hm', ho⟩
  exact ⟨he, ⟨Y, Z, hm', C.kept hl (fun k hk => ho.block k (C.lt hl k hk) (fun hy => hd k hy hk)), hd, hX, hi⟩, ho.mono (fun k hk _ => (hX k).2 (.inl hk))⟩
/-- Its power is on again. -/
theorem onL (h : LM LO w X b bl n s lo nn pre cur) :
    Calls Try.prog 11 #[.pointer (some ⟨b, 0, none⟩)] w fun e w' => e = .returned (.tuple #[]) ∧ LM LO w' X b bl n (onF s) lo nn pre cur ∧ Only X w w' := by
  obtain ⟨Y, Z, hm, hl, hd, hX, hi⟩ := h
  refine (onX Y b n s w hm).mono ?_
  rintro e w' ⟨he, hm', ho⟩
  exact ⟨he, ⟨Y, Z, hm', C.kept hl (fun k hk => ho.block k (C.lt hl k hk) (fun hy => hd k hy hk)), hd, hX, hi⟩, ho.mono (fun k hk _ => (hX k).2 (.inl hk))⟩
omit C in
theorem LM.med (h : LM LO w X b bl n s lo nn pre cur) : ∃ Y, M w Y b n s ∧ (∀ k, Y k → X k) ∧ Pl.Inv (mdT s) lo nn pre cur := by
  obtain ⟨Y, Z, hm, hl, hd, hX, hi⟩ := h
  exact ⟨Y, hm, fun k hk => (hX k).2 (.inl hk), hi⟩
end
end Go.Proofs.Ytcmeaeemjecjiaa
