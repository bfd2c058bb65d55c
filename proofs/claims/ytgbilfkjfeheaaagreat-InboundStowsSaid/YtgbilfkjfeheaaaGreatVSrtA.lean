/-
 PLAIN: sorted lists by a weak order; what a sort by insertion and by merging in place keeps; the first of a sorted list that is taken.
 WORDS of a sort in place: an order as a function value; things of a row in memory, two of which change places.
 CONTRACTS of slices' swapRange over things. (By wip/tools/gen_vsort.py.)
 CONTRACTS of slices' rotate over things. (By wip/tools/gen_vsort.py.)
 CONTRACTS of slices' insertion sort over things. (By wip/tools/gen_vsort.py.)
 (By wip/tools/merge.py.)
-/
import Derived.Test.YtgbilfkjfeheaaaGreatOPl
import Derived.Test.YtgbilfkjfeheaaaGreatGT
import Derived.Test.YtgbilfkjfeheaaaGreatHAppK
import Derived.Deep.RegionHeld3
import Derived.BigRegion
import Derived.Maps.RangeWalk
import Derived.IntWalk
namespace Go.Proofs.YtgbilfkjfeheaaaGreat
set_option linter.unusedVariables false
namespace Pl

/-- A list in which nothing stands ahead of what is less. -/
def Srt {α : Type} (lt : α → α → Bool) (M : List α) : Prop := M.Pairwise (fun a b => lt b a = false)
theorem Srt.nil {α : Type} {lt : α → α → Bool} : Srt lt ([] : List α) := List.Pairwise.nil
theorem Srt.one {α : Type} {lt : α → α → Bool} (x : α) : Srt lt [x] := List.pairwise_singleton _ _
theorem srt_app {α : Type} {lt : α → α → Bool} {A B : List α} : Srt lt (A ++ B) ↔ Srt lt A ∧ Srt lt B ∧ ∀ a ∈ A, ∀ b ∈ B, lt b a = false := List.pairwise_append
theorem srt_cons {α : Type} {lt : α → α → Bool} {x : α} {B : List α} : Srt lt (x :: B) ↔ (∀ b ∈ B, lt b x = false) ∧ Srt lt B := List.pairwise_cons
theorem Srt.take {α : Type} {lt : α → α → Bool} {A : List α} (h : Srt lt A) (k : Nat) : Srt lt (A.take k) := h.sublist (List.take_sublist k A)
theorem Srt.drop {α : Type} {lt : α → α → Bool} {A : List α} (h : Srt lt A) (k : Nat) : Srt lt (A.drop k) := h.sublist (List.drop_sublist k A)
theorem Srt.at {α : Type} {lt : α → α → Bool} (W : Weak lt) {A : List α} (h : Srt lt A) {i j : Nat} (hij : i ≤ j) (hj : j < A.length) : lt A[j] A[i] = false := by
 by_cases e : i = j
 · subst e; exact W.irr _
 · exact List.pairwise_iff_getElem.1 h i j (by omega) hj (by omega)
/-- x goes in between: what stands ahead is not greater, what stands behind is not less. -/
theorem srt_mid {α : Type} {lt : α → α → Bool} (W : Weak lt) {A B : List α} {x : α} (h : Srt lt (A ++ B)) (ha : ∀ a ∈ A, lt x a = false) (hb : ∀ b ∈ B, lt b x = false) : Srt lt (A ++ x :: B) := by
 obtain ⟨h1, h2, h3⟩ := srt_app.1 h
 refine srt_app.2 ⟨h1, srt_cons.2 ⟨hb, h2⟩, fun a hA b hB => ?_⟩
 rcases List.mem_cons.1 hB with rfl | hB
 · exact ha a hA
 · exact h3 a hA b hB
theorem mid_perm {α : Type} (A B : List α) (x : α) : (A ++ x :: B).Perm (x :: (A ++ B)) := List.perm_middle
/-- What is not less than what stands last is not less than what stands ahead. -/
theorem lt_last {α : Type} {lt : α → α → Bool} (W : Weak lt) {A : List α} {y v : α} (h : Srt lt (A ++ [y])) (hv : lt v y = false) : ∀ a ∈ A ++ [y], lt v a = false := by
 obtain ⟨_, _, h3⟩ := srt_app.1 h
 intro a ha
 rcases List.mem_append.1 ha with ha | ha
 · cases hq : lt v a with
   | false => rfl
   | true =>
    rcases W.nt v y a hq with h4 | h4
    · rw [hv] at h4; cases h4
    · rw [h3 a ha y (List.mem_singleton.2 rfl)] at h4; cases h4
 · rw [List.mem_singleton] at ha; subst ha; exact hv
/-- Two things change places. -/
theorem swap_at {α : Type} (P Q S : List α) (x y : α) : ((P ++ x :: (Q ++ y :: S)).set P.length y).set (P.length + 1 + Q.length) x = P ++ y :: (Q ++ x :: S) := by
 rw [List.set_append_right _ _ (by omega), Nat.sub_self, List.set_cons_zero, List.set_append_right _ _ (by omega), show P.length + 1 + Q.length - P.length = Q.length + 1 from by omega, List.set_cons_succ, List.set_append_right _ _ (by omega), Nat.sub_self, List.set_cons_zero]
/-- An insertion sort's inner round: v goes down through A; B is what it went by. -/
structure Sink {α : Type} (lt : α → α → Bool) (P S M : List α) (v : α) (A B : List α) : Prop where
 lst : M = P ++ (A ++ v :: B) ++ S
 srt : Srt lt (A ++ B)
 big : ∀ b ∈ B, lt v b = true
theorem Sink.here {α : Type} {lt : α → α → Bool} {P S M A B : List α} {v : α} (h : Sink lt P S M v A B) : ∃ hj : P.length + A.length < M.length, M[P.length + A.length] = v := by
 have := h.lst
 subst this
 exact ⟨by simp, by simp⟩
theorem Sink.below {α : Type} {lt : α → α → Bool} {P S M A B : List α} {y v : α} (h : Sink lt P S M v (A ++ [y]) B) : ∃ hj : P.length + A.length < M.length, M[P.length + A.length] = y := by
 have := h.lst
 subst this
 exact ⟨by simp, by simp⟩
theorem Sink.done {α : Type} {lt : α → α → Bool} (W : Weak lt) {P S M A B : List α} {v : α} (h : Sink lt P S M v A B) (hl : A = [] ∨ ∃ A0 y, A = A0 ++ [y] ∧ lt v y = false) : Srt lt (A ++ v :: B) := by
 refine srt_mid W h.srt ?_ (fun b hb => W.asymm (h.big b hb))
 rcases hl with rfl | ⟨A0, y, rfl, hy⟩
 · intro a ha; cases ha
 · exact lt_last W (srt_app.1 h.srt).1 hy
theorem Sink.next {α : Type} {lt : α → α → Bool} {P S M A B : List α} {y v : α} (h : Sink lt P S M v (A ++ [y]) B) (hy : lt v y = true) : Sink lt P S ((M.set (P.length + A.length + 1) y).set (P.length + A.length) v) v A (y :: B) := by
 refine ⟨?_, ?_, ?_⟩
 · have e : M = (P ++ A) ++ y :: ([] ++ v :: (B ++ S)) := by rw [h.lst]; simp
   have := swap_at (P ++ A) [] (B ++ S) y v
   rw [← e] at this
   simp only [List.length_append, List.length_nil, Nat.add_zero] at this
   rw [List.set_comm _ _ (by omega), this]
   simp
 · have := h.srt
   rw [List.append_assoc] at this
   exact this
 · intro b hb
   rcases List.mem_cons.1 hb with rfl | hb
   · exact hy
   · exact h.big b hb
/-- The halves of a merge: what goes down is not greater than what stays above. -/
theorem srt_halves {α : Type} {lt : α → α → Bool} (W : Weak lt) {L1 L2 R1 R2 C1 C2 : List α} (hL : Srt lt (L1 ++ L2)) (hR : Srt lt (R1 ++ R2)) (h1 : ∀ x ∈ L1, ∀ y ∈ R2, lt y x = false) (h2 : ∀ x ∈ R1, ∀ y ∈ L2, lt y x = false)
 (p1 : C1.Perm (L1 ++ R1)) (p2 : C2.Perm (L2 ++ R2)) (s1 : Srt lt C1) (s2 : Srt lt C2) : Srt lt (C1 ++ C2) ∧ (C1 ++ C2).Perm (L1 ++ L2 ++ (R1 ++ R2)) := by
 refine ⟨srt_app.2 ⟨s1, s2, fun x hx y hy => ?_⟩, ?_⟩
 · rcases List.mem_append.1 (p1.mem_iff.1 hx) with hx | hx <;> rcases List.mem_append.1 (p2.mem_iff.1 hy) with hy | hy
   · exact (srt_app.1 hL).2.2 x hx y hy
   · exact h1 x hx y hy
   · exact h2 x hx y hy
   · exact (srt_app.1 hR).2.2 x hx y hy
 · refine (p1.append p2).trans ?_
   rw [List.append_assoc, List.append_assoc]
   refine List.Perm.append_left L1 ?_
   rw [← List.append_assoc, ← List.append_assoc]
   exact List.Perm.append_right R2 List.perm_append_comm
/-- Runs of s things are sorted. -/
def Runs {α : Type} (lt : α → α → Bool) (s : Nat) (M : List α) : Prop := ∀ k, Srt lt ((M.drop (k * s)).take s)
theorem Runs.nil {α : Type} {lt : α → α → Bool} (s : Nat) : Runs lt s ([] : List α) := fun k => by simp; exact Srt.nil
theorem Runs.all {α : Type} {lt : α → α → Bool} {s : Nat} {M : List α} (h : Runs lt s M) (hs : M.length ≤ s) : Srt lt M := by
 have := h 0
 rw [Nat.zero_mul, List.drop_zero, List.take_of_length_le hs] at this
 exact this
theorem Runs.first {α : Type} {lt : α → α → Bool} {s : Nat} {A B : List α} (h : Runs lt s (A ++ B)) (hs : A.length = s) : Srt lt A := by
 have := h 0
 rw [Nat.zero_mul, List.drop_zero, ← hs, List.take_left] at this
 exact this
theorem Runs.rest {α : Type} {lt : α → α → Bool} {s : Nat} {A B : List α} (h : Runs lt s (A ++ B)) (hs : A.length = s) : Runs lt s B := fun k => by
 have := h (k + 1)
 rw [Nat.succ_mul, Nat.add_comm (k * s) s, ← List.drop_drop, ← hs, List.drop_left] at this
 rw [← hs]
 exact this
theorem Runs.snoc {α : Type} {lt : α → α → Bool} {s q : Nat} {X C : List α} (h : Runs lt s X) (hX : X.length = q * s) (hC : C.length ≤ s) (hs : Srt lt C) : Runs lt s (X ++ C) := fun k => by
 by_cases hk : k < q
 · have h1 : (k + 1) * s ≤ q * s := Nat.mul_le_mul_right s hk
   rw [Nat.succ_mul] at h1
   rw [List.drop_append_of_le_length (by omega), List.take_append_of_le_length (by rw [List.length_drop]; omega)]
   exact h k
 · have h1 : q * s ≤ k * s := Nat.mul_le_mul_right s (by omega)
   rw [List.drop_append, List.drop_of_length_le (by omega), List.nil_append]
   exact (hs.drop _).take _
/-- A list parted at a place. -/
theorem part_at {α : Type} (M : List α) (k : Nat) (h : k ≤ M.length) : ∃ A B, M = A ++ B ∧ A.length = k := ⟨M.take k, M.drop k, (List.take_append_drop k M).symm, by rw [List.length_take]; omega⟩
/-- The first of a sorted list, and the least, of those that p takes. -/
theorem first_best {α : Type} {lt : α → α → Bool} (W : Weak lt) {L M : List α} (hs : Srt lt M) {P : Nat → Bool} {p : α → Bool} {g : Nat → α} (hg : ∀ i (h : i < L.length), g i = L[i]) (hP : ∀ i, i < L.length → P i = p (g i)) (hsub : ∀ x ∈ M, x ∈ L) (hsup : ∀ x ∈ L, p x = true → x ∈ M) {i : Nat} (hi : i < M.length) (hpi : p M[i] = true) (hno : ∀ j (hj : j < M.length), j < i → p M[j] = false) :
 ∃ b, best (fun i j => lt (g i) (g j)) P L.length = some b ∧ b < L.length ∧ g b ∈ L ∧ lt (g b) M[i] = false ∧ lt M[i] (g b) = false ∧ p (g b) = true := by
 have WN : Weak (fun i j => lt (g i) (g j)) := W.on g
 obtain ⟨q, hq, e⟩ := List.mem_iff_getElem.1 (hsub _ (List.getElem_mem hi))
 cases hb : best (fun i j => lt (g i) (g j)) P L.length with
 | none =>
  have := best_none.1 hb q hq
  rw [hP q hq, hg q hq, e, hpi] at this
  cases this
 | some b =>
  have hl := best_lt hb
  have hm := best_min WN hb
  have hpb : p (g b) = true := by rw [← hP b hl.1]; exact hl.2
  have hgL : g b ∈ L := by rw [hg b hl.1]; exact List.getElem_mem hl.1
  refine ⟨b, rfl, hl.1, hgL, ?_, ?_, hpb⟩
  · obtain ⟨r, hr, e2⟩ := List.mem_iff_getElem.1 (hsup _ hgL hpb)
    have hir : i ≤ r := by
     rcases Nat.lt_or_ge r i with h | h
     · have := hno r hr h
       rw [e2, hpb] at this
       cases this
     · exact h
    have := hs.at W hir hr
    rw [e2] at this
    exact this
  · have := hm.1 q hq (by rw [hP q hq, hg q hq, e]; exact hpi)
    rw [hg q hq, e] at this
    exact this
theorem none_best {α : Type} {L M : List α} {P : Nat → Bool} {p : α → Bool} {g : Nat → α} (hg : ∀ i (h : i < L.length), g i = L[i]) (hP : ∀ i, i < L.length → P i = p (g i)) (hsup : ∀ x ∈ L, p x = true → x ∈ M) (hno : ∀ j (hj : j < M.length), p M[j] = false) (less : Nat → Nat → Bool) : best less P L.length = none := by
 refine best_none.2 (fun i hi => ?_)
 rw [hP i hi]
 cases hq : p (g i) with
 | false => rfl
 | true =>
  obtain ⟨r, hr, e⟩ := List.mem_iff_getElem.1 (hsup _ (by rw [hg i hi]; exact List.getElem_mem hi) hq)
  have := hno r hr
  rw [e, hq] at this
  cases this
/-- One round of a swap of two ranges. -/
def rng {α : Type} (P X Q Y S : List α) (i : Nat) : List α := P ++ ((Y.take i ++ X.drop i) ++ (Q ++ ((X.take i ++ Y.drop i) ++ S)))
theorem rng_zero {α : Type} (P X Q Y S : List α) : rng P X Q Y S 0 = P ++ (X ++ (Q ++ (Y ++ S))) := by simp [rng]
theorem rng_all {α : Type} (P X Q Y S : List α) {k : Nat} (hX : X.length = k) (hY : Y.length = k) : rng P X Q Y S k = P ++ (Y ++ (Q ++ (X ++ S))) := by
 unfold rng
 rw [List.take_of_length_le (by omega), List.take_of_length_le (by omega), List.drop_of_length_le (by omega), List.drop_of_length_le (by omega), List.append_nil, List.append_nil]
theorem part_one {α : Type} (X : List α) (i : Nat) (h : i < X.length) : ∃ A x B, X = A ++ x :: B ∧ A.length = i ∧ X.take i = A ∧ X.drop i = x :: B ∧ X.take (i + 1) = A ++ [x] ∧ X.drop (i + 1) = B := by
 refine ⟨X.take i, X[i], X.drop (i + 1), ?_, by rw [List.length_take]; omega, rfl, List.drop_eq_getElem_cons h, List.take_succ_eq_append_getElem h, rfl⟩
 rw [← List.drop_eq_getElem_cons h, List.take_append_drop]
theorem at_app {α : Type} (A B : List α) (x : α) {i : Nat} (hi : A.length = i) : ∃ h : i < (A ++ x :: B).length, (A ++ x :: B)[i] = x := by
 subst hi
 exact ⟨by simp, by simp⟩
theorem rng_at {α : Type} (P X Q Y S : List α) {k i : Nat} (hX : X.length = k) (hY : Y.length = k) (hi : i < k) : ∃ x y, ∃ h1 : P.length + i < (rng P X Q Y S i).length, ∃ h2 : P.length + k + Q.length + i < (rng P X Q Y S i).length, (rng P X Q Y S i)[P.length + i] = x ∧ (rng P X Q Y S i)[P.length + k + Q.length + i] = y ∧ ((rng P X Q Y S i).set (P.length + i) y).set (P.length + k + Q.length + i) x = rng P X Q Y S (i + 1) := by
 obtain ⟨X1, x, X2, eX, lX, x1, x2, x3, x4⟩ := part_one X i (by omega)
 obtain ⟨Y1, y, Y2, eY, lY, y1, y2, y3, y4⟩ := part_one Y i (by omega)
 have e : rng P X Q Y S i = (P ++ Y1) ++ x :: ((X2 ++ (Q ++ X1)) ++ y :: (Y2 ++ S)) := by
  unfold rng
  rw [x1, x2, y1, y2]
  simp
 have e2 : rng P X Q Y S (i + 1) = (P ++ Y1) ++ y :: ((X2 ++ (Q ++ X1)) ++ x :: (Y2 ++ S)) := by
  unfold rng
  rw [x3, x4, y3, y4]
  simp
 have l1 : (P ++ Y1).length = P.length + i := by rw [List.length_append, lY]
 have l2 : X2.length = k - i - 1 := by rw [eX] at hX; simp at hX; omega
 have l3 : (P ++ Y1).length + 1 + (X2 ++ (Q ++ X1)).length = P.length + k + Q.length + i := by simp; omega
 rw [e2]
 simp only [e]
 obtain ⟨h1, g1⟩ := at_app (P ++ Y1) ((X2 ++ (Q ++ X1)) ++ y :: (Y2 ++ S)) x l1
 obtain ⟨h2, g2⟩ := at_app ((P ++ Y1) ++ x :: (X2 ++ (Q ++ X1))) (Y2 ++ S) y (i := P.length + k + Q.length + i) (by simp; omega)
 refine ⟨x, y, h1, by simpa using h2, g1, ?_, ?_⟩
 · simpa using g2
 · have := swap_at (P ++ Y1) (X2 ++ (Q ++ X1)) (Y2 ++ S) x y
   rw [l3, l1] at this
   exact this
theorem getD_at {α : Type} (A : List α) (d : α) {i : Nat} (h : i < A.length) : A.getD i d = A[i] := by rw [List.getD_eq_getElem?_getD, List.getElem?_eq_getElem h]; rfl
/-- A place is looked for by halves: f is so ahead of lo, and not so from hi on. -/
structure Bis (f : Nat → Bool) (lo0 hi0 lo hi : Nat) : Prop where
 low : lo0 ≤ lo
 mid : lo ≤ hi
 high : hi ≤ hi0
 yes : ∀ k, lo0 ≤ k → k < lo → f k = true
 no : ∀ k, hi ≤ k → k < hi0 → f k = false
theorem Bis.start (f : Nat → Bool) {lo hi : Nat} (h : lo ≤ hi) : Bis f lo hi lo hi := ⟨Nat.le_refl _, h, Nat.le_refl _, fun k h1 h2 => by omega, fun k h1 h2 => by omega⟩
def Mono (f : Nat → Bool) (lo hi : Nat) : Prop := ∀ i j, lo ≤ i → i ≤ j → j < hi → f j = true → f i = true
theorem Bis.up {f : Nat → Bool} {lo0 hi0 lo hi k : Nat} (h : Bis f lo0 hi0 lo hi) (hm : Mono f lo0 hi0) (h1 : lo ≤ k) (h2 : k < hi) (hf : f k = true) : Bis f lo0 hi0 (k + 1) hi :=
 ⟨by have := h.low; omega, by omega, h.high, fun i hi1 hi2 => hm i k hi1 (by omega) (by have := h.high; omega) hf, h.no⟩
theorem Bis.down {f : Nat → Bool} {lo0 hi0 lo hi k : Nat} (h : Bis f lo0 hi0 lo hi) (hm : Mono f lo0 hi0) (h1 : lo ≤ k) (h2 : k < hi) (hf : f k = false) : Bis f lo0 hi0 lo k :=
 ⟨h.low, h1, by have := h.high; omega, h.yes, fun i hi1 hi2 => by
  cases hq : f i with
  | false => rfl
  | true => rw [hm k i (by have := h.low; omega) hi1 hi2 hq] at hf; cases hf⟩
theorem Weak.lt_le {α : Type} {lt : α → α → Bool} (W : Weak lt) {x y z : α} (h : lt x y = true) (hz : lt z y = false) : lt x z = true := by
 rcases W.nt x z y h with h1 | h1
 · exact h1
 · rw [hz] at h1; cases h1
theorem Weak.le_lt {α : Type} {lt : α → α → Bool} (W : Weak lt) {x y z : α} (h : lt x y = true) (hz : lt x z = false) : lt z y = true := by
 rcases W.nt x z y h with h1 | h1
 · rw [hz] at h1; cases h1
 · exact h1
theorem Srt.getD {α : Type} {lt : α → α → Bool} (W : Weak lt) {A : List α} (h : Srt lt A) (d : α) {i j : Nat} (hij : i ≤ j) (hj : j < A.length) : lt (A.getD j d) (A.getD i d) = false := by
 rw [getD_at _ _ hj, getD_at _ _ (by omega)]
 exact h.at W hij hj
theorem mono_less {α : Type} {lt : α → α → Bool} (W : Weak lt) {B : List α} (h : Srt lt B) (d x : α) : Mono (fun k => lt (B.getD k d) x) 0 B.length := fun i j _ hij hj hf => W.le_lt hf (h.getD W d hij hj)
theorem mono_geq {α : Type} {lt : α → α → Bool} (W : Weak lt) {A : List α} (h : Srt lt A) (d x : α) : Mono (fun k => !lt x (A.getD k d)) 0 A.length := fun i j _ hij hj hf => by
 simp only [Bool.not_eq_true'] at hf ⊢
 cases hq : lt x (A.getD i d) with
 | false => rfl
 | true => rw [W.lt_le hq (h.getD W d hij hj)] at hf; cases hf
theorem mono_cut {α : Type} {lt : α → α → Bool} (W : Weak lt) {A B : List α} (hA : Srt lt A) (hB : Srt lt B) (d : α) (t : Nat) (u0 u1 : Nat) (h1 : u1 ≤ A.length) (h2 : u1 ≤ t) (h3 : t - B.length ≤ u0) (hb : 0 < B.length) : Mono (fun u => !lt (B.getD (t - 1 - u) d) (A.getD u d)) u0 u1 := fun i j hi hij hj hf => by
 simp only [Bool.not_eq_true'] at hf ⊢
 cases hq : lt (B.getD (t - 1 - i) d) (A.getD i d) with
 | false => rfl
 | true =>
  have e1 := W.lt_le hq (hA.getD W d hij (by omega))
  have e2 := W.le_lt e1 (hB.getD W d (show t - 1 - j ≤ t - 1 - i from by omega) (by omega))
  rw [e2] at hf; cases hf
theorem mem_take_getD {α : Type} {A : List α} {s : Nat} {x : α} (d : α) (h : x ∈ A.take s) : ∃ i, i < s ∧ i < A.length ∧ x = A.getD i d := by
 obtain ⟨i, hi, e⟩ := List.mem_iff_getElem.1 h
 rw [List.length_take] at hi
 refine ⟨i, by omega, by omega, ?_⟩
 rw [getD_at _ _ (by omega), ← e, List.getElem_take]
theorem mem_drop_getD {α : Type} {A : List α} {s : Nat} {x : α} (d : α) (h : x ∈ A.drop s) : ∃ i, s ≤ i ∧ i < A.length ∧ x = A.getD i d := by
 obtain ⟨i, hi, e⟩ := List.mem_iff_getElem.1 h
 rw [List.length_drop] at hi
 refine ⟨s + i, by omega, by omega, ?_⟩
 rw [getD_at _ _ (by omega), ← e, List.getElem_drop]
/-- Where two sorted lists are cut for a merge in place. -/
theorem cut_ok {α : Type} {lt : α → α → Bool} (W : Weak lt) {A B : List α} (hA : Srt lt A) (hB : Srt lt B) (d : α) {t u0 u1 s : Nat} (h0 : u0 = t - B.length) (h1 : u1 = min A.length t) (ht : t ≤ A.length + B.length) (hb : 0 < B.length) (h : Bis (fun u => !lt (B.getD (t - 1 - u) d) (A.getD u d)) u0 u1 s s) :
 (∀ x ∈ A.take s, ∀ y ∈ B.drop (t - s), lt y x = false) ∧ (∀ x ∈ B.take (t - s), ∀ y ∈ A.drop s, lt y x = false) := by
 obtain ⟨hl, _, hh, hy, hn⟩ := h
 constructor
 · intro x hx y hy'
   obtain ⟨i, hi, hiA, rfl⟩ := mem_take_getD d hx
   obtain ⟨j, hj, hjB, rfl⟩ := mem_drop_getD d hy'
   have h2 := hy (s - 1) (by omega) (by omega)
   simp only [Bool.not_eq_true'] at h2
   cases hq : lt (B.getD j d) (A.getD i d) with
   | false => rfl
   | true =>
    have e1 := W.lt_le hq (hA.getD W d (show i ≤ s - 1 from by omega) (by omega))
    have e2 := W.le_lt e1 (hB.getD W d (show t - 1 - (s - 1) ≤ j from by omega) hjB)
    rw [e2] at h2; cases h2
 · intro x hx y hy'
   obtain ⟨j, hj, hjB, rfl⟩ := mem_take_getD d hx
   obtain ⟨i, hi, hiA, rfl⟩ := mem_drop_getD d hy'
   have h2 := hn s (Nat.le_refl _) (by omega)
   simp only [Bool.not_eq_false'] at h2
   refine W.asymm ?_
   have e1 := W.lt_le h2 (hA.getD W d hi hiA)
   exact W.le_lt e1 (hB.getD W d (show j ≤ t - 1 - s from by omega) (by omega))
/-- x stands in X, ahead of its k-th. -/
def ins {α : Type} (X : List α) (x : α) (k : Nat) : List α := X.take k ++ x :: X.drop k
theorem ins_perm {α : Type} (X : List α) (x : α) (k : Nat) : (ins X x k).Perm (x :: X) := by
 unfold ins
 refine List.perm_middle.trans ?_
 rw [List.take_append_drop]
theorem ins_length {α : Type} (X : List α) (x : α) (k : Nat) : (ins X x k).length = X.length + 1 := by rw [(ins_perm X x k).length_eq]; rfl
theorem ins_zero {α : Type} (X : List α) (x : α) : ins X x 0 = x :: X := rfl
theorem ins_all {α : Type} (X : List α) (x : α) : ins X x X.length = X ++ [x] := by simp [ins]
theorem ins_at {α : Type} (P X S : List α) (x : α) (k : Nat) (hk : k < X.length) : ∃ y, ∃ h1 : P.length + k < (P ++ (ins X x k ++ S)).length, ∃ h2 : P.length + k + 1 < (P ++ (ins X x k ++ S)).length, (P ++ (ins X x k ++ S))[P.length + k] = x ∧ (P ++ (ins X x k ++ S))[P.length + k + 1] = y ∧
 ((P ++ (ins X x k ++ S)).set (P.length + k) y).set (P.length + k + 1) x = P ++ (ins X x (k + 1) ++ S) ∧
 (P ++ (ins X x (k + 1) ++ S))[P.length + k]? = some y ∧ (P ++ (ins X x (k + 1) ++ S))[P.length + k + 1]? = some x ∧
 ((P ++ (ins X x (k + 1) ++ S)).set (P.length + k + 1) y).set (P.length + k) x = P ++ (ins X x k ++ S) := by
 obtain ⟨A, y, B, eX, lA, x1, x2, x3, x4⟩ := part_one X k hk
 have e : P ++ (ins X x k ++ S) = (P ++ A) ++ x :: ([] ++ y :: (B ++ S)) := by
  unfold ins
  rw [x1, x2]
  simp
 have e2 : P ++ (ins X x (k + 1) ++ S) = (P ++ A) ++ y :: ([] ++ x :: (B ++ S)) := by
  unfold ins
  rw [x3, x4]
  simp
 have l1 : (P ++ A).length = P.length + k := by rw [List.length_append, lA]
 have l3 : (P ++ A).length + 1 + ([] : List α).length = P.length + k + 1 := by rw [l1]; rfl
 rw [e2]
 simp only [e]
 obtain ⟨h1, g1⟩ := at_app (P ++ A) ([] ++ y :: (B ++ S)) x l1
 obtain ⟨h2, g2⟩ := at_app ((P ++ A) ++ [x]) (B ++ S) y (i := P.length + k + 1) (by simp; omega)
 obtain ⟨h3, g3⟩ := at_app (P ++ A) ([] ++ x :: (B ++ S)) y l1
 obtain ⟨h4, g4⟩ := at_app ((P ++ A) ++ [y]) (B ++ S) x (i := P.length + k + 1) (by simp; omega)
 refine ⟨y, h1, by simpa using h2, g1, by simpa using g2, ?_, ?_, ?_, ?_⟩
 · have := swap_at (P ++ A) [] (B ++ S) x y
   rw [l3, l1] at this
   exact this
 · rw [List.getElem?_eq_getElem h3, g3]
 · have e3 : (P ++ A ++ y :: ([] ++ x :: (B ++ S))) = (P ++ A) ++ [y] ++ x :: (B ++ S) := by simp
   rw [e3, List.getElem?_eq_getElem h4, g4]
 · have := swap_at (P ++ A) [] (B ++ S) y x
   rw [l3, l1] at this
   rw [List.set_comm _ _ (by omega)]
   exact this
theorem srt_ins1 {α : Type} {lt : α → α → Bool} (W : Weak lt) {B : List α} (h : Srt lt B) (d x : α) {i : Nat} (hb : Bis (fun k => lt (B.getD k d) x) 0 B.length i i) : Srt lt (ins B x i) := by
 refine srt_mid W (by rw [List.take_append_drop]; exact h) ?_ ?_
 · intro a ha
   obtain ⟨k, hk, hkB, rfl⟩ := mem_take_getD d ha
   exact W.asymm (hb.yes k (Nat.zero_le _) hk)
 · intro b hb'
   obtain ⟨k, hk, hkB, rfl⟩ := mem_drop_getD d hb'
   exact hb.no k hk hkB
theorem srt_ins2 {α : Type} {lt : α → α → Bool} (W : Weak lt) {A : List α} (h : Srt lt A) (d x : α) {i : Nat} (hb : Bis (fun k => !lt x (A.getD k d)) 0 A.length i i) : Srt lt (ins A x i) := by
 refine srt_mid W (by rw [List.take_append_drop]; exact h) ?_ ?_
 · intro a ha
   obtain ⟨k, hk, hkB, rfl⟩ := mem_take_getD d ha
   have := hb.yes k (Nat.zero_le _) hk
   simpa using this
 · intro b hb'
   obtain ⟨k, hk, hkB, rfl⟩ := mem_drop_getD d hb'
   have := hb.no k hk hkB
   simp only [Bool.not_eq_false'] at this
   exact W.asymm this
/-- Where things stand in two lists between two others. -/
theorem at_A {α : Type} (P A R : List α) (d : α) {u : Nat} (h : u < A.length) : ∃ hj : P.length + u < (P ++ (A ++ R)).length, (P ++ (A ++ R))[P.length + u] = A.getD u d := by
 refine ⟨by simp; omega, ?_⟩
 rw [getD_at _ _ h, List.getElem_append_right (by omega), List.getElem_append_left (by omega)]
 congr 1; omega
theorem at_B {α : Type} (P A B S : List α) (d : α) {v : Nat} (h : v < B.length) : ∃ hj : P.length + A.length + v < (P ++ (A ++ (B ++ S))).length, (P ++ (A ++ (B ++ S)))[P.length + A.length + v] = B.getD v d := by
 have := at_A (P ++ A) B S d h
 rw [List.length_append] at this
 simpa using this
/-- A rotation on its way. -/
structure Rot {α : Type} (P X Y S M : List α) (i j : Nat) (P' L R S' : List α) : Prop where
 lst : M = P' ++ (L ++ (R ++ S'))
 goal : P ++ (Y ++ (X ++ S)) = P' ++ (R ++ (L ++ S'))
 li : L.length = i
 rj : R.length = j
 mid : P'.length + i = P.length + X.length
theorem Rot.start {α : Type} (P X Y S : List α) : Rot P X Y S (P ++ (X ++ (Y ++ S))) X.length Y.length P X Y S := ⟨rfl, rfl, rfl, rfl, rfl⟩
theorem Rot.left {α : Type} {P X Y S M P' L R S' : List α} {i j : Nat} (h : Rot P X Y S M i j P' L R S') (hij : j < i) : ∃ L1 L2, L = L1 ++ L2 ∧ L1.length = j ∧ M = P' ++ (L1 ++ (L2 ++ (R ++ S'))) ∧ Rot P X Y S (P' ++ (R ++ (L2 ++ (L1 ++ S')))) (i - j) j (P' ++ R) L2 L1 S' := by
 obtain ⟨L1, L2, e, hl⟩ := part_at L j (by have := h.li; omega)
 subst e
 have := h.li
 have h3 := h.rj
 have h4 := h.mid
 rw [List.length_append] at this
 refine ⟨L1, L2, rfl, hl, by rw [h.lst]; simp, by simp, by rw [h.goal]; simp, by omega, hl, by rw [List.length_append]; omega⟩
theorem Rot.right {α : Type} {P X Y S M P' L R S' : List α} {i j : Nat} (h : Rot P X Y S M i j P' L R S') (hij : i < j) : ∃ R1 R2, R = R1 ++ R2 ∧ R1.length = j - i ∧ R2.length = i ∧ M = P' ++ (L ++ (R1 ++ (R2 ++ S'))) ∧ Rot P X Y S (P' ++ (R2 ++ (R1 ++ (L ++ S')))) i (j - i) P' R2 R1 (L ++ S') := by
 have := h.rj
 obtain ⟨R1, R2, e, hl⟩ := part_at R (j - i) (by omega)
 subst e
 have h2 := h.li
 rw [List.length_append] at this
 refine ⟨R1, R2, rfl, hl, by omega, by rw [h.lst]; simp, by simp, by rw [h.goal]; simp, by omega, hl, h.mid⟩
theorem Rot.last {α : Type} {P X Y S M P' L R S' : List α} {i : Nat} (h : Rot P X Y S M i i P' L R S') : M = P' ++ (L ++ ([] ++ (R ++ S'))) ∧ P ++ (Y ++ (X ++ S)) = P' ++ (R ++ ([] ++ (L ++ S'))) := ⟨by rw [h.lst]; simp, by rw [h.goal]; simp⟩
end Pl
end Go.Proofs.YtgbilfkjfeheaaaGreat

namespace Go.Proofs.YtgbilfkjfeheaaaGreat
set_option linter.unusedVariables false
open Go.RowKit

/-- A function value that orders things, in every world. -/
def TellsC (ks : List CK) (K : Nat) (ord : List Value → List Value → Int) : Prop :=
 (∀ (args : Array Value) (W : World), (callFunc K args).run Tryz.prog W = .ok (.enter K args) W) ∧
 ∀ W a b, Fits ks a → Fits ks b → Calls Tryz.prog K #[.agg a.toArray, .agg b.toArray] W fun r W' => r = .returned (.int .i64 (ord a b)) ∧ Below W.heap.size W W'
/-- By that order, is a thing less than another one? -/
def lessO (ord : List Value → List Value → Int) (a b : List Value) : Bool := decide (ord a b < 0)
theorem lessO_int (ord : List Value → List Value → Int) (a b : List Value) {z : Int} (h : ord a b = z) : decide (z < 0) = lessO ord a b := by rw [← h]; rfl
theorem row_at {ks : List CK} {w : World} {B T sz g n c p : Nat} {M : List (List Value)} {x : List Value} (ho : w.ownsRow B T sz (.slice (some ⟨g, 0, none⟩) n c) n M.flatten) (hM : Things ks M) (hs : ks.length = sz) (hn : n = M.length) (hpx : M[p]? = some x) : w.rangeAt g (p * sz) x := by
 obtain ⟨hp, hx⟩ := List.getElem?_eq_some_iff.1 hpx
 clear hpx
 subst hx hs hn
 intro i u hu
 have hi : i < ks.length := by
  have := (List.getElem?_eq_some_iff.1 hu).1
  rw [hM.len _ (List.getElem_mem hp)] at this
  exact this
 have hl := flat_length hM.len
 have hm : (p + 1) * ks.length ≤ M.length * ks.length := Nat.mul_le_mul_right _ hp
 rw [Nat.succ_mul] at hm
 show w.cell? ⟨g, p * ks.length + i, none⟩ = some u
 rw [ho.cellAt (p * ks.length + i) (by omega)]
 exact (flat_at hM.len p i hp hi).trans hu
theorem things_set {ks : List CK} {M : List (List Value)} {x : List Value} (h : Things ks M) (hx : Fits ks x) (p : Nat) : Things ks (M.set p x) := fun e he => by
 rcases List.mem_or_eq_of_mem_set he with h1 | h1
 · exact h e h1
 · exact h1 ▸ hx
theorem things_perm {ks : List CK} {L M : List (List Value)} (h : Things ks L) (hp : M.Perm L) : Things ks M := fun e he => h e (hp.mem_iff.1 he)
/-- Two things of a row change places. -/
theorem row_swap {ks : List CK} {w : World} {B T sz g n c p q : Nat} {M : List (List Value)} {x y : List Value} (ho : w.ownsRow B T sz (.slice (some ⟨g, 0, none⟩) n c) n M.flatten) (hg : B ≤ g) (hM : Things ks M) (hs : ks.length = sz) (hn : n = M.length) (hpx : M[p]? = some x) (hqy : M[q]? = some y) :
 w.rangeAt g (p * sz) x ∧ w.rangeAt g (q * sz) y ∧ w.there g (p * sz) sz ∧ (w.setCells g (p * sz) y).there g (q * sz) sz ∧
 ((w.setCells g (p * sz) y).setCells g (q * sz) x).ownsRow B T sz (.slice (some ⟨g, 0, none⟩) n c) n ((M.set p y).set q x).flatten ∧ Below B w ((w.setCells g (p * sz) y).setCells g (q * sz) x) := by
 obtain ⟨hp, hx⟩ := List.getElem?_eq_some_iff.1 hpx
 obtain ⟨hq, hy⟩ := List.getElem?_eq_some_iff.1 hqy
 have fx : Fits ks x := hx ▸ hM _ (List.getElem_mem hp)
 have fy : Fits ks y := hy ▸ hM _ (List.getElem_mem hq)
 have hMl : ∀ e ∈ M, e.length = sz := fun e he => by rw [hM.len e he, hs]
 have h1 := own_thing ho hg hMl (by rw [fy.length, hs] : y.length = sz) hp
 have hM1 := things_set hM fy p
 have hM1l : ∀ e ∈ M.set p y, e.length = sz := fun e he => by rw [hM1.len e he, hs]
 have h2 := own_thing h1.1 hg hM1l (by rw [fx.length, hs] : x.length = sz) (by rw [List.length_set]; exact hq : q < (M.set p y).length)
 exact ⟨row_at ho hM hs hn hpx, row_at ho hM hs hn hqy, own_there ho hMl hn (by omega), own_there h1.1 hM1l (by rw [List.length_set]; exact hn) (by omega), h2.1, h1.2.trans h2.2⟩
theorem own_ge {w : World} {B T sz n c g : Nat} {xs : List Value} (h : w.ownsRow B T sz (.slice (some ⟨g, 0, none⟩) n c) n xs) : B ≤ g := by
 obtain ⟨_, h | ⟨g', cap, cur, hv, hg, hh, hr⟩⟩ := h
 · exact absurd h.1 (by simp)
 · injection hv with h1; injection h1 with h1; injection h1 with h1; subst h1; exact hg
theorem some_at {M : List (List Value)} {p : Nat} {x : List Value} (h : ∃ hp : p < M.length, M[p] = x) : M[p]? = some x := List.getElem?_eq_some_iff.2 h
theorem at_lt {M : List (List Value)} {p : Nat} {x : List Value} (h : M[p]? = some x) : p < M.length := (List.getElem?_eq_some_iff.1 h).1
theorem at_fits {ks : List CK} {M : List (List Value)} {p : Nat} {x : List Value} (h : Things ks M) (hp : M[p]? = some x) : Fits ks x := h x (List.mem_of_getElem? hp)
end Go.Proofs.YtgbilfkjfeheaaaGreat

namespace Go.Proofs.YtgbilfkjfeheaaaGreat
set_option linter.unusedVariables false
open Go.RowKit

theorem rng_length (P X Q Y S : List (List Value)) (i : Nat) (h : X.length = Y.length) : (Pl.rng P X Q Y S i).length = (P ++ (X ++ (Q ++ (Y ++ S)))).length := by
 simp only [Pl.rng, List.length_append, List.length_take, List.length_drop]
 omega
theorem things_rng {ks : List CK} {P X Q Y S : List (List Value)} (h : Things ks (P ++ (X ++ (Q ++ (Y ++ S))))) (i : Nat) : Things ks (Pl.rng P X Q Y S i) := fun e he => h e (by
 simp only [Pl.rng, List.mem_append] at he ⊢
 rcases he with he | (he | he) | he | (he | he) | he
 · exact .inl he
 · exact .inr (.inr (.inr (.inl (List.mem_of_mem_take he))))
 · exact .inr (.inl (List.mem_of_mem_drop he))
 · exact .inr (.inr (.inl he))
 · exact .inr (.inl (List.mem_of_mem_take he))
 · exact .inr (.inr (.inr (.inl (List.mem_of_mem_drop he))))
 · exact .inr (.inr (.inr (.inr he))))
def TIv (ti : Nat) : Prop := ti = 0 ∨ ti = 1
abbrev ixV {ti : Nat} (_ : Hid (TIv ti)) : Nat := ti
def tS : Nat → TypeId
 | 0 => 98
 | 1 => 64
 | _ => 0
def kS : Nat → List CK
 | 0 => kRule
 | 1 => kBin
 | _ => []
def fSwapR : Nat → FuncId
 | 0 => 221
 | 1 => 222
 | _ => 0
def fRota : Nat → FuncId
 | 0 => 217
 | 1 => 218
 | _ => 0
def fInser : Nat → FuncId
 | 0 => 208
 | 1 => 210
 | _ => 0
def fSymm : Nat → FuncId
 | 0 => 209
 | 1 => 211
 | _ => 0
def fStab : Nat → FuncId
 | 0 => 193
 | 1 => 195
 | _ => 0
def fSortS : Nat → FuncId
 | 0 => 166
 | 1 => 172
 | _ => 0
theorem undV (ti : Nat) (hti : TIv ti) : ∃ d, Tryz.prog.underlying (tS ti) = some d ∧ d.isRow = true := by
 rcases hti with rfl | rfl
 · exact ⟨_, Tryz.underlying98, rfl⟩
 · exact ⟨_, Tryz.underlying64, rfl⟩
theorem rowV (d : TypeDesc) : d.isRow = true → (match d with | .struct _ | .array _ _ => true | _ => false) = true := by
 intro h; cases d <;> first | rfl | cases h
theorem sizeV (ti : Nat) (hti : TIv ti) : (Tryz.prog.info? (tS ti)).map (·.size) = some (kS ti).length := by
 rcases hti with rfl | rfl <;> (show _ = _; kernel_rfl)
theorem kS0 : (kS 0).length = 3 := rfl
theorem kS1 : (kS 1).length = 8 := rfl
attribute [local go_sem] kS0 kS1
set_option maxRecDepth 100000 in
set_option maxHeartbeats 1600000 in
theorem swaprV (ti : Nat) (hti : TIv ti) (B g n c K k : Nat) (P X Q Y S : List (List Value)) (za zb zk : Int) (w : World) (hX : X.length = k) (hY : Y.length = k) (hza : za = (P.length : Int)) (hzb : zb = ((P.length + k + Q.length : Nat) : Int)) (hzk : zk = (k : Int)) (hn : n = (P ++ (X ++ (Q ++ (Y ++ S)))).length) (hn6 : n ≤ 100000) (hM : Things (kS ti) (P ++ (X ++ (Q ++ (Y ++ S))))) (ho : w.ownsRow B (tS ti) (kS ti).length (.slice (some ⟨g, 0, none⟩) n c) n (P ++ (X ++ (Q ++ (Y ++ S)))).flatten) (hB : B ≤ w.heap.size) :
 Calls Tryz.prog (fSwapR ti) #[.slice (some ⟨g, 0, none⟩) n c, .int .i64 za, .int .i64 zb, .int .i64 zk, .func (.func K) #[] #[]] w fun e w' => e = .returned (.tuple #[]) ∧ w'.ownsRow B (tS ti) (kS ti).length (.slice (some ⟨g, 0, none⟩) n c) n (P ++ (Y ++ (Q ++ (X ++ S)))).flatten ∧ Below B w w' := by
 have HTV := Lib.hid hti
 obtain ⟨dT, hu0, hdT⟩ := undV ti HTV.out
 have HUV := Lib.hid hu0
 have HDV := Lib.hid (rowV dT hdT)
 clear hu0 hti hdT
 have HLE : Hid (P.length + k + Q.length + k ≤ n) := Lib.hid (by rw [hn]; simp only [List.length_append, hX, hY]; omega)
 have HNN : Hid (∀ i, (Pl.rng P X Q Y S i).length = n) := Lib.hid (fun i => by rw [hn]; exact rng_length P X Q Y S i (hX.trans hY.symm))
 have HT : Hid (∀ i, Things (kS ti) (Pl.rng P X Q Y S i)) := Lib.hid (things_rng hM)
 have HAT : Hid (∀ i, i < k → _) := Lib.hid (fun i hi => Pl.rng_at P X Q Y S hX hY hi)
 have HEND : Hid (Pl.rng P X Q Y S k = P ++ (Y ++ (Q ++ (X ++ S)))) := Lib.hid (Pl.rng_all P X Q Y S hX hY)
 have HO0 : Hid (w.ownsRow B (tS ti) (kS ti).length (.slice (some ⟨g, 0, none⟩) n c) n (Pl.rng P X Q Y S 0).flatten) := Lib.hid (by rw [Pl.rng_zero]; exact ho)
 obtain ⟨a, hpa⟩ : ∃ a, P.length = a := ⟨_, rfl⟩
 obtain ⟨b, hpb⟩ : ∃ b, a + k + Q.length = b := ⟨_, rfl⟩
 rw [hpa] at HLE HAT hza hzb
 rw [hpb] at HLE HAT hzb
 have hbl : a + k ≤ b := by omega
 subst hza hzb hzk
 have hle := HLE.out
 clear hX hY hn hM ho hpa hpb
 rcases HTV.out with rfl | rfl
 all_goals
  first
   | go_enter Tryz.func221, Tryz.ntmps221
   | go_enter Tryz.func222, Tryz.ntmps222
  go_wp2_with fail
  go_loopw [10] (fun iv wr => ∃ i : Nat, i ≤ k ∧ iv = .int .i64 (i : Int) ∧ Hid (wr.ownsRow B (tS (ixV HTV)) (kS (ixV HTV)).length (.slice (some ⟨g, 0, none⟩) n c) n (Pl.rng P X Q Y S i).flatten) ∧ Hid (Below B w wr)) (fun iv _ => k - (intOf iv).toNat)
  case atStart => exact ⟨0, by omega, rfl, HO0, Lib.hid (Below.refl _ _)⟩
  case round =>
   obtain ⟨i, hik, rfl, HO, HB⟩ := hrel
   by_cases hlt : i < k
   · skip
     obtain ⟨x, y, h1, h2, hx, hy, hset⟩ := HAT.out i hlt
     obtain ⟨p, hp⟩ : ∃ p, a + i = p := ⟨_, rfl⟩
     obtain ⟨q, hq⟩ : ∃ q, b + i = q := ⟨_, rfl⟩
     simp only [hp] at h1 hx hset
     simp only [hq] at h2 hy hset
     have hpx := some_at ⟨h1, hx⟩
     have hqy := some_at ⟨h2, hy⟩
     have FX : Hid (Fits (kS (ixV HTV)) x) := Lib.hid (hx ▸ HT.out i _ (List.getElem_mem h1))
     have FY : Hid (Fits (kS (ixV HTV)) y) := Lib.hid (hy ▸ HT.out i _ (List.getElem_mem h2))
     have HLX : Hid (x.length = (kS (ixV HTV)).length) := Lib.hid (FX.out.length)
     have HIX : Hid ((Tryz.prog.info? (tS (ixV HTV))).map (·.size) = some x.length) := Lib.hid (by rw [HLX.out]; exact sizeV _ HTV.out)
     have HAX : Hid ((Tryz.prog.info? (tS (ixV HTV))).map (·.size) = some x.toArray.size) := Lib.hid (by rw [List.size_toArray, HLX.out]; exact sizeV _ HTV.out)
     have HOX : Hid (x.toArray.all (·.oneCell') = true) := Lib.hid (all_oneCell_toArray (fits_one FX.out))
     have HLY : Hid (y.length = (kS (ixV HTV)).length) := Lib.hid (FY.out.length)
     have HIY : Hid ((Tryz.prog.info? (tS (ixV HTV))).map (·.size) = some y.length) := Lib.hid (by rw [HLY.out]; exact sizeV _ HTV.out)
     have HAY : Hid ((Tryz.prog.info? (tS (ixV HTV))).map (·.size) = some y.toArray.size) := Lib.hid (by rw [List.size_toArray, HLY.out]; exact sizeV _ HTV.out)
     have HOY : Hid (y.toArray.all (·.oneCell') = true) := Lib.hid (all_oneCell_toArray (fits_one FY.out))
     have HSW := Lib.hid (row_swap (own_below HO.out (Below.refl _ _).drew) (own_ge HO.out) (HT.out i) rfl (HNN.out i).symm hpx hqy)
     rw [hset] at HSW
     have hpn : p < n := by have := HNN.out i; omega
     have hqn : q < n := by have := HNN.out i; omega
     have hwp : IntKind.i64.wrap ((a : Int) + (i : Int)) = (p : Int) := by rw [IntWalk.i64_in _ (by omega)]; omega
     have hwq : IntKind.i64.wrap ((b : Int) + (i : Int)) = (q : Int) := by rw [IntWalk.i64_in _ (by omega)]; omega
     clear h1 h2 hx hy hpx hqy hset hp hq
     go_wp2_with fail
     apply region_to
     case h =>
      refine wp_region_any (by kernel_rfl) ?_
      refine tkA 0 (.slice (some ⟨g, 0, none⟩) n c) rfl ?_
      simp only [ax]
      refine tkA 1 (.int .i64 (a : Int)) rfl ?_
      simp only [ax]
      refine tkA 2 (.int .i64 (i : Int)) rfl ?_
      simp only [ax]
      refine tkA 3 (.int .i64 (p : Int)) rfl ?_
      simp only [ax]
      refine tkA 4 (.slice (some ⟨g, 0, none⟩) n c) rfl ?_
      simp only [ax]
      refine tkA 5 (.int .i64 (b : Int)) rfl ?_
      simp only [ax]
      refine tkA 6 (.int .i64 (i : Int)) rfl ?_
      simp only [ax]
      refine tkA 7 (.int .i64 (q : Int)) rfl ?_
      simp only [ax]
      refine tkA 8 (.slice (some ⟨g, 0, none⟩) n c) rfl ?_
      simp only [ax]
      refine tkA 9 (.int .i64 (b : Int)) rfl ?_
      simp only [ax]
      refine tkA 10 (.int .i64 (i : Int)) rfl ?_
      simp only [ax]
      refine tkA 11 (.int .i64 (q : Int)) rfl ?_
      simp only [ax]
      refine tkO 12 (.pointer (some ⟨g, q * (kS (ixV HTV)).length, none⟩)) rfl ?_
      simp only [ax]
      refine tkA 14 (.slice (some ⟨g, 0, none⟩) n c) rfl ?_
      simp only [ax]
      refine tkA 15 (.int .i64 (a : Int)) rfl ?_
      simp only [ax]
      refine tkA 16 (.int .i64 (i : Int)) rfl ?_
      simp only [ax]
      refine tkA 17 (.int .i64 (p : Int)) rfl ?_
      simp only [ax]
      refine tkO 18 (.pointer (some ⟨g, p * (kS (ixV HTV)).length, none⟩)) rfl ?_
      simp only [ax]
      refine wpAny_ready (rs := [13, 19]) (by kernel_rfl) (by simp) ?_
      refine AllReady.cons rfl (fun K hK => ?_) (AllReady.cons rfl (fun K hK => ?_) AllReady.nil)
      · skip
        refine wp_load_mid (tS (ixV HTV)) (.tmp 28) rfl g (q * (kS (ixV HTV)).length) rfl y _ HSW.out.2.1 HUV.out HDV.out HIY.out (hK _ _ ?_)
        clear hK K
        simp only [ax]
        refine wpAny_ready (rs := [19]) (by kernel_rfl) (by simp) ?_
        refine AllReady.cons rfl (fun K hK => ?_) AllReady.nil
        refine wp_load_mid (tS (ixV HTV)) (.tmp 34) rfl g (p * (kS (ixV HTV)).length) rfl x _ HSW.out.1 HUV.out HDV.out HIX.out (hK _ _ ?_)
        clear hK K
        simp only [ax]
        refine tkO 20 (.pointer (some ⟨g, p * (kS (ixV HTV)).length, none⟩)) rfl ?_
        simp only [ax]
        refine wpAny_ready (rs := [21]) (by kernel_rfl) (by simp) ?_
        refine AllReady.cons rfl (fun K hK => ?_) AllReady.nil
        refine wp_store_mid (tS (ixV HTV)) (.tmp 36) (.tmp 29) rfl g (p * (kS (ixV HTV)).length) y.toArray rfl rfl (by rw [List.size_toArray, HLY.out]; exact HSW.out.2.2.1) HAY.out HOY.out (hK _ _ ?_)
        clear hK K
        simp only [ax]
        refine tkO 22 (.pointer (some ⟨g, q * (kS (ixV HTV)).length, none⟩)) rfl ?_
        simp only [ax]
        refine wpAny_ready (rs := [23]) (by kernel_rfl) (by simp) ?_
        refine AllReady.cons rfl (fun K hK => ?_) AllReady.nil
        refine wp_store_mid (tS (ixV HTV)) (.tmp 37) (.tmp 35) rfl g (q * (kS (ixV HTV)).length) x.toArray rfl rfl (by rw [List.size_toArray, HLX.out]; exact HSW.out.2.2.2.1) HAX.out HOX.out (hK _ _ ?_)
        clear hK K
        simp only [ax]
        refine wpAny_done (by kernel_rfl) ?_ _
        exact ⟨rfl, rfl, rfl⟩
      · skip
        refine wp_load_mid (tS (ixV HTV)) (.tmp 34) rfl g (p * (kS (ixV HTV)).length) rfl x _ HSW.out.1 HUV.out HDV.out HIX.out (hK _ _ ?_)
        clear hK K
        simp only [ax]
        refine wpAny_ready (rs := [13]) (by kernel_rfl) (by simp) ?_
        refine AllReady.cons rfl (fun K hK => ?_) AllReady.nil
        refine wp_load_mid (tS (ixV HTV)) (.tmp 28) rfl g (q * (kS (ixV HTV)).length) rfl y _ HSW.out.2.1 HUV.out HDV.out HIY.out (hK _ _ ?_)
        clear hK K
        simp only [ax]
        refine tkO 20 (.pointer (some ⟨g, p * (kS (ixV HTV)).length, none⟩)) rfl ?_
        simp only [ax]
        refine wpAny_ready (rs := [21]) (by kernel_rfl) (by simp) ?_
        refine AllReady.cons rfl (fun K hK => ?_) AllReady.nil
        refine wp_store_mid (tS (ixV HTV)) (.tmp 36) (.tmp 29) rfl g (p * (kS (ixV HTV)).length) y.toArray rfl rfl (by rw [List.size_toArray, HLY.out]; exact HSW.out.2.2.1) HAY.out HOY.out (hK _ _ ?_)
        clear hK K
        simp only [ax]
        refine tkO 22 (.pointer (some ⟨g, q * (kS (ixV HTV)).length, none⟩)) rfl ?_
        simp only [ax]
        refine wpAny_ready (rs := [23]) (by kernel_rfl) (by simp) ?_
        refine AllReady.cons rfl (fun K hK => ?_) AllReady.nil
        refine wp_store_mid (tS (ixV HTV)) (.tmp 37) (.tmp 35) rfl g (q * (kS (ixV HTV)).length) x.toArray rfl rfl (by rw [List.size_toArray, HLX.out]; exact HSW.out.2.2.2.1) HAX.out HOX.out (hK _ _ ?_)
        clear hK K
        simp only [ax]
        refine wpAny_done (by kernel_rfl) ?_ _
        exact ⟨rfl, rfl, rfl⟩
     case hq =>
      have HBN := Lib.hid (HB.out.trans ((Below.refl B wr).drew.trans HSW.out.2.2.2.2.2))
      have HON := Lib.hid HSW.out.2.2.2.2.1
      go_wp2_with fail
      go_roundw
      case rel => exact ⟨i + 1, by omega, by go_num, HON, HBN⟩
      case measure => simp [intOf]; omega
   · obtain rfl : i = k := by omega
     have HON := HO.out
     rw [HEND.out] at HON
     have HOX := Lib.hid HON
     clear HON
     go_wp2_with fail
     go_end0
     exact ⟨rfl, HOX.out, HB.out⟩
end Go.Proofs.YtgbilfkjfeheaaaGreat

namespace Go.Proofs.YtgbilfkjfeheaaaGreat
set_option linter.unusedVariables false
open Go.RowKit

theorem rot_perm {P X Y S M P' L R S' : List (List Value)} {i j : Nat} (h : Pl.Rot P X Y S M i j P' L R S') : M.Perm (P ++ (X ++ (Y ++ S))) := by
 have h1 : M.Perm (P' ++ (R ++ (L ++ S'))) := by
  rw [h.lst, ← List.append_assoc L R S', ← List.append_assoc R L S']
  exact List.Perm.append_left _ (List.Perm.append_right _ List.perm_append_comm)
 rw [← h.goal] at h1
 refine h1.trans ?_
 rw [← List.append_assoc Y X S, ← List.append_assoc X Y S]
 exact List.Perm.append_left _ (List.Perm.append_right _ List.perm_append_comm)
attribute [local go_sem] kS0 kS1
set_option maxRecDepth 100000 in
set_option maxHeartbeats 1600000 in
theorem rotaV (ti : Nat) (hti : TIv ti) (B g n c K : Nat) (P X Y S : List (List Value)) (za zm zb : Int) (w : World) (hza : za = (P.length : Int)) (hzm : zm = ((P.length + X.length : Nat) : Int)) (hzb : zb = ((P.length + X.length + Y.length : Nat) : Int)) (hX : 1 ≤ X.length) (hY : 1 ≤ Y.length) (hn : n = (P ++ (X ++ (Y ++ S))).length) (hn6 : n ≤ 100000) (hM : Things (kS ti) (P ++ (X ++ (Y ++ S)))) (ho : w.ownsRow B (tS ti) (kS ti).length (.slice (some ⟨g, 0, none⟩) n c) n (P ++ (X ++ (Y ++ S))).flatten) (hB : B ≤ w.heap.size) :
 Calls Tryz.prog (fRota ti) #[.slice (some ⟨g, 0, none⟩) n c, .int .i64 za, .int .i64 zm, .int .i64 zb, .func (.func K) #[] #[]] w fun e w' => e = .returned (.tuple #[]) ∧ w'.ownsRow B (tS ti) (kS ti).length (.slice (some ⟨g, 0, none⟩) n c) n (P ++ (Y ++ (X ++ S))).flatten ∧ Below B w w' := by
 have HTV := Lib.hid hti
 obtain ⟨dT, hu0, hdT⟩ := undV ti HTV.out
 have HUV := Lib.hid hu0
 have HDV := Lib.hid (rowV dT hdT)
 clear hu0 hti hdT
 have HST := Lib.hid (Pl.Rot.start P X Y S)
 have HLE : Hid (P.length + X.length + Y.length ≤ n) := Lib.hid (by rw [hn]; simp only [List.length_append]; omega)
 have HPM : Hid (∀ M i j P' L R S', Pl.Rot P X Y S M i j P' L R S' → n = M.length ∧ Things (kS ti) M) := Lib.hid (fun M i j P' L R S' h => ⟨by rw [hn]; exact (rot_perm h).length_eq.symm, things_perm hM (rot_perm h)⟩)
 have HO0 := Lib.hid ho
 have HB0 := Lib.hid hB
 obtain ⟨i0, hi0⟩ : ∃ q, X.length = q := ⟨_, rfl⟩
 obtain ⟨j0, hj0⟩ : ∃ q, Y.length = q := ⟨_, rfl⟩
 obtain ⟨a, hpa⟩ : ∃ a, P.length = a := ⟨_, rfl⟩
 obtain ⟨m, hm⟩ : ∃ m, a + i0 = m := ⟨_, rfl⟩
 have HPX : Hid (P.length + X.length = m) := Lib.hid (by rw [hpa, hi0]; exact hm)
 rw [hi0, hj0] at HST
 rw [hi0, hj0, hpa, hm] at HLE
 rw [hi0] at hX hzm hzb
 rw [hj0] at hY hzb
 rw [hpa] at hza hzm hzb
 rw [hm] at hzm hzb
 obtain ⟨b, hb⟩ : ∃ b, m + j0 = b := ⟨_, rfl⟩
 rw [hb] at HLE hzb
 subst hza hzm hzb
 have hle := HLE.out
 have hma : a ≤ m := by omega
 have hmb : m ≤ b := by omega
 have hjb : m + j0 ≤ n := by omega
 have e1 : (m : Int) - (a : Int) = (i0 : Int) := by omega
 have e2 : (b : Int) - (m : Int) = (j0 : Int) := by omega
 clear hb hn hM ho hB hpa hi0 hj0 hm
 rcases HTV.out with rfl | rfl
 all_goals
  first
   | go_enter Tryz.func217, Tryz.ntmps217
   | go_enter Tryz.func218, Tryz.ntmps218
  go_wp2_with fail
  go_loopw [10, 11] (fun iv jv wr => ∃ (i j : Nat) (M P' L R S' : List (List Value)), 1 ≤ i ∧ 1 ≤ j ∧ i ≤ m ∧ j ≤ n ∧ m + j ≤ n ∧ iv = .int .i64 (i : Int) ∧ jv = .int .i64 (j : Int) ∧ Hid (Pl.Rot P X Y S M i j P' L R S') ∧ Hid (wr.ownsRow B (tS (ixV HTV)) (kS (ixV HTV)).length (.slice (some ⟨g, 0, none⟩) n c) n (M).flatten) ∧ Hid (Below B w wr)) (fun iv jv _ => (intOf iv).toNat + (intOf jv).toNat)
  case atStart => exact ⟨i0, j0, _, _, _, _, _, hX, hY, by omega, by omega, by omega, by first | rfl | go_num, by first | rfl | go_num, HST, HO0, Lib.hid (Below.refl _ _)⟩
  case round =>
   obtain ⟨i, j, M, P', L, R, S', hi1, hj1, him, hjn, hmj, rfl, rfl, HR, HO, HB⟩ := hrel
   clear hX hY e1 e2
   have hpm : P'.length + i = m := by have := HR.out.mid; rw [HPX.out] at this; exact this
   have HPM' := Lib.hid hpm
   clear hpm
   by_cases heq : i = j
   · skip
     subst heq
     obtain ⟨l1, l2⟩ := HR.out.last
     have HX := Lib.hid HR.out.li
     have HY := Lib.hid HR.out.rj
     have HG := Lib.hid l2
     have hm' := HPM.out _ _ _ _ _ _ _ HR.out
     have hom := HO.out
     rw [l1] at hm' hom
     have HM := Lib.hid hm'
     have HOM := Lib.hid hom
     clear l1 l2 hm' hom
     go_wp2_with fail
     refine (swaprV _ HTV.out B g n c K i P' L [] R S' _ _ _ _ HX.out HY.out (by have := HPM'.out; omega) (by have := HPM'.out; (try simp only [List.length_nil, Nat.add_zero]); first | omega | (have := HQ.out; omega)) (by omega) (HM.out.1) hn6 HM.out.2 HOM.out (Nat.le_trans HB0.out HB.out.size)).mono ?_
     rintro e w1 ⟨rfl, ho1, hb1⟩
     have HO1 := Lib.hid ho1
     have HB1 := Lib.hid (HB.out.trans hb1)
     clear ho1 hb1
     go_wp2_with fail
     go_end0
     exact ⟨rfl, by rw [HG.out]; exact HO1.out, HB1.out⟩
   · skip
     by_cases hlt : j < i
     · skip
       obtain ⟨L1, L2, hL, hL1, hM', hr⟩ := HR.out.left hlt
       have HX := Lib.hid hL1
       have HY := Lib.hid HR.out.rj
       have HQ : Hid (L2.length = i - j) := Lib.hid (by have := HR.out.li; rw [hL, List.length_append] at this; omega)
       have HN := Lib.hid hr
       have hm' := HPM.out _ _ _ _ _ _ _ HR.out
       have hom := HO.out
       rw [hM'] at hm' hom
       have HM := Lib.hid hm'
       have HOM := Lib.hid hom
       clear hL hL1 hM' hr hm' hom
       go_wp2_with fail
       refine (swaprV _ HTV.out B g n c K j P' L1 L2 R S' _ _ _ _ HX.out HY.out (by have := HPM'.out; omega) (by have := HPM'.out; (try simp only [List.length_nil, Nat.add_zero]); first | omega | (have := HQ.out; omega)) (by omega) (HM.out.1) hn6 HM.out.2 HOM.out (Nat.le_trans HB0.out HB.out.size)).mono ?_
       rintro e w1 ⟨rfl, ho1, hb1⟩
       have HO1 := Lib.hid ho1
       have HB1 := Lib.hid (HB.out.trans hb1)
       clear ho1 hb1
       go_wp2_with fail
       go_roundw
       case rel => exact ⟨i - j, j, _, _, _, _, _, by omega, hj1, by omega, hjn, hmj, by go_num, rfl, HN, HO1, HB1⟩
       case measure => simp [intOf]; omega
     · skip
       obtain ⟨R1, R2, hR, hR1, hR2, hM', hr⟩ := HR.out.right (by omega)
       have HX := Lib.hid HR.out.li
       have HY := Lib.hid hR2
       have HQ := Lib.hid hR1
       have HN := Lib.hid hr
       have hm' := HPM.out _ _ _ _ _ _ _ HR.out
       have hom := HO.out
       rw [hM'] at hm' hom
       have HM := Lib.hid hm'
       have HOM := Lib.hid hom
       clear hR hR1 hR2 hM' hr hm' hom
       go_wp2_with fail
       refine (swaprV _ HTV.out B g n c K i P' L R1 R2 S' _ _ _ _ HX.out HY.out (by have := HPM'.out; omega) (by have := HPM'.out; (try simp only [List.length_nil, Nat.add_zero]); first | omega | (have := HQ.out; omega)) (by omega) (HM.out.1) hn6 HM.out.2 HOM.out (Nat.le_trans HB0.out HB.out.size)).mono ?_
       rintro e w1 ⟨rfl, ho1, hb1⟩
       have HO1 := Lib.hid ho1
       have HB1 := Lib.hid (HB.out.trans hb1)
       clear ho1 hb1
       go_wp2_with fail
       go_roundw
       case rel => exact ⟨i, j - i, _, _, _, _, _, hi1, by omega, him, by omega, by omega, rfl, by go_num, HN, HO1, HB1⟩
       case measure => simp [intOf]; omega
end Go.Proofs.YtgbilfkjfeheaaaGreat

namespace Go.Proofs.YtgbilfkjfeheaaaGreat
set_option linter.unusedVariables false
open Go.RowKit

theorem sink_perm {lt : List Value → List Value → Bool} {P S M A C A' B' R' : List (List Value)} {v : List Value} (h : Pl.Sink lt P (R' ++ S) M v A' B') (h1 : (A' ++ B').Perm C) (h2 : (C ++ v :: R').Perm A) : M.Perm (P ++ (A ++ S)) ∧ ((A' ++ v :: B') ++ R').Perm A := by
 have e1 : ((A' ++ v :: B') ++ R').Perm A := by
  refine List.Perm.trans ?_ h2
  refine List.Perm.trans (List.Perm.append_right R' (List.perm_middle.trans (h1.cons v))) ?_
  exact List.perm_middle.symm
 refine ⟨?_, e1⟩
 have e2 : M = P ++ (((A' ++ v :: B') ++ R') ++ S) := by rw [h.lst]; simp
 rw [e2]
 exact List.Perm.append_left _ (List.Perm.append_right _ e1)
attribute [local go_sem] kS0 kS1
set_option maxRecDepth 100000 in
set_option maxHeartbeats 3200000 in
theorem inserV (ti : Nat) (hti : TIv ti) (B g n c K : Nat) (ord : List Value → List Value → Int) (P A S : List (List Value)) (za zb : Int) (w : World) (hza : za = (P.length : Int)) (hzb : zb = ((P.length + A.length : Nat) : Int)) (hn : n = (P ++ (A ++ S)).length) (hn6 : n ≤ 100000) (hM : Things (kS ti) (P ++ (A ++ S))) (hT : TellsC (kS ti) K ord) (hW : Pl.Weak (lessO ord)) (ho : w.ownsRow B (tS ti) (kS ti).length (.slice (some ⟨g, 0, none⟩) n c) n (P ++ (A ++ S)).flatten) (hB : B ≤ w.heap.size) :
 Calls Tryz.prog (fInser ti) #[.slice (some ⟨g, 0, none⟩) n c, .int .i64 za, .int .i64 zb, .func (.func K) #[] #[]] w fun e w' => e = .returned (.tuple #[]) ∧ ∃ C, C.Perm A ∧ Pl.Srt (lessO ord) C ∧ w'.ownsRow B (tS ti) (kS ti).length (.slice (some ⟨g, 0, none⟩) n c) n (P ++ (C ++ S)).flatten ∧ Below B w w' := by
 have HTV := Lib.hid hti
 obtain ⟨dT, hu0, hdT⟩ := undV ti HTV.out
 have HUV := Lib.hid hu0
 have HDV := Lib.hid (rowV dT hdT)
 clear hu0 hti hdT
 have hent := hT.1
 rcases Nat.eq_zero_or_pos A.length with h0 | h0
 · skip
   have hA : A = [] := List.length_eq_zero_iff.1 h0
   have HEND : Hid (∃ C, C.Perm A ∧ Pl.Srt (lessO ord) C ∧ w.ownsRow B (tS ti) (kS ti).length (.slice (some ⟨g, 0, none⟩) n c) n (P ++ (C ++ S)).flatten ∧ Below B w w) := Lib.hid ⟨A, List.Perm.refl _, by rw [hA]; exact Pl.Srt.nil, ho, Below.refl _ _⟩
   have hln : P.length ≤ n := by rw [hn, List.length_append]; omega
   rw [h0] at hzb
   obtain ⟨a, hpa⟩ : ∃ a, P.length = a := ⟨_, rfl⟩
   rw [hpa] at hza hzb hln
   subst hza hzb
   clear hn hM ho hB hpa h0 hA
   rcases HTV.out with rfl | rfl
   all_goals
    first
     | go_enter Tryz.func208, Tryz.ntmps208
     | go_enter Tryz.func210, Tryz.ntmps210
    go_wp2_with fail
    go_loopw [8] (fun iv wr => iv = .int .i64 ((a : Int) + 1) ∧ Hid (wr = w)) (fun _ _ => 0)
    case atStart => exact ⟨by first | rfl | go_num, Lib.hid rfl⟩
    case round =>
     obtain ⟨rfl, hwr⟩ := hrel
     go_wp2_with fail
     go_end0
     rw [hwr.out]
     exact ⟨rfl, HEND.out⟩
 · skip
   have HTC := Lib.hid hT.2
   have HW := Lib.hid hW
   have HN := Lib.hid hn
   have HM := Lib.hid hM
   have HBW := Lib.hid hB
   have hln : P.length + A.length ≤ n := by rw [hn, List.length_append, List.length_append]; omega
   obtain ⟨v0, A1, hA⟩ : ∃ v A1, A = v :: A1 := by
    cases A with
    | nil => simp at h0
    | cons v A1 => exact ⟨v, A1, rfl⟩
   have HS0 : Hid (Pl.Srt (lessO ord) [v0]) := Lib.hid (Pl.Srt.one v0)
   have HP0 : Hid (([v0] ++ A1).Perm A) := Lib.hid (by rw [hA]; exact List.Perm.refl _)
   have HO0 : Hid (w.ownsRow B (tS ti) (kS ti).length (.slice (some ⟨g, 0, none⟩) n c) n (P ++ ([v0] ++ (A1 ++ S))).flatten) := Lib.hid (by rw [hA] at ho; exact ho)
   have HLA : Hid (∀ C R : List (List Value), (C ++ R).Perm A → C.length + R.length = A.length) := Lib.hid (fun C R h => by have := h.length_eq; rwa [List.length_append] at this)
   obtain ⟨m, hm⟩ : ∃ m, A.length = m := ⟨_, rfl⟩
   obtain ⟨a, hpa⟩ : ∃ a, P.length = a := ⟨_, rfl⟩
   obtain ⟨b, hb⟩ : ∃ b, a + m = b := ⟨_, rfl⟩
   have HPA := Lib.hid hpa
   rw [hm] at hln hzb HLA h0
   rw [hpa] at hza hzb hln
   rw [hb] at hzb hln
   subst hza hzb
   have hab : a + 1 ≤ b := by omega
   have HAB := Lib.hid hb
   clear hn hM ho hB hpa hm hA hT hW hb h0
   rcases HTV.out with rfl | rfl
   all_goals
    first
     | go_enter Tryz.func208, Tryz.ntmps208
     | go_enter Tryz.func210, Tryz.ntmps210
    go_wp2_with fail
    go_loopw [8] (fun iv wr => ∃ (i : Nat) (C R : List (List Value)), a + 1 ≤ i ∧ i ≤ b ∧ iv = .int .i64 (i : Int) ∧ Hid (a + C.length = i) ∧ Hid ((C ++ R).Perm A) ∧ Hid (Pl.Srt (lessO ord) C) ∧ Hid (wr.ownsRow B (tS (ixV HTV)) (kS (ixV HTV)).length (.slice (some ⟨g, 0, none⟩) n c) n (P ++ (C ++ (R ++ S))).flatten) ∧ Hid (Below B w wr)) (fun iv _ => b - (intOf iv).toNat)
    case atStart => exact ⟨a + 1, [v0], A1, by omega, hab, by first | rfl | go_num, Lib.hid rfl, HP0, HS0, HO0, Lib.hid (Below.refl _ _)⟩
    case round =>
     obtain ⟨i, C, R, hi1, hi, rfl, HCL, HPE, HSC, HOM, HBM⟩ := hrel
     by_cases hlt : i < b
     · skip
       obtain ⟨v, R', hR⟩ : ∃ v R', R = v :: R' := by
        cases R with
        | nil =>
         have h1 := HLA.out _ _ HPE.out
         have h2 := HCL.out
         have h3 := HAB.out
         simp only [List.length_nil] at h1
         omega
        | cons v R' => exact ⟨v, R', rfl⟩
       subst hR
       have HS0' : Hid (Pl.Sink (lessO ord) P (R' ++ S) (P ++ (C ++ (v :: R' ++ S))) v C []) := Lib.hid ⟨by simp, by rw [List.append_nil]; exact HSC.out, fun b hb => by cases hb⟩
       have HPR : Hid (∀ M A' B', Pl.Sink (lessO ord) P (R' ++ S) M v A' B' → (A' ++ B').Perm C → M.Perm (P ++ (A ++ S)) ∧ ((A' ++ v :: B') ++ R').Perm A) := Lib.hid (fun M A' B' h1 h2 => sink_perm h1 h2 HPE.out)
       have HPC : Hid ((C ++ []).Perm C) := Lib.hid (by rw [List.append_nil])
       have hci := HCL.out
       clear HS0 HP0 HO0
       go_wp2_with fail
       go_loopw [9] (fun jv wr => ∃ (j : Nat) (A' B' M : List (List Value)), a ≤ j ∧ j ≤ i ∧ jv = .int .i64 (j : Int) ∧ Hid (a + A'.length = j) ∧ Hid ((A' ++ B').Perm C) ∧ Hid (Pl.Sink (lessO ord) P (R' ++ S) M v A' B') ∧ Hid (wr.ownsRow B (tS (ixV HTV)) (kS (ixV HTV)).length (.slice (some ⟨g, 0, none⟩) n c) n (M).flatten) ∧ Hid (Below B w wr)) (fun jv _ => (intOf jv).toNat)
       case atStart => exact ⟨i, C, [], _, by omega, by omega, rfl, HCL, HPC, HS0', HOM, HBM⟩
       case round =>
        obtain ⟨j, A', B', M, haj, hji, rfl, HJL, HPI, HS, HO, HB⟩ := hrel
        clear hci
        by_cases hja : j = a
        · skip
          have hA0 : A' = [] := List.length_eq_zero_iff.1 (by have := HJL.out; omega)
          have HQS := Lib.hid (HS.out.done HW.out (.inl hA0))
          have HQP := Lib.hid (HPR.out _ _ _ HS.out HPI.out).2
          have HQL : Hid (a + (A' ++ v :: B').length = i + 1) := Lib.hid (by have h1 := HPI.out.length_eq; have h2 := HCL.out; have h3 := HJL.out; simp only [List.length_append, List.length_cons] at h1 h3 ⊢; omega)
          have hM' : M = P ++ ((A' ++ v :: B') ++ (R' ++ S)) := by rw [HS.out.lst, List.append_assoc]
          rw [hM'] at HO
          clear hA0 hM'
          subst hja
          go_wp2_with fail
          go_quiet (fail)
          go_wp2_with fail
          go_roundw
          case rel => exact ⟨i + 1, _, _, by omega, by omega, by go_num, HQL, HQP, HQS, Lib.hid (own_below HO.out (below_drewN (Below.refl _ _) _)), Lib.hid (below_drewN HB.out _)⟩
          case measure => simp [intOf]; omega
        · skip
          obtain ⟨A0, y, hA'⟩ : ∃ A0 y, A' = A0 ++ [y] := by
           have hne : A' ≠ [] := by intro h; have := HJL.out; rw [h] at this; simp at this; omega
           exact ⟨A'.dropLast, A'.getLast hne, (List.dropLast_concat_getLast hne).symm⟩
          subst hA'
          obtain ⟨q, hq⟩ : ∃ q, j = q + 1 := ⟨j - 1, by omega⟩
          subst hq
          have hql : P.length + A0.length = q := by have h1 := HJL.out; rw [List.length_append, List.length_singleton] at h1; have h2 := HPA.out; omega
          have HV1 : Hid (M[q + 1]? = some v) := Lib.hid (by
           have e := some_at HS.out.here
           rw [show P.length + (A0 ++ [y]).length = q + 1 from by rw [List.length_append, List.length_singleton]; omega] at e
           exact e)
          have HY1 : Hid (M[q]? = some y) := Lib.hid (by
           have e := some_at HS.out.below
           rw [hql] at e
           exact e)
          have hpm := HPR.out _ _ _ HS.out HPI.out
          have HTM : Hid (Things (kS (ixV HTV)) M) := Lib.hid (things_perm HM.out hpm.1)
          have HMN : Hid (n = M.length) := Lib.hid (HN.out.trans hpm.1.length_eq.symm)
          have FX : Hid (Fits (kS (ixV HTV)) v) := Lib.hid (at_fits HTM.out HV1.out)
          have FY : Hid (Fits (kS (ixV HTV)) y) := Lib.hid (at_fits HTM.out HY1.out)
          have HLX : Hid (v.length = (kS (ixV HTV)).length) := Lib.hid (FX.out.length)
          have HIX : Hid ((Tryz.prog.info? (tS (ixV HTV))).map (·.size) = some v.length) := Lib.hid (by rw [HLX.out]; exact sizeV _ HTV.out)
          have HAX : Hid ((Tryz.prog.info? (tS (ixV HTV))).map (·.size) = some v.toArray.size) := Lib.hid (by rw [List.size_toArray, HLX.out]; exact sizeV _ HTV.out)
          have HOX : Hid (v.toArray.all (·.oneCell') = true) := Lib.hid (all_oneCell_toArray (fits_one FX.out))
          have HLY : Hid (y.length = (kS (ixV HTV)).length) := Lib.hid (FY.out.length)
          have HIY : Hid ((Tryz.prog.info? (tS (ixV HTV))).map (·.size) = some y.length) := Lib.hid (by rw [HLY.out]; exact sizeV _ HTV.out)
          have HAY : Hid ((Tryz.prog.info? (tS (ixV HTV))).map (·.size) = some y.toArray.size) := Lib.hid (by rw [List.size_toArray, HLY.out]; exact sizeV _ HTV.out)
          have HOY : Hid (y.toArray.all (·.oneCell') = true) := Lib.hid (all_oneCell_toArray (fits_one FY.out))
          have HRV : Hid (∀ W, Below wr.heap.size wr W → W.rangeAt g ((q + 1) * (kS (ixV HTV)).length) v) := Lib.hid (fun W hW => row_at (own_below HO.out hW) HTM.out rfl HMN.out HV1.out)
          have HRY : Hid (∀ W, Below wr.heap.size wr W → W.rangeAt g (q * (kS (ixV HTV)).length) y) := Lib.hid (fun W hW => row_at (own_below HO.out hW) HTM.out rfl HMN.out HY1.out)
          have hqn : q + 1 < n := by rw [HMN.out]; exact at_lt HV1.out
          have HQL0 := Lib.hid hql
          obtain ⟨r, hr⟩ : ∃ r, ord v y = r := ⟨_, rfl⟩
          have HCV : Hid (∀ W, Calls Tryz.prog K #[.agg v.toArray, .agg y.toArray] W fun e w' => e = .returned (.int .i64 r) ∧ Below W.heap.size W w') := Lib.hid (fun W => by rw [← hr]; exact HTC.out W v y FX.out FY.out)
          have hcl := lessO_int ord v y hr
          have hg1 : decide ((a : Int) < (q : Int) + 1) = true := by simp; omega
          have hg2 : decide (a < q + 1) = true := by simp; omega
          have hg3 : decide (a ≤ q) = true := by simp; omega
          clear hql hr hpm
          go_wp2_with fail
          refine wp_grow wr (by kernel_rfl) (by kernel_rfl) (Below.refl _ _) ?_
          simp only []
          iterate 8 go_big_quiet_step (fail)
          refine BigFrame.wpQuiet_want (by kernel_rfl) (fun K hK => quiet_load_mid (tS (ixV HTV)) (.tmp 25) rfl g ((q + 1) * (kS (ixV HTV)).length) rfl v _ (fun W ⟨X, hX⟩ => by rw [hX]; exact HRV.out _ X.h) HUV.out HDV.out HIX.out (hK _ ?_))
          simp only [ax]
          iterate 4 go_big_quiet_step (fail)
          refine BigFrame.wpQuiet_want (by kernel_rfl) (fun K hK => quiet_load_mid (tS (ixV HTV)) (.tmp 30) rfl g (q * (kS (ixV HTV)).length) rfl y _ (fun W ⟨X, hX⟩ => by rw [hX]; exact HRY.out _ X.h) HUV.out HDV.out HIY.out (hK _ ?_))
          simp only [ax]
          go_big_quiet_step (exact grow_call _ (HCV.out _))
          iterate 2 go_big_quiet_step (fail)
          refine wpQuiet_nil ?_
          intro X
          have hb4 := X.h
          obtain ⟨W4, hW4⟩ : ∃ W, X.W = W := ⟨_, rfl⟩
          rw [hW4] at hb4 ⊢
          clear hW4 X
          have HB4 := Lib.hid hb4
          have HO4 := Lib.hid (own_below HO.out hb4)
          clear hb4
          cases hyv : lessO ord v y with
          | true =>
           have HNX := HS.out.next hyv
           rw [HQL0.out] at HNX
           have HNX' := Lib.hid HNX
           have HPN : Hid ((A0 ++ (y :: B')).Perm C) := Lib.hid (by have := HPI.out; rwa [List.append_assoc] at this)
           rw [hyv] at hcl
           clear HNX hyv
           have HSW := Lib.hid (row_swap (own_below HO4.out (Below.refl _ _).drew) (own_ge HO4.out) HTM.out rfl HMN.out HV1.out HY1.out)
           go_wp2_with fail
           have hwq : IntKind.i64.wrap (q : Int) = (q : Int) := IntWalk.i64_in _ (by omega)
           apply region_to
           case h =>
            refine wp_region_any (by kernel_rfl) ?_
            refine tkA 0 (.slice (some ⟨g, 0, none⟩) n c) rfl ?_
            simp only [ax]
            refine tkA 1 (.int .i64 ((q + 1 : Nat) : Int)) rfl ?_
            simp only [ax]
            refine tkA 2 (.slice (some ⟨g, 0, none⟩) n c) rfl ?_
            simp only [ax]
            refine tkA 3 (.int .i64 ((q + 1 : Nat) : Int)) rfl ?_
            simp only [ax]
            refine tkA 4 (.int .i64 (q : Int)) rfl ?_
            simp only [ax]
            refine tkA 5 (.slice (some ⟨g, 0, none⟩) n c) rfl ?_
            simp only [ax]
            refine tkA 6 (.int .i64 ((q + 1 : Nat) : Int)) rfl ?_
            simp only [ax]
            refine tkA 7 (.int .i64 (q : Int)) rfl ?_
            simp only [ax]
            refine tkO 8 (.pointer (some ⟨g, q * (kS (ixV HTV)).length, none⟩)) rfl ?_
            simp only [ax]
            refine tkA 10 (.slice (some ⟨g, 0, none⟩) n c) rfl ?_
            simp only [ax]
            refine tkA 11 (.int .i64 ((q + 1 : Nat) : Int)) rfl ?_
            simp only [ax]
            refine tkO 12 (.pointer (some ⟨g, (q + 1) * (kS (ixV HTV)).length, none⟩)) rfl ?_
            simp only [ax]
            refine wpAny_ready (rs := [9, 13]) (by kernel_rfl) (by simp) ?_
            refine AllReady.cons rfl (fun K hK => ?_) (AllReady.cons rfl (fun K hK => ?_) AllReady.nil)
            · skip
              refine wp_load_mid (tS (ixV HTV)) (.tmp 45) rfl g (q * (kS (ixV HTV)).length) rfl y _ HSW.out.2.1 HUV.out HDV.out HIY.out (hK _ _ ?_)
              clear hK K
              simp only [ax]
              refine wpAny_ready (rs := [13]) (by kernel_rfl) (by simp) ?_
              refine AllReady.cons rfl (fun K hK => ?_) AllReady.nil
              refine wp_load_mid (tS (ixV HTV)) (.tmp 49) rfl g ((q + 1) * (kS (ixV HTV)).length) rfl v _ HSW.out.1 HUV.out HDV.out HIX.out (hK _ _ ?_)
              clear hK K
              simp only [ax]
              refine tkO 14 (.pointer (some ⟨g, (q + 1) * (kS (ixV HTV)).length, none⟩)) rfl ?_
              simp only [ax]
              refine wpAny_ready (rs := [15]) (by kernel_rfl) (by simp) ?_
              refine AllReady.cons rfl (fun K hK => ?_) AllReady.nil
              refine wp_store_mid (tS (ixV HTV)) (.tmp 51) (.tmp 46) rfl g ((q + 1) * (kS (ixV HTV)).length) y.toArray rfl rfl (by rw [List.size_toArray, HLY.out]; exact HSW.out.2.2.1) HAY.out HOY.out (hK _ _ ?_)
              clear hK K
              simp only [ax]
              refine tkO 16 (.pointer (some ⟨g, q * (kS (ixV HTV)).length, none⟩)) rfl ?_
              simp only [ax]
              refine wpAny_ready (rs := [17]) (by kernel_rfl) (by simp) ?_
              refine AllReady.cons rfl (fun K hK => ?_) AllReady.nil
              refine wp_store_mid (tS (ixV HTV)) (.tmp 52) (.tmp 50) rfl g (q * (kS (ixV HTV)).length) v.toArray rfl rfl (by rw [List.size_toArray, HLX.out]; exact HSW.out.2.2.2.1) HAX.out HOX.out (hK _ _ ?_)
              clear hK K
              simp only [ax]
              refine wpAny_done (by kernel_rfl) ?_ _
              exact ⟨rfl, rfl, rfl⟩
            · skip
              refine wp_load_mid (tS (ixV HTV)) (.tmp 49) rfl g ((q + 1) * (kS (ixV HTV)).length) rfl v _ HSW.out.1 HUV.out HDV.out HIX.out (hK _ _ ?_)
              clear hK K
              simp only [ax]
              refine wpAny_ready (rs := [9]) (by kernel_rfl) (by simp) ?_
              refine AllReady.cons rfl (fun K hK => ?_) AllReady.nil
              refine wp_load_mid (tS (ixV HTV)) (.tmp 45) rfl g (q * (kS (ixV HTV)).length) rfl y _ HSW.out.2.1 HUV.out HDV.out HIY.out (hK _ _ ?_)
              clear hK K
              simp only [ax]
              refine tkO 14 (.pointer (some ⟨g, (q + 1) * (kS (ixV HTV)).length, none⟩)) rfl ?_
              simp only [ax]
              refine wpAny_ready (rs := [15]) (by kernel_rfl) (by simp) ?_
              refine AllReady.cons rfl (fun K hK => ?_) AllReady.nil
              refine wp_store_mid (tS (ixV HTV)) (.tmp 51) (.tmp 46) rfl g ((q + 1) * (kS (ixV HTV)).length) y.toArray rfl rfl (by rw [List.size_toArray, HLY.out]; exact HSW.out.2.2.1) HAY.out HOY.out (hK _ _ ?_)
              clear hK K
              simp only [ax]
              refine tkO 16 (.pointer (some ⟨g, q * (kS (ixV HTV)).length, none⟩)) rfl ?_
              simp only [ax]
              refine wpAny_ready (rs := [17]) (by kernel_rfl) (by simp) ?_
              refine AllReady.cons rfl (fun K hK => ?_) AllReady.nil
              refine wp_store_mid (tS (ixV HTV)) (.tmp 52) (.tmp 50) rfl g (q * (kS (ixV HTV)).length) v.toArray rfl rfl (by rw [List.size_toArray, HLX.out]; exact HSW.out.2.2.2.1) HAX.out HOX.out (hK _ _ ?_)
              clear hK K
              simp only [ax]
              refine wpAny_done (by kernel_rfl) ?_ _
              exact ⟨rfl, rfl, rfl⟩
           case hq =>
            have HBN := Lib.hid ((HB.out.trans (HB4.out.mono (Nat.le_trans HBW.out HB.out.size))).trans ((Below.refl B W4).drew.trans HSW.out.2.2.2.2.2))
            have HON := Lib.hid HSW.out.2.2.2.2.1
            have HJN : Hid (a + A0.length = q) := Lib.hid (by have h1 := HQL0.out; have h2 := HPA.out; omega)
            go_wp2_with fail
            go_roundw
            case rel => exact ⟨q, A0, y :: B', _, by omega, by omega, by go_num, HJN, HPN, HNX', HON, HBN⟩
            case measure => simp [intOf]
          | false =>
           have HQS := Lib.hid (HS.out.done HW.out (.inr ⟨A0, y, rfl, hyv⟩))
           have HQP := Lib.hid (HPR.out _ _ _ HS.out HPI.out).2
           have HQL : Hid (a + ((A0 ++ [y]) ++ v :: B').length = i + 1) := Lib.hid (by have h1 := HPI.out.length_eq; have h2 := HCL.out; have h3 := HJL.out; simp only [List.length_append, List.length_cons, List.length_nil] at h1 h3 ⊢; omega)
           have hM' : M = P ++ (((A0 ++ [y]) ++ v :: B') ++ (R' ++ S)) := by rw [HS.out.lst, List.append_assoc]
           rw [hM'] at HO4
           rw [hyv] at hcl
           clear hM' hyv
           go_wp2_with fail
           go_roundw
           case rel => exact ⟨i + 1, _, _, by omega, by omega, by go_num, HQL, HQP, HQS, HO4, Lib.hid (HB.out.trans (HB4.out.mono (Nat.le_trans HBW.out HB.out.size)))⟩
           case measure => simp [intOf]; omega
     · have hib : i = b := by omega
       have hR : R = [] := List.length_eq_zero_iff.1 (by have h1 := HLA.out _ _ HPE.out; have h2 := HCL.out; have h3 := HAB.out; omega)
       rw [hR] at HOM HPE
       simp only [List.append_nil, List.nil_append] at HOM HPE
       clear hR hib
       go_wp2_with fail
       go_end0
       exact ⟨rfl, C, HPE.out, HSC.out, HOM.out, HBM.out⟩
end Go.Proofs.YtgbilfkjfeheaaaGreat
