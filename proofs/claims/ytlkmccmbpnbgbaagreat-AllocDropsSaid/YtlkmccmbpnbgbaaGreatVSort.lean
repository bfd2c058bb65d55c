/-
 PLAIN: sorted lists by a weak order; what a STABLE sort by insertion and by merging in place keeps. (By wip/tools/gen_wsort.py.)
-/
import Derived.Test.YtlkmccmbpnbgbaaGreatOPl
namespace Go.Proofs.YtlkmccmbpnbgbaaGreat
set_option linter.unusedVariables false
namespace Pl

/-- A list in which nothing stands ahead of what is less. -/
def Srt {α : Type} (lt : α → α → Bool) (M : List α) : Prop := M.Pairwise (fun a b => lt b a = false)
theorem Srt.nil {α : Type} {lt : α → α → Bool} : Srt lt ([] : List α) := List.Pairwise.nil
theorem Srt.one {α : Type} {lt : α → α → Bool} (x : α) : Srt lt [x] := List.pairwise_singleton _ _
theorem srt_app {α : Type} {lt : α → α → Bool} {A B : List α} : Srt lt (A ++ B) ↔ Srt lt A ∧ Srt lt B ∧ ∀ a ∈ A, ∀ b ∈ B, lt b a = false := List.pairwise_append
theorem srt_cons {α : Type} {lt : α → α → Bool} {x : α} {B : List α} : Srt lt (x :: B) ↔ (∀ b ∈ B, lt b x = false) ∧ Srt lt B := List.pairwise_cons
theorem Srt.take {α : Type} {lt : α → α → Bool} {A : List α} (h : Srt lt A) (k : Nat) : Srt lt (A.take k) := h.sublist (List.take_sublist k A)
theorem Srt.drop {α : Type} {lt : α → α → Bool} {A : List α} (h : Srt lt A) (k : Nat) : Srt lt (A.drop k) := h.sublist (List.drop_sublist k A)
theorem Srt.at {α : Type} {lt : α → α → Bool} (W : Weak lt) {A : List α} (h : Srt lt A) {i j : Nat} (hij : i ≤ j) (hj : j < A.length) : lt A[j] A[i] = false := by
 by_cases e : i = j
 · subst e; exact W.irr _
 · exact List.pairwise_iff_getElem.1 h i j (by omega) hj (by omega)
/-- x goes in between: what stands ahead is not greater, what stands behind is not less. -/
theorem srt_mid {α : Type} {lt : α → α → Bool} (W : Weak lt) {A B : List α} {x : α} (h : Srt lt (A ++ B)) (ha : ∀ a ∈ A, lt x a = false) (hb : ∀ b ∈ B, lt b x = false) : Srt lt (A ++ x :: B) := by
 obtain ⟨h1, h2, h3⟩ := srt_app.1 h
 refine srt_app.2 ⟨h1, srt_cons.2 ⟨hb, h2⟩, fun a hA b hB => ?_⟩
 rcases List.mem_cons.1 hB with rfl | hB
 · exact ha a hA
 · exact h3 a hA b hB
/-- What is not less than what stands last is not less than what stands ahead. -/
theorem lt_last {α : Type} {lt : α → α → Bool} (W : Weak lt) {A : List α} {y v : α} (h : Srt lt (A ++ [y])) (hv : lt v y = false) : ∀ a ∈ A ++ [y], lt v a = false := by
 obtain ⟨_, _, h3⟩ := srt_app.1 h
 intro a ha
 rcases List.mem_append.1 ha with ha | ha
 · cases hq : lt v a with
   | false => rfl
   | true =>
    rcases W.nt v y a hq with h4 | h4
    · rw [hv] at h4; cases h4
    · rw [h3 a ha y (List.mem_singleton.2 rfl)] at h4; cases h4
 · rw [List.mem_singleton] at ha; subst ha; exact hv
/-- Two things change places. -/
theorem swap_at {α : Type} (P Q S : List α) (x y : α) : ((P ++ x :: (Q ++ y :: S)).set P.length y).set (P.length + 1 + Q.length) x = P ++ y :: (Q ++ x :: S) := by
 rw [List.set_append_right _ _ (by omega), Nat.sub_self, List.set_cons_zero, List.set_append_right _ _ (by omega), show P.length + 1 + Q.length - P.length = Q.length + 1 from by omega, List.set_cons_succ, List.set_append_right _ _ (by omega), Nat.sub_self, List.set_cons_zero]
/-- An insertion sort's inner round: v goes down through A; B is what it went by. -/
structure Sink {α : Type} (lt : α → α → Bool) (P S M : List α) (v : α) (A B : List α) : Prop where
 lst : M = P ++ (A ++ v :: B) ++ S
 srt : Srt lt (A ++ B)
 big : ∀ b ∈ B, lt v b = true
theorem Sink.here {α : Type} {lt : α → α → Bool} {P S M A B : List α} {v : α} (h : Sink lt P S M v A B) : ∃ hj : P.length + A.length < M.length, M[P.length + A.length] = v := by
 have := h.lst
 subst this
 exact ⟨by simp, by simp⟩
theorem Sink.below {α : Type} {lt : α → α → Bool} {P S M A B : List α} {y v : α} (h : Sink lt P S M v (A ++ [y]) B) : ∃ hj : P.length + A.length < M.length, M[P.length + A.length] = y := by
 have := h.lst
 subst this
 exact ⟨by simp, by simp⟩
theorem Sink.done {α : Type} {lt : α → α → Bool} (W : Weak lt) {P S M A B : List α} {v : α} (h : Sink lt P S M v A B) (hl : A = [] ∨ ∃ A0 y, A = A0 ++ [y] ∧ lt v y = false) : Srt lt (A ++ v :: B) := by
 refine srt_mid W h.srt ?_ (fun b hb => W.asymm (h.big b hb))
 rcases hl with rfl | ⟨A0, y, rfl, hy⟩
 · intro a ha; cases ha
 · exact lt_last W (srt_app.1 h.srt).1 hy
theorem Sink.next {α : Type} {lt : α → α → Bool} {P S M A B : List α} {y v : α} (h : Sink lt P S M v (A ++ [y]) B) (hy : lt v y = true) : Sink lt P S ((M.set (P.length + A.length + 1) y).set (P.length + A.length) v) v A (y :: B) := by
 refine ⟨?_, ?_, ?_⟩
 · have e : M = (P ++ A) ++ y :: ([] ++ v :: (B ++ S)) := by rw [h.lst]; simp
   have := swap_at (P ++ A) [] (B ++ S) y v
   rw [← e] at this
   simp only [List.length_append, List.length_nil, Nat.add_zero] at this
   rw [List.set_comm _ _ (by omega), this]
   simp
 · have := h.srt
   rw [List.append_assoc] at this
   exact this
 · intro b hb
   rcases List.mem_cons.1 hb with rfl | hb
   · exact hy
   · exact h.big b hb
/-- By the order alike. -/
def al {α : Type} (lt : α → α → Bool) (x y : α) : Bool := !lt x y && !lt y x
theorem al_iff {α : Type} {lt : α → α → Bool} {x y : α} : al lt x y = true ↔ lt x y = false ∧ lt y x = false := by unfold al; simp
theorem al_self {α : Type} {lt : α → α → Bool} (W : Weak lt) (x : α) : al lt x x = true := al_iff.2 ⟨W.irr x, W.irr x⟩
/-- The same things, alike ones in the same order. -/
structure Stb {α : Type} (lt : α → α → Bool) (C A : List α) : Prop where
 perm : C.Perm A
 alk : ∀ x, C.filter (al lt x) = A.filter (al lt x)
theorem Stb.refl {α : Type} (lt : α → α → Bool) (A : List α) : Stb lt A A := ⟨List.Perm.refl _, fun _ => rfl⟩
theorem Stb.trans {α : Type} {lt : α → α → Bool} {A B C : List α} (h : Stb lt A B) (k : Stb lt B C) : Stb lt A C := ⟨h.perm.trans k.perm, fun x => (h.alk x).trans (k.alk x)⟩
theorem Stb.length_eq {α : Type} {lt : α → α → Bool} {A B : List α} (h : Stb lt A B) : A.length = B.length := h.perm.length_eq
theorem Stb.append {α : Type} {lt : α → α → Bool} {A B C D : List α} (h : Stb lt A B) (k : Stb lt C D) : Stb lt (A ++ C) (B ++ D) := ⟨h.perm.append k.perm, fun x => by rw [List.filter_append, List.filter_append, h.alk, k.alk]⟩
theorem Stb.append_left {α : Type} {lt : α → α → Bool} {A B : List α} (X : List α) (h : Stb lt A B) : Stb lt (X ++ A) (X ++ B) := (Stb.refl lt X).append h
theorem Stb.append_right {α : Type} {lt : α → α → Bool} {A B : List α} (h : Stb lt A B) (X : List α) : Stb lt (A ++ X) (B ++ X) := h.append (Stb.refl lt X)
theorem Stb.swap {α : Type} {lt : α → α → Bool} (W : Weak lt) {R L : List α} (h : ∀ x ∈ R, ∀ y ∈ L, lt x y = true) : Stb lt (R ++ L) (L ++ R) := by
 refine ⟨List.perm_append_comm, fun x => ?_⟩
 rw [List.filter_append, List.filter_append]
 cases hR : R.filter (al lt x) with
 | nil => simp
 | cons r R' =>
  have hr : r ∈ R.filter (al lt x) := by rw [hR]; exact List.mem_cons_self
  obtain ⟨hr1, hr2⟩ := List.mem_filter.1 hr
  have hL : L.filter (al lt x) = [] := by
   rw [List.filter_eq_nil_iff]
   intro y hy ha
   have h1 := h r hr1 y hy
   have h2 := al_iff.1 hr2
   have h3 := al_iff.1 ha
   rcases W.nt r x y h1 with h4 | h4
   · rw [h2.2] at h4; cases h4
   · rw [h3.1] at h4; cases h4
  rw [hL]; simp
/-- Two sorted lists of the same things, alike ones in the same order, are one. -/
theorem Stb.unique {α : Type} {lt : α → α → Bool} (W : Weak lt) : ∀ {C D : List α}, Srt lt C → Srt lt D → Stb lt C D → C = D
 | [], D, _, _, h => by
  have := h.length_eq
  exact (List.length_eq_zero_iff.1 this.symm).symm
 | c :: C, [], _, _, h => by have := h.length_eq; simp at this
 | c :: C, d :: D, hc, hd, h => by
  have e1 : lt d c = false := by
   have : d ∈ c :: C := h.perm.mem_iff.2 List.mem_cons_self
   rcases List.mem_cons.1 this with e | e
   · rw [e]; exact W.irr c
   · exact (srt_cons.1 hc).1 d e
  have e2 : lt c d = false := by
   have : c ∈ d :: D := h.perm.mem_iff.1 List.mem_cons_self
   rcases List.mem_cons.1 this with e | e
   · rw [e]; exact W.irr d
   · exact (srt_cons.1 hd).1 c e
  have hk := h.alk c
  rw [List.filter_cons_of_pos (al_self W c), List.filter_cons_of_pos (al_iff.2 ⟨e2, e1⟩)] at hk
  injection hk with k1 k2
  subst k1
  rw [Stb.unique W (srt_cons.1 hc).2 (srt_cons.1 hd).2 ⟨h.perm.cons_inv, fun x => by
   have := h.alk x
   by_cases q : al lt x c = true
   · rw [List.filter_cons_of_pos q, List.filter_cons_of_pos q] at this
     injection this
   · rw [List.filter_cons_of_neg q, List.filter_cons_of_neg q] at this
     exact this⟩]
/-- The halves of a merge: what goes down is not greater than what stays above. -/
theorem srt_halves {α : Type} {lt : α → α → Bool} (W : Weak lt) {L1 L2 R1 R2 C1 C2 : List α} (hL : Srt lt (L1 ++ L2)) (hR : Srt lt (R1 ++ R2)) (h1 : ∀ x ∈ L1, ∀ y ∈ R2, lt y x = false) (h2 : ∀ x ∈ R1, ∀ y ∈ L2, lt x y = true)
 (p1 : Stb lt C1 (L1 ++ R1)) (p2 : Stb lt C2 (L2 ++ R2)) (s1 : Srt lt C1) (s2 : Srt lt C2) : Srt lt (C1 ++ C2) ∧ Stb lt (C1 ++ C2) (L1 ++ L2 ++ (R1 ++ R2)) := by
 refine ⟨srt_app.2 ⟨s1, s2, fun x hx y hy => ?_⟩, ?_⟩
 · rcases List.mem_append.1 (p1.perm.mem_iff.1 hx) with hx | hx <;> rcases List.mem_append.1 (p2.perm.mem_iff.1 hy) with hy | hy
   · exact (srt_app.1 hL).2.2 x hx y hy
   · exact h1 x hx y hy
   · exact W.asymm (h2 x hx y hy)
   · exact (srt_app.1 hR).2.2 x hx y hy
 · refine (p1.append p2).trans ?_
   have h := ((Stb.swap W h2).append_left L1).append_right R2
   simp only [List.append_assoc] at h ⊢
   exact h
/-- Runs of s things are sorted. -/
def Runs {α : Type} (lt : α → α → Bool) (s : Nat) (M : List α) : Prop := ∀ k, Srt lt ((M.drop (k * s)).take s)
theorem Runs.nil {α : Type} {lt : α → α → Bool} (s : Nat) : Runs lt s ([] : List α) := fun k => by simp; exact Srt.nil
theorem Runs.all {α : Type} {lt : α → α → Bool} {s : Nat} {M : List α} (h : Runs lt s M) (hs : M.length ≤ s) : Srt lt M := by
 have := h 0
 rw [Nat.zero_mul, List.drop_zero, List.take_of_length_le hs] at this
 exact this
theorem Runs.first {α : Type} {lt : α → α → Bool} {s : Nat} {A B : List α} (h : Runs lt s (A ++ B)) (hs : A.length = s) : Srt lt A := by
 have := h 0
 rw [Nat.zero_mul, List.drop_zero, ← hs, List.take_left] at this
 exact this
theorem Runs.rest {α : Type} {lt : α → α → Bool} {s : Nat} {A B : List α} (h : Runs lt s (A ++ B)) (hs : A.length = s) : Runs lt s B := fun k => by
 have := h (k + 1)
 rw [Nat.succ_mul, Nat.add_comm (k * s) s, ← List.drop_drop, ← hs, List.drop_left] at this
 rw [← hs]
 exact this
theorem Runs.snoc {α : Type} {lt : α → α → Bool} {s q : Nat} {X C : List α} (h : Runs lt s X) (hX : X.length = q * s) (hC : C.length ≤ s) (hs : Srt lt C) : Runs lt s (X ++ C) := fun k => by
 by_cases hk : k < q
 · have h1 : (k + 1) * s ≤ q * s := Nat.mul_le_mul_right s hk
   rw [Nat.succ_mul] at h1
   rw [List.drop_append_of_le_length (by omega), List.take_append_of_le_length (by rw [List.length_drop]; omega)]
   exact h k
 · have h1 : q * s ≤ k * s := Nat.mul_le_mul_right s (by omega)
   rw [List.drop_append, List.drop_of_length_le (by omega), List.nil_append]
   exact (hs.drop _).take _
/-- A list parted at a place. -/
theorem part_at {α : Type} (M : List α) (k : Nat) (h : k ≤ M.length) : ∃ A B, M = A ++ B ∧ A.length = k := ⟨M.take k, M.drop k, (List.take_append_drop k M).symm, by rw [List.length_take]; omega⟩
/-- One round of a swap of two ranges. -/
def rng {α : Type} (P X Q Y S : List α) (i : Nat) : List α := P ++ ((Y.take i ++ X.drop i) ++ (Q ++ ((X.take i ++ Y.drop i) ++ S)))
theorem rng_zero {α : Type} (P X Q Y S : List α) : rng P X Q Y S 0 = P ++ (X ++ (Q ++ (Y ++ S))) := by simp [rng]
theorem rng_all {α : Type} (P X Q Y S : List α) {k : Nat} (hX : X.length = k) (hY : Y.length = k) : rng P X Q Y S k = P ++ (Y ++ (Q ++ (X ++ S))) := by
 unfold rng
 rw [List.take_of_length_le (by omega), List.take_of_length_le (by omega), List.drop_of_length_le (by omega), List.drop_of_length_le (by omega), List.append_nil, List.append_nil]
theorem part_one {α : Type} (X : List α) (i : Nat) (h : i < X.length) : ∃ A x B, X = A ++ x :: B ∧ A.length = i ∧ X.take i = A ∧ X.drop i = x :: B ∧ X.take (i + 1) = A ++ [x] ∧ X.drop (i + 1) = B := by
 refine ⟨X.take i, X[i], X.drop (i + 1), ?_, by rw [List.length_take]; omega, rfl, List.drop_eq_getElem_cons h, List.take_succ_eq_append_getElem h, rfl⟩
 rw [← List.drop_eq_getElem_cons h, List.take_append_drop]
theorem at_app {α : Type} (A B : List α) (x : α) {i : Nat} (hi : A.length = i) : ∃ h : i < (A ++ x :: B).length, (A ++ x :: B)[i] = x := by
 subst hi
 exact ⟨by simp, by simp⟩
theorem rng_at {α : Type} (P X Q Y S : List α) {k i : Nat} (hX : X.length = k) (hY : Y.length = k) (hi : i < k) : ∃ x y, ∃ h1 : P.length + i < (rng P X Q Y S i).length, ∃ h2 : P.length + k + Q.length + i < (rng P X Q Y S i).length, (rng P X Q Y S i)[P.length + i] = x ∧ (rng P X Q Y S i)[P.length + k + Q.length + i] = y ∧ ((rng P X Q Y S i).set (P.length + i) y).set (P.length + k + Q.length + i) x = rng P X Q Y S (i + 1) := by
 obtain ⟨X1, x, X2, eX, lX, x1, x2, x3, x4⟩ := part_one X i (by omega)
 obtain ⟨Y1, y, Y2, eY, lY, y1, y2, y3, y4⟩ := part_one Y i (by omega)
 have e : rng P X Q Y S i = (P ++ Y1) ++ x :: ((X2 ++ (Q ++ X1)) ++ y :: (Y2 ++ S)) := by
  unfold rng
  rw [x1, x2, y1, y2]
  simp
 have e2 : rng P X Q Y S (i + 1) = (P ++ Y1) ++ y :: ((X2 ++ (Q ++ X1)) ++ x :: (Y2 ++ S)) := by
  unfold rng
  rw [x3, x4, y3, y4]
  simp
 have l1 : (P ++ Y1).length = P.length + i := by rw [List.length_append, lY]
 have l2 : X2.length = k - i - 1 := by rw [eX] at hX; simp at hX; omega
 have l3 : (P ++ Y1).length + 1 + (X2 ++ (Q ++ X1)).length = P.length + k + Q.length + i := by simp; omega
 rw [e2]
 simp only [e]
 obtain ⟨h1, g1⟩ := at_app (P ++ Y1) ((X2 ++ (Q ++ X1)) ++ y :: (Y2 ++ S)) x l1
 obtain ⟨h2, g2⟩ := at_app ((P ++ Y1) ++ x :: (X2 ++ (Q ++ X1))) (Y2 ++ S) y (i := P.length + k + Q.length + i) (by simp; omega)
 refine ⟨x, y, h1, by simpa using h2, g1, ?_, ?_⟩
 · simpa using g2
 · have := swap_at (P ++ Y1) (X2 ++ (Q ++ X1)) (Y2 ++ S) x y
   rw [l3, l1] at this
   exact this
theorem getD_at {α : Type} (A : List α) (d : α) {i : Nat} (h : i < A.length) : A.getD i d = A[i] := by rw [List.getD_eq_getElem?_getD, List.getElem?_eq_getElem h]; rfl
/-- A place is looked for by halves: f is so ahead of lo, and not so from hi on. -/
structure Bis (f : Nat → Bool) (lo0 hi0 lo hi : Nat) : Prop where
 low : lo0 ≤ lo
 mid : lo ≤ hi
 high : hi ≤ hi0
 yes : ∀ k, lo0 ≤ k → k < lo → f k = true
 no : ∀ k, hi ≤ k → k < hi0 → f k = false
theorem Bis.start (f : Nat → Bool) {lo hi : Nat} (h : lo ≤ hi) : Bis f lo hi lo hi := ⟨Nat.le_refl _, h, Nat.le_refl _, fun k h1 h2 => by omega, fun k h1 h2 => by omega⟩
def Mono (f : Nat → Bool) (lo hi : Nat) : Prop := ∀ i j, lo ≤ i → i ≤ j → j < hi → f j = true → f i = true
theorem Bis.up {f : Nat → Bool} {lo0 hi0 lo hi k : Nat} (h : Bis f lo0 hi0 lo hi) (hm : Mono f lo0 hi0) (h1 : lo ≤ k) (h2 : k < hi) (hf : f k = true) : Bis f lo0 hi0 (k + 1) hi :=
 ⟨by have := h.low; omega, by omega, h.high, fun i hi1 hi2 => hm i k hi1 (by omega) (by have := h.high; omega) hf, h.no⟩
theorem Bis.down {f : Nat → Bool} {lo0 hi0 lo hi k : Nat} (h : Bis f lo0 hi0 lo hi) (hm : Mono f lo0 hi0) (h1 : lo ≤ k) (h2 : k < hi) (hf : f k = false) : Bis f lo0 hi0 lo k :=
 ⟨h.low, h1, by have := h.high; omega, h.yes, fun i hi1 hi2 => by
  cases hq : f i with
  | false => rfl
  | true => rw [hm k i (by have := h.low; omega) hi1 hi2 hq] at hf; cases hf⟩
theorem Weak.lt_le {α : Type} {lt : α → α → Bool} (W : Weak lt) {x y z : α} (h : lt x y = true) (hz : lt z y = false) : lt x z = true := by
 rcases W.nt x z y h with h1 | h1
 · exact h1
 · rw [hz] at h1; cases h1
theorem Weak.le_lt {α : Type} {lt : α → α → Bool} (W : Weak lt) {x y z : α} (h : lt x y = true) (hz : lt x z = false) : lt z y = true := by
 rcases W.nt x z y h with h1 | h1
 · rw [hz] at h1; cases h1
 · exact h1
theorem Srt.getD {α : Type} {lt : α → α → Bool} (W : Weak lt) {A : List α} (h : Srt lt A) (d : α) {i j : Nat} (hij : i ≤ j) (hj : j < A.length) : lt (A.getD j d) (A.getD i d) = false := by
 rw [getD_at _ _ hj, getD_at _ _ (by omega)]
 exact h.at W hij hj
theorem mono_less {α : Type} {lt : α → α → Bool} (W : Weak lt) {B : List α} (h : Srt lt B) (d x : α) : Mono (fun k => lt (B.getD k d) x) 0 B.length := fun i j _ hij hj hf => W.le_lt hf (h.getD W d hij hj)
theorem mono_geq {α : Type} {lt : α → α → Bool} (W : Weak lt) {A : List α} (h : Srt lt A) (d x : α) : Mono (fun k => !lt x (A.getD k d)) 0 A.length := fun i j _ hij hj hf => by
 simp only [Bool.not_eq_true'] at hf ⊢
 cases hq : lt x (A.getD i d) with
 | false => rfl
 | true => rw [W.lt_le hq (h.getD W d hij hj)] at hf; cases hf
theorem mono_cut {α : Type} {lt : α → α → Bool} (W : Weak lt) {A B : List α} (hA : Srt lt A) (hB : Srt lt B) (d : α) (t : Nat) (u0 u1 : Nat) (h1 : u1 ≤ A.length) (h2 : u1 ≤ t) (h3 : t - B.length ≤ u0) (hb : 0 < B.length) : Mono (fun u => !lt (B.getD (t - 1 - u) d) (A.getD u d)) u0 u1 := fun i j hi hij hj hf => by
 simp only [Bool.not_eq_true'] at hf ⊢
 cases hq : lt (B.getD (t - 1 - i) d) (A.getD i d) with
 | false => rfl
 | true =>
  have e1 := W.lt_le hq (hA.getD W d hij (by omega))
  have e2 := W.le_lt e1 (hB.getD W d (show t - 1 - j ≤ t - 1 - i from by omega) (by omega))
  rw [e2] at hf; cases hf
theorem mem_take_getD {α : Type} {A : List α} {s : Nat} {x : α} (d : α) (h : x ∈ A.take s) : ∃ i, i < s ∧ i < A.length ∧ x = A.getD i d := by
 obtain ⟨i, hi, e⟩ := List.mem_iff_getElem.1 h
 rw [List.length_take] at hi
 refine ⟨i, by omega, by omega, ?_⟩
 rw [getD_at _ _ (by omega), ← e, List.getElem_take]
theorem mem_drop_getD {α : Type} {A : List α} {s : Nat} {x : α} (d : α) (h : x ∈ A.drop s) : ∃ i, s ≤ i ∧ i < A.length ∧ x = A.getD i d := by
 obtain ⟨i, hi, e⟩ := List.mem_iff_getElem.1 h
 rw [List.length_drop] at hi
 refine ⟨s + i, by omega, by omega, ?_⟩
 rw [getD_at _ _ (by omega), ← e, List.getElem_drop]
/-- Where two sorted lists are cut for a merge in place. -/
theorem cut_ok {α : Type} {lt : α → α → Bool} (W : Weak lt) {A B : List α} (hA : Srt lt A) (hB : Srt lt B) (d : α) {t u0 u1 s : Nat} (h0 : u0 = t - B.length) (h1 : u1 = min A.length t) (ht : t ≤ A.length + B.length) (hb : 0 < B.length) (h : Bis (fun u => !lt (B.getD (t - 1 - u) d) (A.getD u d)) u0 u1 s s) :
 (∀ x ∈ A.take s, ∀ y ∈ B.drop (t - s), lt y x = false) ∧ (∀ x ∈ B.take (t - s), ∀ y ∈ A.drop s, lt x y = true) := by
 obtain ⟨hl, _, hh, hy, hn⟩ := h
 constructor
 · intro x hx y hy'
   obtain ⟨i, hi, hiA, rfl⟩ := mem_take_getD d hx
   obtain ⟨j, hj, hjB, rfl⟩ := mem_drop_getD d hy'
   have h2 := hy (s - 1) (by omega) (by omega)
   simp only [Bool.not_eq_true'] at h2
   cases hq : lt (B.getD j d) (A.getD i d) with
   | false => rfl
   | true =>
    have e1 := W.lt_le hq (hA.getD W d (show i ≤ s - 1 from by omega) (by omega))
    have e2 := W.le_lt e1 (hB.getD W d (show t - 1 - (s - 1) ≤ j from by omega) hjB)
    rw [e2] at h2; cases h2
 · intro x hx y hy'
   obtain ⟨j, hj, hjB, rfl⟩ := mem_take_getD d hx
   obtain ⟨i, hi, hiA, rfl⟩ := mem_drop_getD d hy'
   have h2 := hn s (Nat.le_refl _) (by omega)
   simp only [Bool.not_eq_false'] at h2
   have e1 := W.lt_le h2 (hA.getD W d hi hiA)
   exact W.le_lt e1 (hB.getD W d (show j ≤ t - 1 - s from by omega) (by omega))
/-- x stands in X, ahead of its k-th. -/
def ins {α : Type} (X : List α) (x : α) (k : Nat) : List α := X.take k ++ x :: X.drop k
theorem ins_perm {α : Type} (X : List α) (x : α) (k : Nat) : (ins X x k).Perm (x :: X) := by
 unfold ins
 refine List.perm_middle.trans ?_
 rw [List.take_append_drop]
theorem ins_all {α : Type} (X : List α) (x : α) : ins X x X.length = X ++ [x] := by simp [ins]
theorem ins_at {α : Type} (P X S : List α) (x : α) (k : Nat) (hk : k < X.length) : ∃ y, ∃ h1 : P.length + k < (P ++ (ins X x k ++ S)).length, ∃ h2 : P.length + k + 1 < (P ++ (ins X x k ++ S)).length, (P ++ (ins X x k ++ S))[P.length + k] = x ∧ (P ++ (ins X x k ++ S))[P.length + k + 1] = y ∧
 ((P ++ (ins X x k ++ S)).set (P.length + k) y).set (P.length + k + 1) x = P ++ (ins X x (k + 1) ++ S) ∧
 (P ++ (ins X x (k + 1) ++ S))[P.length + k]? = some y ∧ (P ++ (ins X x (k + 1) ++ S))[P.length + k + 1]? = some x ∧
 ((P ++ (ins X x (k + 1) ++ S)).set (P.length + k + 1) y).set (P.length + k) x = P ++ (ins X x k ++ S) := by
 obtain ⟨A, y, B, eX, lA, x1, x2, x3, x4⟩ := part_one X k hk
 have e : P ++ (ins X x k ++ S) = (P ++ A) ++ x :: ([] ++ y :: (B ++ S)) := by
  unfold ins
  rw [x1, x2]
  simp
 have e2 : P ++ (ins X x (k + 1) ++ S) = (P ++ A) ++ y :: ([] ++ x :: (B ++ S)) := by
  unfold ins
  rw [x3, x4]
  simp
 have l1 : (P ++ A).length = P.length + k := by rw [List.length_append, lA]
 have l3 : (P ++ A).length + 1 + ([] : List α).length = P.length + k + 1 := by rw [l1]; rfl
 rw [e2]
 simp only [e]
 obtain ⟨h1, g1⟩ := at_app (P ++ A) ([] ++ y :: (B ++ S)) x l1
 obtain ⟨h2, g2⟩ := at_app ((P ++ A) ++ [x]) (B ++ S) y (i := P.length + k + 1) (by simp; omega)
 obtain ⟨h3, g3⟩ := at_app (P ++ A) ([] ++ x :: (B ++ S)) y l1
 obtain ⟨h4, g4⟩ := at_app ((P ++ A) ++ [y]) (B ++ S) x (i := P.length + k + 1) (by simp; omega)
 refine ⟨y, h1, by simpa using h2, g1, by simpa using g2, ?_, ?_, ?_, ?_⟩
 · have := swap_at (P ++ A) [] (B ++ S) x y
   rw [l3, l1] at this
   exact this
 · rw [List.getElem?_eq_getElem h3, g3]
 · have e3 : (P ++ A ++ y :: ([] ++ x :: (B ++ S))) = (P ++ A) ++ [y] ++ x :: (B ++ S) := by simp
   rw [e3, List.getElem?_eq_getElem h4, g4]
 · have := swap_at (P ++ A) [] (B ++ S) y x
   rw [l3, l1] at this
   rw [List.set_comm _ _ (by omega)]
   exact this
theorem srt_ins1 {α : Type} {lt : α → α → Bool} (W : Weak lt) {B : List α} (h : Srt lt B) (d x : α) {i : Nat} (hb : Bis (fun k => lt (B.getD k d) x) 0 B.length i i) : Srt lt (ins B x i) := by
 refine srt_mid W (by rw [List.take_append_drop]; exact h) ?_ ?_
 · intro a ha
   obtain ⟨k, hk, hkB, rfl⟩ := mem_take_getD d ha
   exact W.asymm (hb.yes k (Nat.zero_le _) hk)
 · intro b hb'
   obtain ⟨k, hk, hkB, rfl⟩ := mem_drop_getD d hb'
   exact hb.no k hk hkB
theorem srt_ins2 {α : Type} {lt : α → α → Bool} (W : Weak lt) {A : List α} (h : Srt lt A) (d x : α) {i : Nat} (hb : Bis (fun k => !lt x (A.getD k d)) 0 A.length i i) : Srt lt (ins A x i) := by
 refine srt_mid W (by rw [List.take_append_drop]; exact h) ?_ ?_
 · intro a ha
   obtain ⟨k, hk, hkB, rfl⟩ := mem_take_getD d ha
   have := hb.yes k (Nat.zero_le _) hk
   simpa using this
 · intro b hb'
   obtain ⟨k, hk, hkB, rfl⟩ := mem_drop_getD d hb'
   have := hb.no k hk hkB
   simp only [Bool.not_eq_false'] at this
   exact W.asymm this
theorem stb_ins1 {α : Type} {lt : α → α → Bool} (W : Weak lt) {B : List α} (d x : α) {i : Nat} (hb : Bis (fun k => lt (B.getD k d) x) 0 B.length i i) : Stb lt (ins B x i) (x :: B) := by
 have h := (Stb.swap W (R := B.take i) (L := [x]) (fun a ha y hy => by
  rw [List.mem_singleton] at hy
  subst hy
  obtain ⟨k, hk, hkB, rfl⟩ := mem_take_getD d ha
  exact hb.yes k (Nat.zero_le _) hk)).append_right (B.drop i)
 rw [List.append_assoc, List.append_assoc, List.take_append_drop] at h
 exact h
theorem stb_ins2 {α : Type} {lt : α → α → Bool} (W : Weak lt) {A : List α} (d x : α) {i : Nat} (hb : Bis (fun k => !lt x (A.getD k d)) 0 A.length i i) : Stb lt (ins A x i) (A ++ [x]) := by
 have h := (Stb.swap W (R := [x]) (L := A.drop i) (fun y hy b hb' => by
  rw [List.mem_singleton] at hy
  subst hy
  obtain ⟨k, hk, hkB, rfl⟩ := mem_drop_getD d hb'
  have := hb.no k hk hkB
  simpa using this)).append_left (A.take i)
 rw [← List.append_assoc, ← List.append_assoc, List.take_append_drop] at h
 unfold ins
 have e : A.take i ++ x :: A.drop i = A.take i ++ [x] ++ A.drop i := by simp
 rw [e]
 exact h
/-- Where things stand in two lists between two others. -/
theorem at_A {α : Type} (P A R : List α) (d : α) {u : Nat} (h : u < A.length) : ∃ hj : P.length + u < (P ++ (A ++ R)).length, (P ++ (A ++ R))[P.length + u] = A.getD u d := by
 refine ⟨by simp; omega, ?_⟩
 rw [getD_at _ _ h, List.getElem_append_right (by omega), List.getElem_append_left (by omega)]
 congr 1; omega
theorem at_B {α : Type} (P A B S : List α) (d : α) {v : Nat} (h : v < B.length) : ∃ hj : P.length + A.length + v < (P ++ (A ++ (B ++ S))).length, (P ++ (A ++ (B ++ S)))[P.length + A.length + v] = B.getD v d := by
 have := at_A (P ++ A) B S d h
 rw [List.length_append] at this
 simpa using this
/-- A rotation on its way. -/
structure Rot {α : Type} (P X Y S M : List α) (i j : Nat) (P' L R S' : List α) : Prop where
 lst : M = P' ++ (L ++ (R ++ S'))
 goal : P ++ (Y ++ (X ++ S)) = P' ++ (R ++ (L ++ S'))
 li : L.length = i
 rj : R.length = j
 mid : P'.length + i = P.length + X.length
theorem Rot.start {α : Type} (P X Y S : List α) : Rot P X Y S (P ++ (X ++ (Y ++ S))) X.length Y.length P X Y S := ⟨rfl, rfl, rfl, rfl, rfl⟩
theorem Rot.left {α : Type} {P X Y S M P' L R S' : List α} {i j : Nat} (h : Rot P X Y S M i j P' L R S') (hij : j < i) : ∃ L1 L2, L = L1 ++ L2 ∧ L1.length = j ∧ M = P' ++ (L1 ++ (L2 ++ (R ++ S'))) ∧ Rot P X Y S (P' ++ (R ++ (L2 ++ (L1 ++ S')))) (i - j) j (P' ++ R) L2 L1 S' := by
 obtain ⟨L1, L2, e, hl⟩ := part_at L j (by have := h.li; omega)
 subst e
 have := h.li
 have h3 := h.rj
 have h4 := h.mid
 rw [List.length_append] at this
 refine ⟨L1, L2, rfl, hl, by rw [h.lst]; simp, by simp, by rw [h.goal]; simp, by omega, hl, by rw [List.length_append]; omega⟩
theorem Rot.right {α : Type} {P X Y S M P' L R S' : List α} {i j : Nat} (h : Rot P X Y S M i j P' L R S') (hij : i < j) : ∃ R1 R2, R = R1 ++ R2 ∧ R1.length = j - i ∧ R2.length = i ∧ M = P' ++ (L ++ (R1 ++ (R2 ++ S'))) ∧ Rot P X Y S (P' ++ (R2 ++ (R1 ++ (L ++ S')))) i (j - i) P' R2 R1 (L ++ S') := by
 have := h.rj
 obtain ⟨R1, R2, e, hl⟩ := part_at R (j - i) (by omega)
 subst e
 have h2 := h.li
 rw [List.length_append] at this
 refine ⟨R1, R2, rfl, hl, by omega, by rw [h.lst]; simp, by simp, by rw [h.goal]; simp, by omega, hl, h.mid⟩
theorem Rot.last {α : Type} {P X Y S M P' L R S' : List α} {i : Nat} (h : Rot P X Y S M i i P' L R S') : M = P' ++ (L ++ ([] ++ (R ++ S'))) ∧ P ++ (Y ++ (X ++ S)) = P' ++ (R ++ ([] ++ (L ++ S'))) := ⟨by rw [h.lst]; simp, by rw [h.goal]; simp⟩
end Pl
end Go.Proofs.YtlkmccmbpnbgbaaGreat
