/-
  PLAIN MATHEMATICS of layer 5: a medium's sectors, where a frame stands, the frames of a medium; what an Append that is torn leaves, what one leaves that is not, what a Trim leaves.
-/
import Derived.Test.YtcmeaeemjecjiaaFPlain
namespace Go.Proofs.Ytcmeaeemjecjiaa.Pl

/-- The sectors of the files. -/
abbrev Md := Nat → Nat → Option ByteArray

/-- The sectors from a on, up to the first that is not there, at most m. -/
def run (T : Md) (f : Nat) : Nat → Nat → List ByteArray
  | _, 0 => []
  | a, m + 1 => match T f a with
    | none => []
    | some s => s :: run T f (a + 1) m
/-- The frame that stands at a sector of a segment. -/
def stands (T : Md) (f a : Nat) : Option (Nat × List UInt8 × Nat) := joinF (run T f a (16 - a))

/-- From sector o on file f holds l. -/
def At (T : Md) (f o : Nat) (l : List ByteArray) : Prop := ∀ i s, l[i]? = some s → T f (o + i) = some s

theorem At.left {T : Md} {f o : Nat} {a b : List ByteArray} (h : At T f o (a ++ b)) : At T f o a := fun i s hi => h i s (by
  have : i < a.length := (List.getElem?_eq_some_iff.1 hi).1
  rw [List.getElem?_append_left this]; exact hi)
theorem At.right {T : Md} {f o : Nat} {a b : List ByteArray} (h : At T f o (a ++ b)) : At T f (o + a.length) b := fun i s hi => by
  rw [Nat.add_assoc]
  refine h (a.length + i) s ?_
  rw [List.getElem?_append_right (by omega), Nat.add_sub_cancel_left]; exact hi
theorem At.app {T : Md} {f o : Nat} {a b : List ByteArray} (h : At T f o a) (k : At T f (o + a.length) b) : At T f o (a ++ b) := fun i s hi => by
  by_cases hl : i < a.length
  · rw [List.getElem?_append_left hl] at hi; exact h i s hi
  · rw [List.getElem?_append_right (by omega)] at hi
    have := k (i - a.length) s hi
    rwa [show o + a.length + (i - a.length) = o + i from by omega] at this
theorem At.nil {T : Md} {f o : Nat} : At T f o [] := fun i s hi => by simp at hi
theorem At.of_eq {T T' : Md} {f o : Nat} {l : List ByteArray} (h : At T f o l) (e : ∀ a, o ≤ a → a < o + l.length → T' f a = T f a) : At T' f o l := fun i s hi => by
  have : i < l.length := (List.getElem?_eq_some_iff.1 hi).1
  rw [e _ (by omega) (by omega)]; exact h i s hi

theorem run_get {T : Md} {f : Nat} : ∀ {m a i : Nat} {s : ByteArray}, (run T f a m)[i]? = some s → T f (a + i) = some s := by
  intro m
  induction m with
  | zero => intro a i s h; simp [run] at h
  | succ m ih =>
    intro a i s h
    unfold run at h
    split at h
    · simp at h
    · rename_i s0 hs
      cases i with
      | zero => simp at h; subst h; exact hs
      | succ i => have := ih (by simpa using h); rwa [show a + 1 + i = a + (i + 1) from by omega] at this
theorem run_app {T : Md} {f : Nat} : ∀ {l : List ByteArray} {a m : Nat}, At T f a l → l.length ≤ m → ∃ r, run T f a m = l ++ r := by
  intro l
  induction l with
  | nil => intro a m _ _; exact ⟨_, rfl⟩
  | cons s l ih =>
    intro a m h hm
    obtain ⟨k, rfl⟩ : ∃ k, m = k + 1 := ⟨m - 1, by simp at hm; omega⟩
    have h0 : T f a = some s := h 0 s rfl
    have h1 : At T f (a + 1) l := fun i s' hi => by
      have := h (i + 1) s' (by simpa using hi)
      rwa [show a + (i + 1) = a + 1 + i from by omega] at this
    obtain ⟨r, hr⟩ := ih h1 (m := k) (by simp at hm; omega)
    refine ⟨r, ?_⟩
    unfold run
    rw [h0]
    simp [hr]
/-- Where a frame's sectors lie, there it stands. -/
theorem stands_secs {T : Md} {f a n : Nat} {d : ByteArray} (h : At T f a (secs n d)) (hn1 : 1 ≤ n) (hn2 : n ≤ 2147483647) (hd : d.size ≤ 440) (hfit : a + partsN d.size ≤ 16) :
    stands T f a = some (n, d.data.toList, partsN d.size) := by
  obtain ⟨r, hr⟩ := run_app h (m := 16 - a) (by rw [secs_length]; omega)
  unfold stands
  rw [hr]
  exact join_lay hn1 hn2 hd r
/-- Its last sector says so. -/
theorem stands_last {T : Md} {f a n k : Nat} {x : List UInt8} (h : stands T f a = some (n, x, k)) : 1 ≤ k ∧ ∃ s d, T f (a + (k - 1)) = some s ∧ tellF s = some (n, k - 1, k, d) := by
  unfold stands at h
  obtain ⟨h1, h2, h3, h4, h5, h6, h7⟩ := lay_join h
  have hsz : (⟨x.toArray⟩ : ByteArray).size = x.length := by show x.toArray.size = _; simp
  have hg := secs_get n ⟨x.toArray⟩ (k - 1) (by rw [hsz, h6]; omega)
  rw [h7, List.getElem?_take_of_lt (by omega), hsz, h6] at hg
  have ht := tell_secs n ⟨x.toArray⟩ (k - 1) h1 h2 (by rw [hsz]; exact h5) (by rw [hsz, h6]; omega)
  rw [hsz, h6] at ht
  exact ⟨h3, _, _, run_get hg, ht⟩

/-- Whatever lies from sector e on: no frame of number n is whole there. -/
def Clean (T : Md) (f e n : Nat) : Prop := ∀ k s d, 1 ≤ k → T f (e + (k - 1)) = some s → tellF s ≠ some (n, k - 1, k, d)
theorem Clean.stands {T : Md} {f e n m k : Nat} {x : List UInt8} (h : Clean T f e n) (hs : stands T f e = some (m, x, k)) : m ≠ n := by
  rintro rfl
  obtain ⟨h1, s, d, h2, h3⟩ := stands_last hs
  exact h k s d h1 h2 h3
/-- Whatever lies from sector e on says no number above n. -/
def Low (T : Md) (f e n : Nat) : Prop := ∀ i s m p k d, e ≤ i → T f i = some s → tellF s = some (m, p, k, d) → m ≤ n
theorem Low.clean {T : Md} {f e e' n n' : Nat} (h : Low T f e n) (he : e ≤ e') (hn : n < n') : Clean T f e' n' := fun k s d _ hs ht => by
  have := h (e' + (k - 1)) s _ _ _ _ (by omega) hs ht
  omega
theorem Low.mono {T : Md} {f e e' n n' : Nat} (h : Low T f e n) (he : e ≤ e') (hn : n ≤ n') : Low T f e' n' := fun i s m p k d hi hs ht => Nat.le_trans (h i s m p k d (by omega) hs ht) hn

/-! ### writing -/
/-- l written from sector a on. -/
def puts (T : Md) (f a : Nat) (l : List ByteArray) : Md := fun f' a' => if f' = f ∧ a ≤ a' ∧ a' < a + l.length then l[a' - a]? else T f' a'
/-- One sector written. -/
def wr (T : Md) (f a : Nat) (s : ByteArray) : Md := fun f' a' => if f' = f ∧ a' = a then some s else T f' a'
theorem puts_nil (T : Md) (f a : Nat) : puts T f a [] = T := by
  funext f' a'
  unfold puts
  rw [if_neg]
  rintro ⟨_, h1, h2⟩
  simp at h2
  omega
theorem puts_step (T : Md) (f a : Nat) (l : List ByteArray) (j : Nat) (s : ByteArray) (hs : l[j]? = some s) : wr (puts T f a (l.take j)) f (a + j) s = puts T f a (l.take (j + 1)) := by
  have hj : j < l.length := (List.getElem?_eq_some_iff.1 hs).1
  have h1 : (l.take j).length = j := by rw [List.length_take]; omega
  have h2 : (l.take (j + 1)).length = j + 1 := by rw [List.length_take]; omega
  funext f' a'
  unfold wr puts
  rw [h1, h2]
  by_cases hf : f' = f
  · subst hf
    by_cases ha : a' = a + j
    · subst ha
      rw [if_pos ⟨rfl, rfl⟩, if_pos ⟨rfl, by omega, by omega⟩, Nat.add_sub_cancel_left, List.getElem?_take_of_lt (by omega), hs]
    · rw [if_neg (fun h => ha h.2)]
      by_cases hr : a ≤ a' ∧ a' < a + j
      · rw [if_pos ⟨rfl, hr⟩, if_pos ⟨rfl, hr.1, by omega⟩, List.getElem?_take_of_lt (by omega), List.getElem?_take_of_lt (by omega)]
      · rw [if_neg (fun h => hr h.2), if_neg (fun h => hr ⟨h.2.1, by omega⟩)]
  · rw [if_neg (fun h => hf h.1), if_neg (fun h => hf h.1), if_neg (fun h => hf h.1)]
theorem puts_other {T : Md} {f a f' : Nat} {l : List ByteArray} (h : f' ≠ f) (a' : Nat) : puts T f a l f' a' = T f' a' := by
  unfold puts; rw [if_neg (fun hc => h hc.1)]
theorem puts_before {T : Md} {f a a' : Nat} {l : List ByteArray} (h : a' < a) : puts T f a l f a' = T f a' := by
  unfold puts; rw [if_neg (fun hc => by omega)]
theorem puts_behind {T : Md} {f a a' : Nat} {l : List ByteArray} (h : a + l.length ≤ a') : puts T f a l f a' = T f a' := by
  unfold puts; rw [if_neg (fun hc => by omega)]
theorem puts_in {T : Md} {f a i : Nat} {l : List ByteArray} (h : i < l.length) : puts T f a l f (a + i) = some l[i] := by
  unfold puts
  rw [if_pos ⟨rfl, by omega, by omega⟩, Nat.add_sub_cancel_left, List.getElem?_eq_getElem h]
theorem At.puts (T : Md) (f a : Nat) (l : List ByteArray) : At (puts T f a l) f a l := fun i s hi => by
  have h : i < l.length := (List.getElem?_eq_some_iff.1 hi).1
  rw [puts_in h, ← hi, List.getElem?_eq_getElem h]

/-- What a sector of a frame says. -/
theorem secs_tell {n i : Nat} {d : ByteArray} {s : ByteArray} (hn1 : 1 ≤ n) (hn2 : n ≤ 2147483647) (hd : d.size ≤ 440) (h : (secs n d)[i]? = some s) : i < partsN d.size ∧ tellF s = some (n, i, partsN d.size, piece d i) := by
  have hi : i < partsN d.size := by rw [← secs_length n d]; exact (List.getElem?_eq_some_iff.1 h).1
  rw [secs_get n d i hi] at h
  injection h with h
  subst h
  exact ⟨hi, tell_secs n d i hn1 hn2 hd hi⟩

/-- A torn frame leaves no whole one of its number at its place. -/
theorem clean_torn {T : Md} {f a n j : Nat} {d : ByteArray} (h : Clean T f a n) (hn1 : 1 ≤ n) (hn2 : n ≤ 2147483647) (hd : d.size ≤ 440) (hj : j < partsN d.size) : Clean (puts T f a ((secs n d).take j)) f a n := by
  intro k s e hk hs ht
  have hl : ((secs n d).take j).length = j := by rw [List.length_take, secs_length]; omega
  by_cases hkj : k - 1 < j
  · rw [puts_in (by omega)] at hs
    injection hs with hs
    have hg : (secs n d)[k - 1]? = some s := by
      rw [← hs, List.getElem_take]
      exact List.getElem?_eq_getElem _
    have := (secs_tell hn1 hn2 hd hg).2
    rw [ht] at this
    simp at this
    omega
  · rw [puts_behind (by omega)] at hs
    exact h k s e hk hs ht
theorem low_torn {T : Md} {f a e n j : Nat} {d : ByteArray} (h : Low T f e n) (hn1 : 1 ≤ n) (hn2 : n ≤ 2147483647) (hd : d.size ≤ 440) : Low (puts T f a ((secs n d).take j)) f e n := by
  intro i s m p k x hi hs ht
  by_cases hr : a ≤ i ∧ i < a + ((secs n d).take j).length
  · obtain ⟨q, rfl⟩ : ∃ q, i = a + q := ⟨i - a, by omega⟩
    have hq : q < ((secs n d).take j).length := by omega
    rw [puts_in hq] at hs
    injection hs with hs
    have hg : (secs n d)[q]? = some s := by
      rw [← hs, List.getElem_take]
      exact List.getElem?_eq_getElem _
    have := (secs_tell hn1 hn2 hd hg).2
    rw [ht] at this
    simp at this
    omega
  · unfold puts at hs
    rw [if_neg (fun hc => hr hc.2)] at hs
    exact h i s m p k x hi hs ht

/-! ### the frames of a medium -/
/-- The sectors of frames, of the numbers from n on. -/
def segL (n : Nat) : List ByteArray → List ByteArray
  | [] => []
  | d :: r => secs n d ++ segL (n + 1) r
theorem segL_snoc (d : ByteArray) : ∀ (l : List ByteArray) (n : Nat), segL n (l ++ [d]) = segL n l ++ secs (n + l.length) d := by
  intro l
  induction l with
  | nil => intro n; simp [segL]
  | cons x r ih => intro n; simp only [List.cons_append, segL, ih, List.append_assoc, List.length_cons]; rw [show n + 1 + r.length = n + (r.length + 1) from by omega]
/-- How many frames. -/
def cnt (pre : List (List ByteArray)) : Nat := (pre.map List.length).sum
theorem cnt_snoc (pre : List (List ByteArray)) (c : List ByteArray) : cnt (pre ++ [c]) = cnt pre + c.length := by simp [cnt]
theorem cnt_cons (pre : List (List ByteArray)) (c : List ByteArray) : cnt (c :: pre) = c.length + cnt pre := by simp [cnt]

/-- Whole segments, from file lo and number n on: each is read as its frames, nothing whole that could follow stands behind them, and another frame would not have fitted. -/
def Full (T : Md) : Nat → Nat → List (List ByteArray) → Prop
  | _, _, [] => True
  | lo, n, ds :: r => (At T lo 0 (segL n ds) ∧ 9 ≤ (segL n ds).length ∧ (segL n ds).length ≤ 16 ∧ (∀ d ∈ ds, d.size ≤ 440) ∧ Clean T lo (segL n ds).length (n + ds.length)) ∧ Full T (lo + 1) (n + ds.length) r

theorem Full.snoc {T : Md} {ds : List ByteArray} : ∀ {pre : List (List ByteArray)} {lo n : Nat}, Full T lo n pre → At T (lo + pre.length) 0 (segL (n + cnt pre) ds) → 9 ≤ (segL (n + cnt pre) ds).length → (segL (n + cnt pre) ds).length ≤ 16 → (∀ d ∈ ds, d.size ≤ 440) →
    Clean T (lo + pre.length) (segL (n + cnt pre) ds).length (n + cnt pre + ds.length) → Full T lo n (pre ++ [ds]) := by
  intro pre
  induction pre with
  | nil => intro lo n _ h1 h2 h3 h4 h5; exact ⟨⟨h1, h2, h3, h4, h5⟩, trivial⟩
  | cons c r ih =>
    intro lo n h h1 h2 h3 h4 h5
    obtain ⟨ha, hr⟩ := h
    rw [cnt_cons, show n + (c.length + cnt r) = n + c.length + cnt r from by omega] at h1 h2 h3 h5
    rw [List.length_cons, show lo + (r.length + 1) = lo + 1 + r.length from by omega] at h1 h5
    exact ⟨ha, ih hr h1 h2 h3 h4 h5⟩
theorem Full.of_eq {T T' : Md} : ∀ {pre : List (List ByteArray)} {lo n : Nat}, Full T lo n pre → (∀ f a, lo ≤ f → f < lo + pre.length → T' f a = T f a) → Full T' lo n pre := by
  intro pre
  induction pre with
  | nil => intro lo n _ _; trivial
  | cons c r ih =>
    intro lo n h e
    obtain ⟨⟨h1, h2, h3, h4, h5⟩, hr⟩ := h
    have e0 : ∀ a, T' lo a = T lo a := fun a => e lo a (Nat.le_refl _) (by simp)
    refine ⟨⟨h1.of_eq (fun a _ _ => e0 a), h2, h3, h4, ?_⟩, ih hr (fun f a h1 h2 => e f a (by omega) (by simp; omega))⟩
    intro k s d hk hs
    rw [e0] at hs
    exact h5 k s d hk hs

/-- The medium holds a log: whole segments from file lo on, then the tail's. -/
structure Inv (T : Md) (lo n : Nat) (pre : List (List ByteArray)) (cur : List ByteArray) : Prop where
  lo2 : 2 ≤ lo
  n1 : 1 ≤ n
  small : n + cnt pre + cur.length ≤ 2147483647
  below : ∀ f a, 2 ≤ f → f < lo → T f a = none
  short : ∀ f a s, T f a = some s → 2 ≤ f → a < 16
  full : Full T lo n pre
  at_ : At T (lo + pre.length) 0 (segL (n + cnt pre) cur)
  le : (segL (n + cnt pre) cur).length ≤ 16
  size : ∀ d ∈ cur, d.size ≤ 440
  clean : Clean T (lo + pre.length) (segL (n + cnt pre) cur).length (n + cnt pre + cur.length)
  low : Low T (lo + pre.length) (segL (n + cnt pre) cur).length (n + cnt pre + cur.length)
  clean1 : Clean T (lo + pre.length + 1) 0 (n + cnt pre + cur.length)
  low1 : ∀ f, lo + pre.length < f → Low T f 0 (n + cnt pre + cur.length)
  some_ : pre ≠ [] → cur ≠ []
  none_ : pre = [] → cur = [] → lo = 2 ∧ n = 1 ∧ ∀ f a, 2 < f → T f a = none

theorem Inv.empty : Inv (fun _ _ => none) 2 1 [] [] where
  lo2 := Nat.le_refl _
  n1 := Nat.le_refl _
  small := by simp [cnt]
  below := fun _ _ _ _ => rfl
  short := fun _ _ _ h => by cases h
  full := trivial
  at_ := At.nil
  le := by simp [segL]
  size := fun _ h => by cases h
  clean := fun _ _ _ _ h => by cases h
  low := fun _ _ _ _ _ _ _ h => by cases h
  clean1 := fun _ _ _ _ h => by cases h
  low1 := fun _ _ _ _ _ _ _ _ _ h => by cases h
  some_ := fun h => absurd rfl h
  none_ := fun _ _ => ⟨rfl, rfl, fun _ _ _ => rfl⟩

/-- Where the next frame goes. -/
def place (hi e k : Nat) : Nat × Nat := if e + k ≤ 16 then (hi, e) else (hi + 1, 0)

section
variable {T : Md} {lo n : Nat} {pre : List (List ByteArray)} {cur : List ByteArray}

/-- A torn Append leaves the frames as they were. -/
theorem Inv.torn (h : Inv T lo n pre cur) (d : ByteArray) (hd : d.size ≤ 440) (j : Nat) (hj : j < partsN d.size) :
    Inv (puts T (place (lo + pre.length) (segL (n + cnt pre) cur).length (partsN d.size)).1 (place (lo + pre.length) (segL (n + cnt pre) cur).length (partsN d.size)).2 ((secs (n + cnt pre + cur.length) d).take j)) lo n pre cur := by
  have hn1 : 1 ≤ n + cnt pre + cur.length := by have := h.n1; omega
  have hn2 := h.small
  have hl : ((secs (n + cnt pre + cur.length) d).take j).length = j := by rw [List.length_take, secs_length]; omega
  have hp8 := partsN_le hd
  unfold place
  by_cases hfit : (segL (n + cnt pre) cur).length + partsN d.size ≤ 16
  · rw [if_pos hfit]
    have ho : ∀ f a, f ≠ lo + pre.length → puts T (lo + pre.length) (segL (n + cnt pre) cur).length ((secs (n + cnt pre + cur.length) d).take j) f a = T f a := fun f a hf => puts_other hf a
    refine ⟨h.lo2, h.n1, h.small, fun f a h1 h2 => by rw [ho f a (by omega)]; exact h.below f a h1 h2, ?_, h.full.of_eq (fun f a _ h2 => ho f a (by omega)), h.at_.of_eq (fun a _ h2 => puts_before (by omega)), h.le, h.size, clean_torn h.clean hn1 hn2 hd hj, low_torn h.low hn1 hn2 hd, ?_, ?_, h.some_, ?_⟩
    · intro f a s hs hf
      by_cases hf2 : f = lo + pre.length
      · subst hf2
        by_cases ha : a < (segL (n + cnt pre) cur).length
        · rw [puts_before ha] at hs
          exact h.short _ a s hs hf
        · by_cases hb : a < (segL (n + cnt pre) cur).length + j
          · omega
          · rw [puts_behind (by omega)] at hs
            exact h.short _ a s hs hf
      · exact h.short f a s (by rw [ho f a hf2] at hs; exact hs) hf
    · intro k s e hk hs
      rw [ho _ _ (by omega)] at hs
      exact h.clean1 k s e hk hs
    · intro f hf i s m p k e hi hs
      rw [ho _ _ (by omega)] at hs
      exact h.low1 f hf i s m p k e hi hs
    · intro hp hc
      obtain ⟨e1, e2, e3⟩ := h.none_ hp hc
      refine ⟨e1, e2, fun f a hf => ?_⟩
      rw [ho f a (by subst hp; simp; omega)]
      exact e3 f a hf
  · rw [if_neg hfit]
    have ho : ∀ f a, f ≠ lo + pre.length + 1 → puts T (lo + pre.length + 1) 0 ((secs (n + cnt pre + cur.length) d).take j) f a = T f a := fun f a hf => puts_other hf a
    refine ⟨h.lo2, h.n1, h.small, fun f a h1 h2 => by rw [ho f a (by omega)]; exact h.below f a h1 h2, ?_, h.full.of_eq (fun f a _ h2 => ho f a (by omega)), h.at_.of_eq (fun a _ _ => ho _ a (by omega)), h.le, h.size, ?_, ?_, clean_torn h.clean1 hn1 hn2 hd hj, ?_, h.some_, ?_⟩
    · intro f a s hs hf
      by_cases hf2 : f = lo + pre.length + 1
      · subst hf2
        by_cases hb : a < j
        · omega
        · rw [puts_behind (by omega)] at hs
          exact h.short _ a s hs hf
      · exact h.short f a s (by rw [ho f a hf2] at hs; exact hs) hf
    · intro k s e hk hs
      rw [ho _ _ (by omega)] at hs
      exact h.clean k s e hk hs
    · intro i s m p k e hi hs
      rw [ho _ _ (by omega)] at hs
      exact h.low i s m p k e hi hs
    · intro f hf
      by_cases hf2 : f = lo + pre.length + 1
      · subst hf2
        exact low_torn (h.low1 _ (by omega)) hn1 hn2 hd
      · intro i s m p k e hi hs
        rw [ho _ _ hf2] at hs
        exact h.low1 f hf i s m p k e hi hs
    · intro hp hc
      subst hp hc
      simp [segL] at hfit
      omega

/-- A frame that is wholly written is there. -/
theorem Inv.put (h : Inv T lo n pre cur) (d : ByteArray) (hd : d.size ≤ 440) (hn : n + cnt pre + cur.length < 2147483647) :
    let T' := puts T (place (lo + pre.length) (segL (n + cnt pre) cur).length (partsN d.size)).1 (place (lo + pre.length) (segL (n + cnt pre) cur).length (partsN d.size)).2 (secs (n + cnt pre + cur.length) d)
    if (segL (n + cnt pre) cur).length + partsN d.size ≤ 16 then Inv T' lo n pre (cur ++ [d]) else Inv T' lo n (pre ++ [cur]) [d] := by
  have hn1 : 1 ≤ n + cnt pre + cur.length := by have := h.n1; omega
  have hl : (secs (n + cnt pre + cur.length) d).length = partsN d.size := secs_length _ _
  have hp8 := partsN_le hd
  have hp1 := partsN_pos d.size
  intro T'
  by_cases hfit : (segL (n + cnt pre) cur).length + partsN d.size ≤ 16
  · rw [if_pos hfit]
    have hT' : T' = puts T (lo + pre.length) (segL (n + cnt pre) cur).length (secs (n + cnt pre + cur.length) d) := by show puts T (place _ _ _).1 (place _ _ _).2 _ = _; unfold place; rw [if_pos hfit]
    clear_value T'
    subst hT'
    have ho : ∀ f a, f ≠ lo + pre.length → puts T (lo + pre.length) (segL (n + cnt pre) cur).length (secs (n + cnt pre + cur.length) d) f a = T f a := fun f a hf => puts_other hf a
    have hsl : (segL (n + cnt pre) (cur ++ [d])).length = (segL (n + cnt pre) cur).length + partsN d.size := by rw [segL_snoc, List.length_append, hl]
    have hln : (cur ++ [d]).length = cur.length + 1 := by simp
    refine ⟨h.lo2, h.n1, by rw [hln]; omega, fun f a h1 h2 => by rw [ho f a (by omega)]; exact h.below f a h1 h2, ?_, h.full.of_eq (fun f a _ h2 => ho f a (by omega)), ?_, by rw [hsl]; exact hfit, ?_, ?_, ?_, ?_, ?_, fun _ => by simp, fun _ hc => by simp at hc⟩
    · intro f a s hs hf
      by_cases hf2 : f = lo + pre.length
      · subst hf2
        by_cases ha : a < (segL (n + cnt pre) cur).length
        · rw [puts_before ha] at hs
          exact h.short _ a s hs hf
        · by_cases hb : a < (segL (n + cnt pre) cur).length + partsN d.size
          · omega
          · rw [puts_behind (by omega)] at hs
            exact h.short _ a s hs hf
      · exact h.short f a s (by rw [ho f a hf2] at hs; exact hs) hf
    · rw [segL_snoc]
      refine (h.at_.of_eq (fun a _ h2 => puts_before (by omega))).app ?_
      rw [Nat.zero_add]
      exact At.puts _ _ _ _
    · intro x hx
      rcases List.mem_append.1 hx with hx | hx
      · exact h.size x hx
      · simp at hx; subst hx; exact hd
    · rw [hsl, hln]
      refine Low.clean (n := n + cnt pre + cur.length) (e := (segL (n + cnt pre) cur).length + partsN d.size) ?_ (Nat.le_refl _) (by omega)
      intro i s m p k x hi hs ht
      rw [puts_behind (by omega)] at hs
      exact h.low i s m p k x (by omega) hs ht
    · rw [hsl, hln]
      intro i s m p k x hi hs ht
      rw [puts_behind (by omega)] at hs
      have := h.low i s m p k x (by omega) hs ht
      omega
    · rw [hln]
      refine Low.clean (n := n + cnt pre + cur.length) (e := 0) ?_ (Nat.le_refl _) (by omega)
      intro i s m p k x hi hs ht
      rw [ho _ _ (by omega)] at hs
      exact h.low1 _ (by omega) i s m p k x hi hs ht
    · rw [hln]
      intro f hf i s m p k x hi hs ht
      rw [ho _ _ (by omega)] at hs
      have := h.low1 f hf i s m p k x hi hs ht
      omega
  · rw [if_neg hfit]
    have hT' : T' = puts T (lo + pre.length + 1) 0 (secs (n + cnt pre + cur.length) d) := by show puts T (place _ _ _).1 (place _ _ _).2 _ = _; unfold place; rw [if_neg hfit]
    clear_value T'
    subst hT'
    have ho : ∀ f a, f ≠ lo + pre.length + 1 → puts T (lo + pre.length + 1) 0 (secs (n + cnt pre + cur.length) d) f a = T f a := fun f a hf => puts_other hf a
    have hs1 : segL (n + cnt (pre ++ [cur])) [d] = secs (n + cnt pre + cur.length) d := by simp [segL, cnt_snoc, Nat.add_assoc]
    have hln : (pre ++ [cur]).length = pre.length + 1 := by simp
    have hnx : n + cnt (pre ++ [cur]) + [d].length = n + cnt pre + cur.length + 1 := by rw [cnt_snoc, List.length_singleton]; omega
    have hclean : Clean (puts T (lo + pre.length + 1) 0 (secs (n + cnt pre + cur.length) d)) (lo + pre.length) (segL (n + cnt pre) cur).length (n + cnt pre + cur.length) := by
      intro k s e hk hs
      rw [ho _ _ (by omega)] at hs
      exact h.clean k s e hk hs
    refine ⟨h.lo2, h.n1, by rw [hnx]; omega, fun f a h1 h2 => by rw [ho f a (by omega)]; exact h.below f a h1 h2, ?_, ?_, ?_, by rw [hs1, hl]; omega, ?_, ?_, ?_, ?_, ?_, fun _ => by simp, fun hp _ => by simp at hp⟩
    · intro f a s hs hf
      by_cases hf2 : f = lo + pre.length + 1
      · subst hf2
        by_cases hb : a < partsN d.size
        · omega
        · rw [puts_behind (by omega)] at hs
          exact h.short _ a s hs hf
      · exact h.short f a s (by rw [ho f a hf2] at hs; exact hs) hf
    · exact Full.snoc (h.full.of_eq (fun f a _ h2 => ho f a (by omega))) (h.at_.of_eq (fun a _ _ => ho _ a (by omega))) (by omega) h.le h.size hclean
    · rw [hs1, hln]
      exact At.puts _ _ _ _
    · intro x hx; simp at hx; subst hx; exact hd
    · rw [hs1, hl, hnx, hln]
      refine Low.clean (n := n + cnt pre + cur.length) (e := partsN d.size) ?_ (Nat.le_refl _) (by omega)
      intro i s m p k x hi hs ht
      rw [show lo + (pre.length + 1) = lo + pre.length + 1 from rfl, puts_behind (by omega)] at hs
      exact h.low1 _ (by omega) i s m p k x (by omega) hs ht
    · rw [hs1, hl, hnx, hln]
      intro i s m p k x hi hs ht
      rw [show lo + (pre.length + 1) = lo + pre.length + 1 from rfl, puts_behind (by omega)] at hs
      have := h.low1 _ (by omega) i s m p k x (by omega) hs ht
      omega
    · rw [hnx, hln]
      refine Low.clean (n := n + cnt pre + cur.length) (e := 0) ?_ (Nat.le_refl _) (by omega)
      intro i s m p k x hi hs ht
      rw [ho _ _ (by omega)] at hs
      exact h.low1 _ (by omega) i s m p k x hi hs ht
    · rw [hnx, hln]
      intro f hf i s m p k x hi hs ht
      rw [ho _ _ (by omega)] at hs
      have := h.low1 f (by omega) i s m p k x hi hs ht
      omega

/-- One file taken away. -/
def rmv (T : Md) (f : Nat) : Md := fun f' a => if f' = f then none else T f' a
/-- The lowest segment may go, where the tail is not in it. -/
theorem Inv.drop {ds : List ByteArray} (h : Inv T lo n (ds :: pre) cur) : Inv (rmv T lo) (lo + 1) (n + ds.length) pre cur := by
  have ho : ∀ f a, f ≠ lo → rmv T lo f a = T f a := fun f a hf => by unfold rmv; rw [if_neg hf]
  have e1 : lo + (ds :: pre).length = lo + 1 + pre.length := by simp; omega
  have e2 : n + cnt (ds :: pre) = n + ds.length + cnt pre := by rw [cnt_cons]; omega
  have h4 := h.at_
  have h5 := h.le
  have h6 := h.clean
  have h7 := h.low
  have h8 := h.clean1
  have h9 := h.low1
  have h10 := h.small
  have hc : cur ≠ [] := h.some_ (by simp)
  rw [e1, e2] at h4 h6 h7 h8 h9
  rw [e2] at h5 h10
  refine ⟨by have := h.lo2; omega, by have := h.n1; omega, h10, ?_, ?_, h.full.2.of_eq (fun f a h1 _ => ho f a (by omega)), h4.of_eq (fun a _ _ => ho _ a (by omega)), h5, h.size, ?_, ?_, ?_, ?_, fun _ => hc, fun _ hcc => absurd hcc hc⟩
  · intro f a h1 h2
    by_cases hf : f = lo
    · subst hf; unfold rmv; rw [if_pos rfl]
    · rw [ho f a hf]; exact h.below f a h1 (by omega)
  · intro f a s hs hf
    by_cases hf2 : f = lo
    · subst hf2; unfold rmv at hs; rw [if_pos rfl] at hs; cases hs
    · rw [ho f a hf2] at hs; exact h.short f a s hs hf
  · intro k s e hk hs
    rw [ho _ _ (by omega)] at hs
    exact h6 k s e hk hs
  · intro i s m p k e hi hs
    rw [ho _ _ (by omega)] at hs
    exact h7 i s m p k e hi hs
  · intro k s e hk hs
    rw [ho _ _ (by omega)] at hs
    exact h8 k s e hk hs
  · intro f hf i s m p k e hi hs
    rw [ho _ _ (by omega)] at hs
    exact h9 f hf i s m p k e hi hs
end
end Go.Proofs.Ytcmeaeemjecjiaa.Pl
