/-
  PLAIN MATHEMATICS of layer 6: a medium's two slots; when one is complete; what a Save that is torn leaves, and one that is not; what is loaded.
-/
import Derived.Test.YtkcickbkmedbmaaSPlain
namespace Go.Proofs.Ytkcickbkmedbmaa.Ps

/-- The sectors of the files. -/
abbrev Md := Nat → Nat → Option ByteArray
/-- The sectors from a on, up to the first that is not there, at most m. -/
def run (T : Md) (f : Nat) : Nat → Nat → List ByteArray
  | _, 0 => []
  | a, m + 1 => match T f a with
    | none => []
    | some s => s :: run T f (a + 1) m
/-- From sector o on file f holds l. -/
def At (T : Md) (f o : Nat) (l : List ByteArray) : Prop := ∀ i s, l[i]? = some s → T f (o + i) = some s
theorem run_get {T : Md} {f : Nat} : ∀ {m a i : Nat} {s : ByteArray}, (run T f a m)[i]? = some s → T f (a + i) = some s := by
  intro m
  induction m with
  | zero => intro a i s h; simp [run] at h
  | succ m ih =>
    intro a i s h
    unfold run at h
    split at h
    · simp at h
    · rename_i s0 hs
      cases i with
      | zero => simp at h; subst h; exact hs
      | succ i => have := ih (by simpa using h); rwa [show a + 1 + i = a + (i + 1) from by omega] at this
theorem run_app {T : Md} {f : Nat} : ∀ {l : List ByteArray} {a m : Nat}, At T f a l → l.length ≤ m → ∃ r, run T f a m = l ++ r := by
  intro l
  induction l with
  | nil => intro a m _ _; exact ⟨_, rfl⟩
  | cons s l ih =>
    intro a m h hm
    obtain ⟨k, rfl⟩ : ∃ k, m = k + 1 := ⟨m - 1, by simp at hm; omega⟩
    have h0 : T f a = some s := h 0 s rfl
    have h1 : At T f (a + 1) l := fun i s' hi => by
      have := h (i + 1) s' (by simpa using hi)
      rwa [show a + (i + 1) = a + 1 + i from by omega] at this
    obtain ⟨r, hr⟩ := ih h1 (m := k) (by simp at hm; omega)
    refine ⟨r, ?_⟩
    unfold run
    rw [h0]
    simp [hr]

/-- The snapshot of a slot that is complete. -/
def slotF (T : Md) (f : Nat) : Option (Nat × List UInt8) :=
  match joinF (run T f 0 18868) with
  | some (n, x, _) => if n % 2 = f then some (n, x) else none
  | none => none
/-- What is loaded: the snapshot with the greater number. -/
def loadF (T : Md) : Option (Nat × List UInt8) :=
  match slotF T 0, slotF T 1 with
  | none, b => b
  | a, none => a
  | some (n, x), some (m, y) => if m < n then some (n, x) else some (m, y)

theorem slot_secs {T : Md} {f n : Nat} {d : ByteArray} (h : At T f 0 (secs n d)) (hn1 : 1 ≤ n) (hn2 : n ≤ 2147483647) (hd : d.size ≤ 1000000) (hf : n % 2 = f) : slotF T f = some (n, d.data.toList) := by
  obtain ⟨r, hr⟩ := run_app h (m := 18868) (by rw [secs_length]; exact partsN_le hd)
  unfold slotF
  rw [hr, join_lay hn1 hn2 hd r]
  simp [hf]
/-- Its last sector says so. -/
theorem slot_last {T : Md} {f n : Nat} {x : List UInt8} (h : slotF T f = some (n, x)) : 1 ≤ n ∧ n % 2 = f ∧ ∃ k s d, 1 ≤ k ∧ T f (k - 1) = some s ∧ tellF s = some (n, k - 1, k, d) := by
  unfold slotF at h
  split at h
  · rename_i n' x' k hj
    split at h
    · rename_i hf
      injection h with h
      injection h with e1 e2
      subst e1 e2
      obtain ⟨h1, h2, h3, h4, h5, h6, h7⟩ := lay_join hj
      have hsz : (⟨x'.toArray⟩ : ByteArray).size = x'.length := by show x'.toArray.size = _; simp
      have hg := secs_get n' ⟨x'.toArray⟩ (k - 1) (by rw [hsz, h6]; omega)
      rw [h7, List.getElem?_take_of_lt (by omega), hsz, h6] at hg
      have ht := tell_secs n' ⟨x'.toArray⟩ (k - 1) h1 h2 (by rw [hsz]; exact h5) (by rw [hsz, h6]; omega)
      rw [hsz, h6] at ht
      have := run_get hg
      rw [Nat.zero_add] at this
      exact ⟨h1, hf, k, _, _, h3, this, ht⟩
    · cases h
  · cases h

/-- No snapshot of number n is whole in slot f. -/
def Clean (T : Md) (f n : Nat) : Prop := ∀ k s d, 1 ≤ k → T f (k - 1) = some s → tellF s ≠ some (n, k - 1, k, d)
/-- No sector of slot f says a number above n. -/
def Low (T : Md) (f n : Nat) : Prop := ∀ i s m p k d, T f i = some s → tellF s = some (m, p, k, d) → m ≤ n
theorem Low.clean {T : Md} {f n n' : Nat} (h : Low T f n) (hn : n < n') : Clean T f n' := fun k s d _ hs ht => by
  have := h (k - 1) s _ _ _ _ hs ht
  omega
theorem Low.mono {T : Md} {f n n' : Nat} (h : Low T f n) (hn : n ≤ n') : Low T f n' := fun i s m p k d hs ht => Nat.le_trans (h i s m p k d hs ht) hn
theorem slot_low {T : Md} {f n m : Nat} {x : List UInt8} (h : Low T f n) (hs : slotF T f = some (m, x)) : 1 ≤ m ∧ m ≤ n ∧ m % 2 = f := by
  obtain ⟨h1, h2, k, s, d, _, h3, h4⟩ := slot_last hs
  exact ⟨h1, h _ s _ _ _ _ h3 h4, h2⟩
theorem slot_clean {T : Md} {f n m : Nat} {x : List UInt8} (h : Clean T f n) (hs : slotF T f = some (m, x)) : m ≠ n := by
  obtain ⟨_, _, k, s, d, h1, h3, h4⟩ := slot_last hs
  rintro rfl
  exact h k s d h1 h3 h4

/-! ### writing -/
/-- l written from sector 0 on. -/
def puts (T : Md) (f : Nat) (l : List ByteArray) : Md := fun f' a' => if f' = f ∧ a' < l.length then l[a']? else T f' a'
/-- One sector written. -/
def wr (T : Md) (f a : Nat) (s : ByteArray) : Md := fun f' a' => if f' = f ∧ a' = a then some s else T f' a'
theorem puts_nil (T : Md) (f : Nat) : puts T f [] = T := by
  funext f' a'
  unfold puts
  rw [if_neg]
  rintro ⟨_, h⟩
  simp at h
theorem puts_step (T : Md) (f : Nat) (l : List ByteArray) (j : Nat) (s : ByteArray) (hs : l[j]? = some s) : wr (puts T f (l.take j)) f j s = puts T f (l.take (j + 1)) := by
  have hj : j < l.length := (List.getElem?_eq_some_iff.1 hs).1
  have h1 : (l.take j).length = j := by rw [List.length_take]; omega
  have h2 : (l.take (j + 1)).length = j + 1 := by rw [List.length_take]; omega
  funext f' a'
  unfold wr puts
  rw [h1, h2]
  by_cases hf : f' = f
  · subst hf
    by_cases ha : a' = j
    · subst ha
      rw [if_pos ⟨rfl, rfl⟩, if_pos ⟨rfl, by omega⟩, List.getElem?_take_of_lt (by omega), hs]
    · rw [if_neg (fun h => ha h.2)]
      by_cases hr : a' < j
      · rw [if_pos ⟨rfl, hr⟩, if_pos ⟨rfl, by omega⟩, List.getElem?_take_of_lt (by omega), List.getElem?_take_of_lt (by omega)]
      · rw [if_neg (fun h => hr h.2), if_neg (fun h => hr (by omega))]
  · rw [if_neg (fun h => hf h.1), if_neg (fun h => hf h.1), if_neg (fun h => hf h.1)]
theorem puts_other {T : Md} {f f' : Nat} {l : List ByteArray} (h : f' ≠ f) (a' : Nat) : puts T f l f' a' = T f' a' := by
  unfold puts; rw [if_neg (fun hc => h hc.1)]
theorem puts_behind {T : Md} {f a' : Nat} {l : List ByteArray} (h : l.length ≤ a') : puts T f l f a' = T f a' := by
  unfold puts; rw [if_neg (fun hc => by omega)]
theorem puts_in {T : Md} {f i : Nat} {l : List ByteArray} (h : i < l.length) : puts T f l f i = some l[i] := by
  unfold puts
  rw [if_pos ⟨rfl, h⟩, List.getElem?_eq_getElem h]
theorem At.puts (T : Md) (f : Nat) (l : List ByteArray) : At (puts T f l) f 0 l := fun i s hi => by
  have h : i < l.length := (List.getElem?_eq_some_iff.1 hi).1
  rw [Nat.zero_add, puts_in h, ← hi, List.getElem?_eq_getElem h]
/-- What a sector of a snapshot says. -/
theorem secs_tell {n i : Nat} {d : ByteArray} {s : ByteArray} (hn1 : 1 ≤ n) (hn2 : n ≤ 2147483647) (hd : d.size ≤ 1000000) (h : (secs n d)[i]? = some s) : i < partsN d.size ∧ tellF s = some (n, i, partsN d.size, piece d i) := by
  have hi : i < partsN d.size := by rw [← secs_length n d]; exact (List.getElem?_eq_some_iff.1 h).1
  rw [secs_get n d i hi] at h
  injection h with h
  subst h
  exact ⟨hi, tell_secs n d i hn1 hn2 hd hi⟩
theorem clean_torn {T : Md} {f n j : Nat} {d : ByteArray} (h : Clean T f n) (hn1 : 1 ≤ n) (hn2 : n ≤ 2147483647) (hd : d.size ≤ 1000000) (hj : j < partsN d.size) : Clean (puts T f ((secs n d).take j)) f n := by
  intro k s e hk hs ht
  have hl : ((secs n d).take j).length = j := by rw [List.length_take, secs_length]; omega
  by_cases hkj : k - 1 < j
  · rw [puts_in (by omega)] at hs
    injection hs with hs
    have hg : (secs n d)[k - 1]? = some s := by
      rw [← hs, List.getElem_take]
      exact List.getElem?_eq_getElem _
    have := (secs_tell hn1 hn2 hd hg).2
    rw [ht] at this
    simp at this
    omega
  · rw [puts_behind (by omega)] at hs
    exact h k s e hk hs ht
theorem low_puts {T : Md} {f n j : Nat} {d : ByteArray} (h : Low T f n) (hn1 : 1 ≤ n) (hn2 : n ≤ 2147483647) (hd : d.size ≤ 1000000) : Low (puts T f ((secs n d).take j)) f n := by
  intro i s m p k x hs ht
  by_cases hr : i < ((secs n d).take j).length
  · rw [puts_in hr] at hs
    injection hs with hs
    have hg : (secs n d)[i]? = some s := by
      rw [← hs, List.getElem_take]
      exact List.getElem?_eq_getElem _
    have := (secs_tell hn1 hn2 hd hg).2
    rw [ht] at this
    simp at this
    omega
  · rw [puts_behind (by omega)] at hs
    exact h i s m p k x hs ht

/-! ### snapshots saved one behind the other -/
/-- The last one that was saved has the number n and the bytes d (n = 0: none); the next one may have been torn, however often. -/
structure Inv (T : Md) (n : Nat) (d : ByteArray) : Prop where
  small : n < 2147483647
  at_ : 1 ≤ n → At T (n % 2) 0 (secs n d) ∧ d.size ≤ 1000000
  low : Low T (n % 2) n
  low1 : Low T ((n + 1) % 2) (n + 1)
  clean : Clean T ((n + 1) % 2) (n + 1)

theorem Inv.empty (d : ByteArray) : Inv (fun _ _ => none) 0 d where
  small := by omega
  at_ := fun h => by omega
  low := fun _ _ _ _ _ _ h => by cases h
  low1 := fun _ _ _ _ _ _ h => by cases h
  clean := fun _ _ _ _ h => by cases h

section
variable {T : Md} {n : Nat} {d : ByteArray}
/-- A torn Save leaves it so. -/
theorem Inv.torn (h : Inv T n d) (d' : ByteArray) (hd : d'.size ≤ 1000000) (j : Nat) (hj : j < partsN d'.size) : Inv (puts T ((n + 1) % 2) ((secs (n + 1) d').take j)) n d := by
  have hne : n % 2 ≠ (n + 1) % 2 := by omega
  have hs := h.small
  refine ⟨h.small, fun h1 => ⟨fun i s hi => ?_, (h.at_ h1).2⟩, fun i s m p k x hs ht => ?_, low_puts h.low1 (by omega) (by omega) hd, clean_torn h.clean (by omega) (by omega) hd hj⟩
  · rw [puts_other hne]; exact (h.at_ h1).1 i s hi
  · rw [puts_other hne] at hs; exact h.low i s m p k x hs ht
/-- One that is not torn is the last one. -/
theorem Inv.put (h : Inv T n d) (d' : ByteArray) (hd : d'.size ≤ 1000000) (hn : n + 1 < 2147483647) : Inv (puts T ((n + 1) % 2) (secs (n + 1) d')) (n + 1) d' := by
  have hne : (n + 1 + 1) % 2 ≠ (n + 1) % 2 := by omega
  have he : (n + 1 + 1) % 2 = n % 2 := by omega
  have hl := low_puts (j := partsN d'.size) h.low1 (by omega) (by omega) hd
  rw [List.take_of_length_le (by rw [secs_length]; exact Nat.le_refl _)] at hl
  have hlow : Low (puts T ((n + 1) % 2) (secs (n + 1) d')) ((n + 1 + 1) % 2) n := fun i s m p k x hs ht => by
    rw [puts_other hne, he] at hs
    exact h.low i s m p k x hs ht
  exact ⟨hn, fun _ => ⟨At.puts _ _ _, hd⟩, hl, hlow.mono (by omega), hlow.clean (by omega)⟩
/-- What is loaded then. -/
theorem Inv.load (h : Inv T n d) : loadF T = if n = 0 then none else some (n, d.data.toList) := by
  have hs := h.small
  have hoth : ∀ m x, slotF T ((n + 1) % 2) = some (m, x) → m < n := fun m x hm => by
    have h1 := slot_low h.low1 hm
    have h2 := slot_clean h.clean hm
    omega
  by_cases h0 : n = 0
  · subst h0
    rw [if_pos rfl]
    have e0 : slotF T 0 = none := by
      cases hx : slotF T 0 with
      | none => rfl
      | some q => obtain ⟨m, x⟩ := q; have := slot_low h.low hx; omega
    have e1 : slotF T 1 = none := by
      cases hx : slotF T 1 with
      | none => rfl
      | some q => obtain ⟨m, x⟩ := q; have := hoth m x hx; omega
    unfold loadF
    rw [e0, e1]
  · rw [if_neg h0]
    obtain ⟨hat, hd⟩ := h.at_ (by omega)
    have hme := slot_secs hat (by omega) (by omega) hd rfl
    rcases Nat.mod_two_eq_zero_or_one n with e | e
    · rw [e] at hme
      rw [show (n + 1) % 2 = 1 from by omega] at hoth
      unfold loadF
      rw [hme]
      cases hx : slotF T 1 with
      | none => rfl
      | some q => obtain ⟨m, x⟩ := q; have := hoth m x hx; simp [this]
    · rw [e] at hme
      rw [show (n + 1) % 2 = 0 from by omega] at hoth
      unfold loadF
      rw [hme]
      cases hx : slotF T 0 with
      | none => rfl
      | some q =>
        obtain ⟨m, x⟩ := q
        have := hoth m x hx
        simp
        omega
end
end Go.Proofs.Ytkcickbkmedbmaa.Ps
