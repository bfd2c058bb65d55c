/-
  PLAIN MATHEMATICS of layer 6: what is loaded of a slot, told by its first sector and the bytes that its sectors claim.
-/
import Derived.Test.YtkcickbkmedbmaaSSlot
namespace Go.Proofs.Ytkcickbkmedbmaa.Ps

/-- The bytes of its part that a sector says it has. -/
def claimS (s : ByteArray) : ByteArray := s.extract 9 (9 + min (byteAt s 8) 53)
def claimL (l : List ByteArray) : List UInt8 := (l.map fun s => (claimS s).data.toList).flatten
theorem claimL_snoc (l : List ByteArray) (s : ByteArray) : claimL (l ++ [s]) = claimL l ++ (claimS s).data.toList := by simp [claimL]
theorem claimS_size {s : ByteArray} (h : s.size = 64) : (claimS s).size = min (byteAt s 8) 53 := by
  unfold claimS; rw [ext_size _ _ _ (by omega)]; omega
theorem claimL_length {l : List ByteArray} (h : ∀ s ∈ l, s.size = 64) : (claimL l).length ≤ l.length * 53 := by
  induction l with
  | nil => simp [claimL]
  | cons s r ih =>
    have h1 := ih (fun s' hs => h s' (List.mem_cons_of_mem _ hs))
    have h2 := claimS_size (h s (List.mem_cons_self ..))
    have e : claimL (s :: r) = (claimS s).data.toList ++ claimL r := by simp [claimL]
    rw [e, List.length_append, length_toList, h2, List.length_cons]
    omega
theorem tell_parts {s : ByteArray} {n p k : Nat} {d : ByteArray} (h : tellF s = some (n, p, k, d)) : claimS s = d ∧ numB s = n ∧ parB s = p ∧ cntB s = k ∧ byteAt s 8 ≤ 53 := by
  unfold tellF at h
  split at h
  · rename_i hc
    simp only [Option.some.injEq, Prod.mk.injEq] at h
    obtain ⟨rfl, rfl, rfl, rfl⟩ := h
    refine ⟨?_, rfl, rfl, rfl, hc.2.1⟩
    unfold claimS
    rw [Nat.min_eq_left hc.2.1]
  · cases h
theorem joinL_claim {n k : Nat} : ∀ {l : List ByteArray} {i : Nat} {x : List UInt8}, joinL n k i l = some x → claimL l = x := by
  intro l
  induction l with
  | nil => intro i x h; simp [joinL] at h; subst h; rfl
  | cons s r ih =>
    intro i x h
    obtain ⟨d, hd⟩ := joinL_tell h 0 s rfl
    rw [Nat.add_zero] at hd
    rw [joinL_cons_some hd] at h
    obtain ⟨y, hy, rfl⟩ := Option.map_eq_some_iff.1 h
    have e : claimL (s :: r) = (claimS s).data.toList ++ claimL r := by simp [claimL]
    rw [e, (tell_parts hd).1, ih hy]
theorem claim_secs {n : Nat} {d : ByteArray} (hn1 : 1 ≤ n) (hn2 : n ≤ 2147483647) (hs : d.size ≤ 1000000) : claimL (secs n d) = d.data.toList := by
  have hj := joinL_secs n d hn1 hn2 hs (partsN d.size) 0 (by omega)
  rw [← List.range_eq_range'] at hj
  have := joinL_claim hj
  simpa [secs] using this

/-- A slot that is complete, told by its first sector. -/
theorem slot_inv {T : Md} {f n : Nat} {x : List UInt8} (h : slotF T f = some (n, x)) :
    ∃ s0, T f 0 = some s0 ∧ numB s0 = n ∧ cntB s0 = partsN x.length ∧ At T f 0 (secs n ⟨x.toArray⟩) ∧ 1 ≤ n ∧ n ≤ 2147483647 ∧ x.length ≤ 1000000 ∧ n % 2 = f := by
  unfold slotF at h
  split at h
  · rename_i n' x' k hj
    split at h
    · rename_i hf
      injection h with h
      injection h with e1 e2
      subst e1 e2
      obtain ⟨h1, h2, h3, h4, h5, h6, h7⟩ := lay_join hj
      have hsz : (⟨x'.toArray⟩ : ByteArray).size = x'.length := by show x'.toArray.size = _; simp
      have hat : At T f 0 (secs n' ⟨x'.toArray⟩) := fun i s hi => by
        rw [h7] at hi
        have hik : i < k := by
          have := (List.getElem?_eq_some_iff.1 hi).1
          rw [List.length_take] at this; omega
        rw [List.getElem?_take_of_lt hik] at hi
        have := run_get hi
        rwa [Nat.zero_add] at this ⊢
      have hg := secs_get n' ⟨x'.toArray⟩ 0 (by rw [hsz, h6]; omega)
      have ht := tell_secs n' ⟨x'.toArray⟩ 0 h1 h2 (by rw [hsz]; exact h5) (by rw [hsz, h6]; omega)
      have hp := tell_parts ht
      refine ⟨_, hat 0 _ hg, hp.2.1, by rw [hp.2.2.2.1, hsz], hat, h1, h2, h5, hf⟩
    · cases h
  · cases h
theorem slot_none {T : Md} {f : Nat} (h : T f 0 = none) : slotF T f = none := by
  cases hs : slotF T f with
  | none => rfl
  | some q => obtain ⟨n, x⟩ := q; obtain ⟨s0, h0, _⟩ := slot_inv hs; rw [h] at h0; cases h0
theorem slot_miss {T : Md} {f i : Nat} {s0 : ByteArray} (h0 : T f 0 = some s0) (hi : i < cntB s0) (h : T f i = none) : slotF T f = none := by
  cases hs : slotF T f with
  | none => rfl
  | some q =>
    exfalso
    obtain ⟨n, x⟩ := q
    obtain ⟨s1, h1, _, hc, hat, _⟩ := slot_inv hs
    rw [h0] at h1
    injection h1 with h1
    subst h1
    have hsz : (⟨x.toArray⟩ : ByteArray).size = x.length := by show x.toArray.size = _; simp
    have := hat i _ (secs_get n ⟨x.toArray⟩ i (by rw [hsz]; omega))
    rw [Nat.zero_add, h] at this
    cases this
/-- All its sectors are there. -/
theorem slot_char {T : Md} {f : Nat} {s0 : ByteArray} {l : List ByteArray} (h0 : T f 0 = some s0) (hl : l.length = cntB s0) (hat : At T f 0 l) :
    slotF T f = if 1 ≤ numB s0 ∧ numB s0 ≤ 2147483647 ∧ (claimL l).length ≤ 1000000 ∧ numB s0 % 2 = f ∧ secs (numB s0) ⟨(claimL l).toArray⟩ = l then some (numB s0, claimL l) else none := by
  have hsz : ∀ x : List UInt8, (⟨x.toArray⟩ : ByteArray).size = x.length := fun x => by show x.toArray.size = _; simp
  split
  · rename_i hc
    obtain ⟨h1, h2, h3, h4, h5⟩ := hc
    have := slot_secs (T := T) (f := f) (n := numB s0) (d := ⟨(claimL l).toArray⟩) (by rw [h5]; exact hat) h1 h2 (by rw [hsz]; exact h3) h4
    simpa using this
  · rename_i hc
    cases hs : slotF T f with
    | none => rfl
    | some q =>
      exfalso
      obtain ⟨n, x⟩ := q
      obtain ⟨s1, e1, en, ec, hat', n1, n2, hx, hf⟩ := slot_inv hs
      rw [h0] at e1
      injection e1 with e1
      subst e1
      have hlen : (secs n ⟨x.toArray⟩).length = l.length := by rw [secs_length, hsz, hl, ec]
      have he : secs n ⟨x.toArray⟩ = l := by
        apply List.ext_getElem hlen
        intro i hi1 hi2
        have a1 := hat' i _ (List.getElem?_eq_getElem hi1)
        have a2 := hat i _ (List.getElem?_eq_getElem hi2)
        rw [a1] at a2
        exact Option.some.inj a2
      have hcl : claimL l = x := by rw [← he, claim_secs n1 n2 (by rw [hsz]; exact hx)]
      refine hc ⟨by omega, by omega, by rw [hcl]; exact hx, by rw [en]; exact hf, by rw [hcl, en]; exact he⟩

/-- Both slots, by their numbers: 0 is none. -/
def numO : Option (Nat × List UInt8) → Nat
  | none => 0
  | some (n, _) => n
def datO : Option (Nat × List UInt8) → List UInt8
  | none => []
  | some (_, x) => x
theorem slot_num {T : Md} {f : Nat} : (slotF T f = none ∧ numO (slotF T f) = 0 ∧ datO (slotF T f) = []) ∨ (1 ≤ numO (slotF T f) ∧ numO (slotF T f) ≤ 2147483647 ∧ numO (slotF T f) % 2 = f ∧ slotF T f = some (numO (slotF T f), datO (slotF T f))) := by
  cases hs : slotF T f with
  | none => exact .inl ⟨rfl, rfl, rfl⟩
  | some q => obtain ⟨n, x⟩ := q; obtain ⟨_, _, _, _, _, h1, h2, _, h3⟩ := slot_inv hs; exact .inr ⟨h1, h2, h3, rfl⟩
/-- The greater number is loaded. -/
theorem load_eq (T : Md) : loadF T = if numO (slotF T 0) = 0 ∧ numO (slotF T 1) = 0 then none else if numO (slotF T 0) < numO (slotF T 1) then some (numO (slotF T 1), datO (slotF T 1)) else some (numO (slotF T 0), datO (slotF T 0)) := by
  unfold loadF
  rcases slot_num (T := T) (f := 0) with ⟨h0, a0, b0⟩ | ⟨h0, _, c0, e0⟩ <;> rcases slot_num (T := T) (f := 1) with ⟨h1, a1, b1⟩ | ⟨h1, _, c1, e1⟩
  · rw [a0, a1, h0, h1]; rfl
  · rw [a0, if_neg (by omega), if_pos (by omega), h0]
    exact e1
  · rw [a1, if_neg (by omega), if_neg (by omega), h1]
    rw [e0]; rfl
  · rw [if_neg (by omega)]
    generalize numO (slotF T 0) = n0 at *
    generalize datO (slotF T 0) = x0 at *
    generalize numO (slotF T 1) = n1 at *
    generalize datO (slotF T 1) = x1 at *
    rw [e0, e1]
    by_cases h : n1 < n0
    · simp only [if_pos h]; rw [if_neg (by omega)]
    · simp only [if_neg h]; rw [if_pos (by omega)]

/-- The newest one of the first k slots; its number is 0 if there is none. -/
def newF (T : Md) : Nat → Nat × List UInt8
  | 0 => (0, [])
  | k + 1 => if (newF T k).1 < numO (slotF T k) then (numO (slotF T k), datO (slotF T k)) else newF T k
theorem load_new (T : Md) : loadF T = if (newF T 2).1 = 0 then none else some (newF T 2) := by
  rw [load_eq]
  have e1 : newF T 1 = (numO (slotF T 0), datO (slotF T 0)) := by
    unfold newF
    rcases slot_num (T := T) (f := 0) with ⟨_, a0, b0⟩ | ⟨h0, _⟩
    · rw [a0, b0]; rfl
    · rw [if_pos (show (newF T 0).1 < _ from h0)]
  have e2 : newF T 2 = if numO (slotF T 0) < numO (slotF T 1) then (numO (slotF T 1), datO (slotF T 1)) else (numO (slotF T 0), datO (slotF T 0)) := by
    rw [newF, e1]
  rw [e2]
  by_cases h : numO (slotF T 0) < numO (slotF T 1)
  · simp only [if_pos h]
    rw [if_neg (by omega), if_neg (by omega)]
  · simp only [if_neg h]
    by_cases h0 : numO (slotF T 0) = 0
    · rw [if_pos (by omega), if_pos h0]
    · rw [if_neg (by omega), if_neg h0]
end Go.Proofs.Ytkcickbkmedbmaa.Ps
