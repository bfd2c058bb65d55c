/-
  PLAIN: pairs by their names: what is found, put, dropped, kept; whether a list rises.
-/
import Derived.Laws.Cover1
import Derived.Sort.Walk0
namespace Go.Proofs.Ytcpfhmipjpbhnaa.Pl

abbrev Pr := ByteArray × Int

def lt (a b : ByteArray) : Bool := Op.bytesLess a.toList b.toList
def eqv (a b : ByteArray) : Bool := a.toList == b.toList
def cmp (a b : ByteArray) : Int := if lt a b = true then -1 else if eqv a b = true then 0 else 1

theorem lt_iff (a b : ByteArray) : lt a b = true ↔ a.toList < b.toList := by
  unfold lt; rw [Go.Proofs.bytesLess_eq]; simp
theorem eqv_iff (a b : ByteArray) : eqv a b = true ↔ a = b := by
  unfold eqv
  rw [beq_iff_eq, ByteArray.toList_eq, ByteArray.toList_eq]
  constructor
  · intro h
    cases a; cases b
    congr
    exact Array.toList_inj.1 h
  · rintro rfl; rfl
theorem lt_irrefl (a : ByteArray) : lt a a = false := by
  rw [Bool.eq_false_iff]; intro h; rw [lt_iff] at h; exact List.lt_irrefl _ h
theorem lt_trans {a b c : ByteArray} (h : lt a b = true) (k : lt b c = true) : lt a c = true := by
  rw [lt_iff] at *; exact List.lt_trans h k
theorem lt_asymm {a b : ByteArray} (h : lt a b = true) : lt b a = false := by
  rw [Bool.eq_false_iff]; intro k; exact absurd (lt_trans h k) (by rw [lt_irrefl]; simp)
theorem lt_tri (a b : ByteArray) : lt a b = true ∨ a = b ∨ lt b a = true := by
  by_cases h : lt a b = true
  · exact .inl h
  · by_cases k : lt b a = true
    · exact .inr (.inr k)
    · rw [lt_iff] at h k
      refine .inr (.inl ?_)
      have : a.toList = b.toList := List.le_antisymm k h
      exact (eqv_iff a b).1 (by unfold eqv; rw [this]; simp)
theorem cmp_zero (a b : ByteArray) : (cmp a b == 0) = eqv a b := by
  unfold cmp
  by_cases h : lt a b = true
  · have : eqv a b = false := by
      rw [Bool.eq_false_iff]; intro e; rw [eqv_iff] at e; subst e; rw [lt_irrefl] at h; cases h
    simp [h, this]
  · by_cases k : eqv a b = true <;> simp [h, k]
theorem cmp_pos (a b : ByteArray) : decide (0 < cmp a b) = lt b a := by
  unfold cmp
  by_cases h : lt a b = true
  · simp [h, lt_asymm h]
  · by_cases k : eqv a b = true
    · have := (eqv_iff a b).1 k
      subst this
      simp [k, lt_irrefl]
    · have : lt b a = true := by
        rcases lt_tri a b with h' | h' | h'
        · exact absurd h' h
        · exact absurd ((eqv_iff a b).2 h') k
        · exact h'
      simp [h, k, this]
theorem cmp_neg (a b : ByteArray) : decide (cmp a b < 0) = lt a b := by
  unfold cmp
  by_cases h : lt a b = true
  · simp [h]
  · by_cases k : eqv a b = true <;> simp [h, k]
theorem cmp_bd (a b : ByteArray) : -1 ≤ cmp a b ∧ cmp a b ≤ 1 := by
  unfold cmp; split <;> (try split) <;> omega

/-- The place of the first pair that is so. -/
def firstO (f : ByteArray → Int → Bool) (l : List Pr) : Option Nat := l.findIdx? fun p => f p.1 p.2
theorem firstO_none {f : ByteArray → Int → Bool} {l : List Pr} (h : ∀ j (hj : j < l.length), f l[j].1 l[j].2 = false) : firstO f l = none := by
  unfold firstO
  rw [List.findIdx?_eq_none_iff]
  intro x hx
  obtain ⟨j, hj, rfl⟩ := List.getElem_of_mem hx
  exact h j hj
theorem firstO_some {f : ByteArray → Int → Bool} {l : List Pr} {k : Nat} (hk : k < l.length) (h : ∀ j (hj : j < l.length), j < k → f l[j].1 l[j].2 = false) (ht : f l[k].1 l[k].2 = true) : firstO f l = some k := by
  unfold firstO
  rw [List.findIdx?_eq_some_iff_getElem]
  exact ⟨hk, ht, fun j hj => by simp [h j (by omega) hj]⟩
theorem firstO_lt {f : ByteArray → Int → Bool} {l : List Pr} {k : Nat} (h : firstO f l = some k) : k < l.length := by
  unfold firstO at h
  rw [List.findIdx?_eq_some_iff_getElem] at h
  exact h.1
theorem firstO_at {f : ByteArray → Int → Bool} {l : List Pr} {k : Nat} (h : firstO f l = some k) (hk : k < l.length) : f l[k].1 l[k].2 = true := by
  unfold firstO at h
  rw [List.findIdx?_eq_some_iff_getElem] at h
  exact h.2.1
theorem firstO_before {f : ByteArray → Int → Bool} {l : List Pr} {k : Nat} (h : firstO f l = some k) (j : Nat) (hj : j < l.length) (hjk : j < k) : f l[j].1 l[j].2 = false := by
  unfold firstO at h
  rw [List.findIdx?_eq_some_iff_getElem] at h
  simpa using h.2.2 j hjk
theorem firstO_all {f : ByteArray → Int → Bool} {l : List Pr} (h : firstO f l = none) (j : Nat) (hj : j < l.length) : f l[j].1 l[j].2 = false := by
  unfold firstO at h
  rw [List.findIdx?_eq_none_iff] at h
  exact h _ (List.getElem_mem hj)
/-- The place of the first pair of a name. -/
def findO (l : List Pr) (x : ByteArray) : Option Nat := firstO (fun s _ => eqv s x) l
def overO (l : List Pr) (x : ByteArray) : Option Nat := firstO (fun s _ => lt x s) l
def putL (l : List Pr) (x : Pr) : List Pr :=
  match findO l x.1 with
  | some i => l.take i ++ [x] ++ l.drop (i + 1)
  | none => match overO l x.1 with
    | some i => l.take i ++ [x] ++ l.drop i
    | none => l ++ [x]
def dropL (l : List Pr) (x : ByteArray) : List Pr :=
  match findO l x with
  | some i => l.take i ++ l.drop (i + 1)
  | none => l

/-- Each name stands ahead of the next one. -/
def risesL : List Pr → Bool
  | a :: b :: t => lt a.1 b.1 && risesL (b :: t)
  | _ => true
theorem risesL_iff (l : List Pr) : risesL l = true ↔ ∀ j, (h : j + 1 < l.length) → lt l[j].1 l[j + 1].1 = true := by
  induction l with
  | nil => simp [risesL]
  | cons a l ih =>
    cases l with
    | nil => simp [risesL]
    | cons b t =>
      rw [risesL, Bool.and_eq_true, ih]
      constructor
      · rintro ⟨h0, h⟩ j hj
        cases j with
        | zero => exact h0
        | succ j => exact h j (by simpa using hj)
      · intro h
        exact ⟨h 0 (by simp), fun j hj => h (j + 1) (by simpa using hj)⟩
theorem risesL_true {l : List Pr} (h : ∀ j, (hj : j + 1 < l.length) → lt l[j].1 l[j + 1].1 = true) : risesL l = true := (risesL_iff l).2 h
theorem risesL_false {l : List Pr} {j : Nat} (hj : j + 1 < l.length) (h : lt l[j].1 l[j + 1].1 = false) : risesL l = false := by
  rw [Bool.eq_false_iff]
  intro k
  rw [(risesL_iff l).1 k j hj] at h
  cases h

theorem putL_len (l : List Pr) (x : Pr) : (putL l x).length ≤ l.length + 1 := by
  unfold putL
  split
  · rename_i i hi
    have : i < l.length := firstO_lt hi
    simp only [List.length_append, List.length_take, List.length_drop, List.length_cons, List.length_nil]
    omega
  · split
    · rename_i i hi
      simp only [List.length_append, List.length_take, List.length_drop, List.length_cons, List.length_nil]
      omega
    · simp
theorem dropL_len (l : List Pr) (x : ByteArray) : (dropL l x).length ≤ l.length := by
  unfold dropL
  split
  · rename_i i hi
    simp only [List.length_append, List.length_take, List.length_drop]
    omega
  · exact Nat.le_refl _
/-- One step of putting x in: what is there so far, and whether x is among it. -/
def insS (x : Pr) (r : List Pr × Bool) (p : Pr) : List Pr × Bool := if !r.2 && lt x.1 p.1 then (r.1 ++ [x] ++ [p], true) else (r.1 ++ [p], r.2)
def insK (x : Pr) (l : List Pr) (k : Nat) : List Pr × Bool := (l.take k).foldl (insS x) ([], false)
theorem insK_succ (x : Pr) (l : List Pr) (k : Nat) (h : k < l.length) : insK x l (k + 1) = insS x (insK x l k) l[k] := by
  unfold insK
  rw [List.take_succ_eq_append_getElem h, List.foldl_append]
  rfl
theorem insK_len (x : Pr) (l : List Pr) (k : Nat) : (insK x l k).1.length ≤ k + (if (insK x l k).2 then 1 else 0) := by
  induction k with
  | zero => simp [insK]
  | succ k ih =>
    by_cases h : k < l.length
    · rw [insK_succ x l k h]
      unfold insS
      split
      · rename_i hh
        have : (insK x l k).2 = false := by
          cases e : (insK x l k).2
          · rfl
          · rw [e] at hh; simp at hh
        rw [this] at ih
        simp only [List.length_append, List.length_cons, List.length_nil, if_true]
        simp at ih
        omega
      · simp only [List.length_append, List.length_cons, List.length_nil]
        omega
    · have : insK x l (k + 1) = insK x l k := by
        unfold insK
        rw [List.take_of_length_le (by omega), List.take_of_length_le (by omega)]
      rw [this]
      omega
theorem insK_form (x : Pr) (l : List Pr) (k : Nat) (hk : k ≤ l.length) :
    ((insK x l k).2 = false ∧ (insK x l k).1 = l.take k ∧ ∀ j, (hj : j < l.length) → j < k → lt x.1 l[j].1 = false) ∨
    ((insK x l k).2 = true ∧ ∃ i, i < k ∧ overO l x.1 = some i ∧ (insK x l k).1 = l.take i ++ [x] ++ (l.take k).drop i) := by
  induction k with
  | zero => exact .inl ⟨rfl, by simp [insK], fun j _ h => by omega⟩
  | succ k ih =>
    have hl : k < l.length := hk
    rw [insK_succ x l k hl]
    rcases ih (by omega) with ⟨h1, h2, h3⟩ | ⟨h1, i, hi, ho, h2⟩
    · by_cases hlt : lt x.1 l[k].1 = true
      · refine .inr ⟨by simp [insS, h1, hlt], k, by omega, firstO_some hl (fun j hj hjk => h3 j hj hjk) hlt, ?_⟩
        simp only [insS, h1, hlt, Bool.not_false, Bool.and_self, if_true, h2]
        rw [List.take_succ_eq_append_getElem hl]
        rw [List.drop_append_of_le_length (by rw [List.length_take]; omega), List.drop_eq_nil_of_le (by rw [List.length_take]; omega), List.nil_append]
      · have hlt' : lt x.1 l[k].1 = false := by simpa using hlt
        refine .inl ⟨by simp [insS, h1, hlt'], ?_, fun j hj hjk => ?_⟩
        · simp only [insS, h1, hlt', Bool.and_false, Bool.false_eq_true, if_false, h2]
          rw [List.take_succ_eq_append_getElem hl]
        · by_cases e : j = k
          · subst e; exact hlt'
          · exact h3 j hj (by omega)
    · refine .inr ⟨by simp [insS, h1], i, by omega, ho, ?_⟩
      simp only [insS, h1, Bool.not_true, Bool.false_and, Bool.false_eq_true, if_false, h2]
      rw [List.take_succ_eq_append_getElem hl, List.drop_append_of_le_length (by rw [List.length_take]; omega)]
      simp
theorem insK_put (x : Pr) (l : List Pr) (h : findO l x.1 = none) : putL l x = if (insK x l l.length).2 then (insK x l l.length).1 else (insK x l l.length).1 ++ [x] := by
  unfold putL
  rw [h]
  simp only
  rcases insK_form x l l.length (Nat.le_refl _) with ⟨h1, h2, h3⟩ | ⟨h1, i, hi, ho, h2⟩
  · rw [show overO l x.1 = none from firstO_none fun j hj => h3 j hj hj, h1, h2]
    simp
  · rw [ho, h1, h2]
    simp
theorem put_set (x : Pr) (l : List Pr) (i : Nat) (h : findO l x.1 = some i) : putL l x = l.set i x := by
  have hi : i < l.length := firstO_lt h
  unfold putL
  rw [h]
  simp only
  rw [List.set_eq_take_append_cons_drop, if_pos hi]
  simp
/-- What is left of the first k pairs without the one at i. -/
def offK (o : Option Nat) (l : List Pr) (k : Nat) : List Pr := match o with
  | some i => if i < k then l.take i ++ (l.take k).drop (i + 1) else l.take k
  | none => l.take k
theorem offK_succ (o : Option Nat) (l : List Pr) (k : Nat) (h : k < l.length) : offK o l (k + 1) = offK o l k ++ if o = some k then [] else [l[k]] := by
  cases o with
  | none => simp only [offK]; rw [List.take_succ_eq_append_getElem h]; simp
  | some i =>
    simp only [offK]
    rw [List.take_succ_eq_append_getElem h]
    by_cases h1 : i < k
    · rw [if_pos (by omega), if_pos h1, List.drop_append_of_le_length (by rw [List.length_take]; omega), if_neg (by simp; omega)]
      simp
    · by_cases h2 : i = k
      · subst h2
        rw [if_pos (by omega), if_neg h1, if_pos rfl]
        simp
      · rw [if_neg (by omega), if_neg h1, if_neg (by simp; omega)]
theorem offK_drop (x : ByteArray) (l : List Pr) : offK (findO l x) l l.length = dropL l x := by
  unfold offK dropL
  cases h : findO l x with
  | none => simp
  | some i =>
    have hi : i < l.length := firstO_lt h
    simp [hi]
theorem offK_len (o : Option Nat) (l : List Pr) (k : Nat) : (offK o l k).length ≤ k := by
  unfold offK
  cases o with
  | none => exact List.length_take_le _ _
  | some i =>
    simp only
    split
    · simp only [List.length_append, List.length_take, List.length_drop]; omega
    · exact List.length_take_le _ _
end Go.Proofs.Ytcpfhmipjpbhnaa.Pl
