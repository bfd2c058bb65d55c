/-
  PLAIN: lists of whatever things in an order: what is found, put and dropped.
-/
import Derived.Laws.Cover1
import Derived.Sort.Walk0
namespace Go.Proofs.YtjphjblcahadkaaGreat.Pl
set_option linter.unusedVariables false

def lt (a b : ByteArray) : Bool := Op.bytesLess a.toList b.toList
def eqv (a b : ByteArray) : Bool := a.toList == b.toList
def cmp (a b : ByteArray) : Int := if lt a b = true then -1 else if eqv a b = true then 0 else 1

theorem lt_iff (a b : ByteArray) : lt a b = true ↔ a.toList < b.toList := by
  unfold lt; rw [Go.Proofs.bytesLess_eq]; simp
theorem eqv_iff (a b : ByteArray) : eqv a b = true ↔ a = b := by
  unfold eqv
  rw [beq_iff_eq, ByteArray.toList_eq, ByteArray.toList_eq]
  constructor
  · intro h
    cases a; cases b
    congr
    exact Array.toList_inj.1 h
  · rintro rfl; rfl
theorem lt_irrefl (a : ByteArray) : lt a a = false := by
  rw [Bool.eq_false_iff]; intro h; rw [lt_iff] at h; exact List.lt_irrefl _ h
theorem lt_trans {a b c : ByteArray} (h : lt a b = true) (k : lt b c = true) : lt a c = true := by
  rw [lt_iff] at *; exact List.lt_trans h k
theorem lt_asymm {a b : ByteArray} (h : lt a b = true) : lt b a = false := by
  rw [Bool.eq_false_iff]; intro k; exact absurd (lt_trans h k) (by rw [lt_irrefl]; simp)
theorem lt_tri (a b : ByteArray) : lt a b = true ∨ a = b ∨ lt b a = true := by
  by_cases h : lt a b = true
  · exact .inl h
  · by_cases k : lt b a = true
    · exact .inr (.inr k)
    · rw [lt_iff] at h k
      refine .inr (.inl ?_)
      have : a.toList = b.toList := List.le_antisymm k h
      exact (eqv_iff a b).1 (by unfold eqv; rw [this]; simp)
theorem cmp_zero (a b : ByteArray) : (cmp a b == 0) = eqv a b := by
  unfold cmp
  by_cases h : lt a b = true
  · have : eqv a b = false := by
      rw [Bool.eq_false_iff]; intro e; rw [eqv_iff] at e; subst e; rw [lt_irrefl] at h; cases h
    simp [h, this]
  · by_cases k : eqv a b = true <;> simp [h, k]
theorem cmp_pos (a b : ByteArray) : decide (0 < cmp a b) = lt b a := by
  unfold cmp
  by_cases h : lt a b = true
  · simp [h, lt_asymm h]
  · by_cases k : eqv a b = true
    · have := (eqv_iff a b).1 k
      subst this
      simp [k, lt_irrefl]
    · have : lt b a = true := by
        rcases lt_tri a b with h' | h' | h'
        · exact absurd h' h
        · exact absurd ((eqv_iff a b).2 h') k
        · exact h'
      simp [h, k, this]
theorem cmp_bd (a b : ByteArray) : -1 ≤ cmp a b ∧ cmp a b ≤ 1 := by
  unfold cmp; split <;> (try split) <;> omega

section
variable {α : Type}
/-- The place of the first thing that is so. -/
def firstG (f : α → Bool) (l : List α) : Option Nat := l.findIdx? f
theorem firstG_none {f : α → Bool} {l : List α} (h : ∀ j (hj : j < l.length), f l[j] = false) : firstG f l = none := by
  unfold firstG
  rw [List.findIdx?_eq_none_iff]
  intro x hx
  obtain ⟨j, hj, rfl⟩ := List.getElem_of_mem hx
  exact h j hj
theorem firstG_some {f : α → Bool} {l : List α} {k : Nat} (hk : k < l.length) (h : ∀ j (hj : j < l.length), j < k → f l[j] = false) (ht : f l[k] = true) : firstG f l = some k := by
  unfold firstG
  rw [List.findIdx?_eq_some_iff_getElem]
  exact ⟨hk, ht, fun j hj => by simp [h j (by omega) hj]⟩
theorem firstG_lt {f : α → Bool} {l : List α} {k : Nat} (h : firstG f l = some k) : k < l.length := by
  unfold firstG at h
  rw [List.findIdx?_eq_some_iff_getElem] at h
  exact h.1
theorem firstG_at {f : α → Bool} {l : List α} {k : Nat} (h : firstG f l = some k) (hk : k < l.length) : f l[k] = true := by
  unfold firstG at h
  rw [List.findIdx?_eq_some_iff_getElem] at h
  exact h.2.1
theorem firstG_before {f : α → Bool} {l : List α} {k : Nat} (h : firstG f l = some k) (j : Nat) (hj : j < l.length) (hjk : j < k) : f l[j] = false := by
  unfold firstG at h
  rw [List.findIdx?_eq_some_iff_getElem] at h
  simpa using h.2.2 j hjk
theorem firstG_all {f : α → Bool} {l : List α} (h : firstG f l = none) (j : Nat) (hj : j < l.length) : f l[j] = false := by
  unfold firstG at h
  rw [List.findIdx?_eq_none_iff] at h
  exact h _ (List.getElem_mem hj)
/-- The place of the first thing of x's name; of the first one that is greater. -/
def findG (ord : α → α → Int) (l : List α) (x : α) : Option Nat := firstG (fun e => ord e x == 0) l
def overG (ord : α → α → Int) (l : List α) (x : α) : Option Nat := firstG (fun e => decide (0 < ord e x)) l
def putG (ord : α → α → Int) (l : List α) (x : α) : List α :=
  match findG ord l x with
  | some i => l.take i ++ [x] ++ l.drop (i + 1)
  | none => match overG ord l x with
    | some i => l.take i ++ [x] ++ l.drop i
    | none => l ++ [x]
def dropG (ord : α → α → Int) (l : List α) (x : α) : List α :=
  match findG ord l x with
  | some i => l.take i ++ l.drop (i + 1)
  | none => l
theorem putG_len (ord : α → α → Int) (l : List α) (x : α) : (putG ord l x).length = if (findG ord l x).isSome then l.length else l.length + 1 := by
  unfold putG
  split
  · rename_i i hi
    have : i < l.length := firstG_lt hi
    simp only [List.length_append, List.length_take, List.length_drop, List.length_cons, List.length_nil, hi, Option.isSome_some, if_true]
    omega
  · rename_i hn
    split
    · rename_i i hi
      have : i < l.length := firstG_lt hi
      simp only [List.length_append, List.length_take, List.length_drop, List.length_cons, List.length_nil, hn, Option.isSome_none, Bool.false_eq_true, if_false]
      omega
    · simp [hn]
theorem putG_mem {ord : α → α → Int} {l : List α} {x e : α} (h : e ∈ putG ord l x) : e = x ∨ e ∈ l := by
  unfold putG at h
  split at h
  · simp only [List.mem_append, List.mem_singleton] at h
    rcases h with (h | h) | h
    · exact .inr (List.mem_of_mem_take h)
    · exact .inl h
    · exact .inr (List.mem_of_mem_drop h)
  · split at h
    · simp only [List.mem_append, List.mem_singleton] at h
      rcases h with (h | h) | h
      · exact .inr (List.mem_of_mem_take h)
      · exact .inl h
      · exact .inr (List.mem_of_mem_drop h)
    · simp only [List.mem_append, List.mem_singleton] at h
      exact h.symm
/-- One step of putting x in: what is there so far, and whether x is among it. -/
def insS (ord : α → α → Int) (x : α) (r : List α × Bool) (p : α) : List α × Bool := if !r.2 && decide (0 < ord p x) then (r.1 ++ [x] ++ [p], true) else (r.1 ++ [p], r.2)
def insK (ord : α → α → Int) (x : α) (l : List α) (k : Nat) : List α × Bool := (l.take k).foldl (insS ord x) ([], false)
theorem insK_succ (ord : α → α → Int) (x : α) (l : List α) (k : Nat) (h : k < l.length) : insK ord x l (k + 1) = insS ord x (insK ord x l k) l[k] := by
  unfold insK
  rw [List.take_succ_eq_append_getElem h, List.foldl_append]
  rfl
theorem insK_len (ord : α → α → Int) (x : α) (l : List α) (k : Nat) : (insK ord x l k).1.length ≤ k + (if (insK ord x l k).2 then 1 else 0) := by
  induction k with
  | zero => simp [insK]
  | succ k ih =>
    by_cases h : k < l.length
    · rw [insK_succ ord x l k h]
      unfold insS
      split
      · rename_i hh
        have : (insK ord x l k).2 = false := by
          cases e : (insK ord x l k).2
          · rfl
          · rw [e] at hh; simp at hh
        rw [this] at ih
        simp only [List.length_append, List.length_cons, List.length_nil, if_true]
        simp at ih
        omega
      · simp only [List.length_append, List.length_cons, List.length_nil]
        omega
    · have : insK ord x l (k + 1) = insK ord x l k := by
        unfold insK
        rw [List.take_of_length_le (by omega), List.take_of_length_le (by omega)]
      rw [this]
      omega
theorem insK_form (ord : α → α → Int) (x : α) (l : List α) (k : Nat) (hk : k ≤ l.length) :
    ((insK ord x l k).2 = false ∧ (insK ord x l k).1 = l.take k ∧ ∀ j, (hj : j < l.length) → j < k → decide (0 < ord l[j] x) = false) ∨
    ((insK ord x l k).2 = true ∧ ∃ i, i < k ∧ overG ord l x = some i ∧ (insK ord x l k).1 = l.take i ++ [x] ++ (l.take k).drop i) := by
  induction k with
  | zero => exact .inl ⟨rfl, by simp [insK], fun j _ h => by omega⟩
  | succ k ih =>
    have hl : k < l.length := hk
    rw [insK_succ ord x l k hl]
    rcases ih (by omega) with ⟨h1, h2, h3⟩ | ⟨h1, i, hi, ho, h2⟩
    · by_cases hlt : decide (0 < ord l[k] x) = true
      · refine .inr ⟨by simp only [insS, h1, hlt]; rfl, k, by omega, firstG_some hl (fun j hj hjk => h3 j hj hjk) hlt, ?_⟩
        simp only [insS, h1, hlt, Bool.not_false, Bool.and_self, if_true, h2]
        rw [List.take_succ_eq_append_getElem hl]
        rw [List.drop_append_of_le_length (by rw [List.length_take]; omega), List.drop_eq_nil_of_le (by rw [List.length_take]; omega), List.nil_append]
      · have hlt' : decide (0 < ord l[k] x) = false := by simpa using hlt
        refine .inl ⟨by simp only [insS, h1, hlt']; rfl, ?_, fun j hj hjk => ?_⟩
        · simp only [insS, h1, hlt', Bool.and_false, Bool.false_eq_true, if_false, h2]
          rw [List.take_succ_eq_append_getElem hl]
        · by_cases e : j = k
          · subst e; exact hlt'
          · exact h3 j hj (by omega)
    · refine .inr ⟨by simp [insS, h1], i, by omega, ho, ?_⟩
      simp only [insS, h1, Bool.not_true, Bool.false_and, Bool.false_eq_true, if_false, h2]
      rw [List.take_succ_eq_append_getElem hl, List.drop_append_of_le_length (by rw [List.length_take]; omega)]
      simp
theorem insK_put (ord : α → α → Int) (x : α) (l : List α) (h : findG ord l x = none) : putG ord l x = if (insK ord x l l.length).2 then (insK ord x l l.length).1 else (insK ord x l l.length).1 ++ [x] := by
  unfold putG
  rw [h]
  simp only
  rcases insK_form ord x l l.length (Nat.le_refl _) with ⟨h1, h2, h3⟩ | ⟨h1, i, hi, ho, h2⟩
  · rw [show overG ord l x = none from firstG_none fun j hj => h3 j hj hj, h1, h2]
    simp
  · rw [ho, h1, h2]
    simp
theorem put_set (ord : α → α → Int) (x : α) (l : List α) (i : Nat) (h : findG ord l x = some i) : putG ord l x = l.set i x := by
  have hi : i < l.length := firstG_lt h
  unfold putG
  rw [h]
  simp only
  rw [List.set_eq_take_append_cons_drop, if_pos hi]
  simp
end
end Go.Proofs.YtjphjblcahadkaaGreat.Pl
