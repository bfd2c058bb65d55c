/-
  PLAIN: the units of an item; so many of a unit in base units; base units as units.
-/
import Derived.Test.YtdcnkchhdmppeaaIPlain
namespace Go.Proofs.Ytdcnkchhdmppeaa.Pl
set_option linter.unusedVariables false

/-- Is the i'th place of that name, a unit? -/
def fitU (x : It) (s : ByteArray) (i : Nat) : Bool := decide ((x.nm i).size ≠ 0) && eqv (x.nm i) s && decide (2 ≤ x.fc i)
/-- A unit's factor; 0: there is none. -/
def factorU (x : It) (s : ByteArray) : Int := if eqv s each = true then 1 else match (List.range 4).find? (fitU x s) with | some i => x.fc i | none => 0
theorem factorU_cases (x : It) (s : ByteArray) : factorU x s = 0 ∨ factorU x s = 1 ∨ 2 ≤ factorU x s := by
  unfold factorU
  split
  · exact .inr (.inl rfl)
  · split
    · rename_i i hi
      have := List.find?_some hi
      unfold fitU at this
      simp only [Bool.and_eq_true, decide_eq_true_eq] at this
      exact .inr (.inr this.2)
    · exact .inl rfl
theorem find_first {p : Nat → Bool} {n i : Nat} (hi : i < n) (hp : p i = true) (hb : ∀ k, k < i → p k = false) : (List.range n).find? p = some i := by
  rw [List.find?_range_eq_some]
  exact ⟨hp, by simpa using hi, fun k hk => by simpa using hb k hk⟩
theorem find_none {p : Nat → Bool} {n : Nat} (hb : ∀ k, k < n → p k = false) : (List.range n).find? p = none := by
  rw [List.find?_eq_none]
  intro k hk
  rw [hb k (List.mem_range.1 hk)]; simp
/-- How many base units so many of a unit are, and what is wrong. -/
def baseU (x : It) (s : ByteArray) (n : Int) : Int := if factorU x s = 0 then 0 else if n < 1 ∨ 1000000000 < n * factorU x s then 0 else n * factorU x s
def baseE (x : It) (s : ByteArray) (n : Int) : Nat := if factorU x s = 0 then 20 else if n < 1 ∨ 1000000000 < n * factorU x s then 10 else 0
theorem over_iff {f n : Int} (hf : 1 ≤ f) : (1000000000 : Int) / f < n ↔ 1000000000 < n * f := by
  rw [Int.ediv_lt_iff_lt_mul (by omega)]

/-- Does the i'th place count: the first unit of its name, not that of the base unit? -/
def validU (x : It) (i : Nat) : Bool := decide ((x.nm i).size ≠ 0) && !eqv (x.nm i) each && decide (2 ≤ x.fc i) && (List.range i).all fun k => !(eqv (x.nm k) (x.nm i) && decide (2 ≤ x.fc k))
/-- Is z more than that unit's factor? -/
def moreU (x : It) (o : Option Nat) (z : Int) : Bool := match o with
  | none => true
  | some a => decide (x.fc a < z)
/-- The greatest unit that was not used yet, of the first n. -/
def bestU (x : It) (used : Nat → Bool) : Nat → Option Nat
  | 0 => none
  | n + 1 => if validU x n && !used n && moreU x (bestU x used n) (x.fc n) then some n else bestU x used n
theorem bestU_valid {x : It} {used : Nat → Bool} : ∀ {n a : Nat}, bestU x used n = some a → a < n ∧ validU x a = true ∧ used a = false
  | 0, a, h => by cases h
  | n + 1, a, h => by
    unfold bestU at h
    by_cases hc : (validU x n && !used n && moreU x (bestU x used n) (x.fc n)) = true
    · rw [if_pos hc] at h
      injection h with h
      subst h
      simp only [Bool.and_eq_true, Bool.not_eq_true'] at hc
      exact ⟨by omega, hc.1.1, hc.1.2⟩
    · rw [if_neg hc] at h
      obtain ⟨h1, h2⟩ := bestU_valid h
      exact ⟨by omega, h2⟩
def useU (used : Nat → Bool) (a : Nat) : Nat → Bool := fun i => if i = a then true else used i
/-- The units in the order of decreasing factors. -/
def picksU (x : It) : (Nat → Bool) → Nat → List Nat
  | _, 0 => []
  | used, f + 1 => match bestU x used 4 with
    | none => []
    | some a => a :: picksU x (useU used a) f
theorem picksU_valid {x : It} : ∀ {f : Nat} {used : Nat → Bool} {i : Nat}, i ∈ picksU x used f → i < 4 ∧ validU x i = true
  | 0, _, i, h => by simp [picksU] at h
  | f + 1, used, i, h => by
    unfold picksU at h
    split at h
    · simp at h
    · rename_i a ha
      rcases List.mem_cons.1 h with rfl | h
      · exact ⟨(bestU_valid ha).1, (bestU_valid ha).2.1⟩
      · exact picksU_valid h
/-- What is left of b goes into these units, one behind the other, and into base units. -/
def runU (x : It) : List Nat → Int → List (ByteArray × Int)
  | [], b => if 0 < b then [(each, b)] else []
  | i :: l, b => if 0 < max b 0 / x.fc i then (x.nm i, max b 0 / x.fc i) :: runU x l (b - max b 0 / x.fc i * x.fc i) else runU x l b
def splitU (x : It) (b : Int) : List (ByteArray × Int) := runU x (picksU x (fun _ => false) 4) b
theorem valid_spec {x : It} {i : Nat} (h : validU x i = true) : (x.nm i).size ≠ 0 ∧ eqv (x.nm i) each = false ∧ 2 ≤ x.fc i ∧ ∀ k, k < i → (eqv (x.nm k) (x.nm i) && decide (2 ≤ x.fc k)) = false := by
  unfold validU at h
  simp only [Bool.and_eq_true, decide_eq_true_eq, Bool.not_eq_true', List.all_eq_true, List.mem_range] at h
  exact ⟨h.1.1.1, h.1.1.2, h.1.2, fun k hk => by simpa using h.2 k hk⟩
theorem factor_valid {x : It} {i : Nat} (hi : i < 4) (h : validU x i = true) : factorU x (x.nm i) = x.fc i := by
  obtain ⟨h1, h2, h3, h4⟩ := valid_spec h
  unfold factorU
  rw [h2, if_neg (by simp), find_first hi (by unfold fitU; simp [h1, h3, (eqv_iff _ _).2]) (fun k hk => ?_)]
  have := h4 k hk
  unfold fitU
  cases he : eqv (x.nm k) (x.nm i) with
  | false => simp
  | true => rw [he] at this; simp at this; simp; omega
/-- The sum of what units are in base units. -/
def sumU (x : It) : List (ByteArray × Int) → Int
  | [] => 0
  | p :: l => p.2 * factorU x p.1 + sumU x l
theorem factor_each (x : It) : factorU x each = 1 := by unfold factorU; rw [if_pos ((eqv_iff _ _).2 rfl)]
theorem runU_sum {x : It} : ∀ {l : List Nat} {b : Int}, (∀ i ∈ l, i < 4 ∧ validU x i = true) → 0 ≤ b → sumU x (runU x l b) = b
  | [], b, _, hb => by
    unfold runU
    split
    · simp [sumU, factor_each]
    · simp [sumU]; omega
  | i :: l, b, hl, hb => by
    have hi := hl i (List.mem_cons_self ..)
    have hf := (valid_spec hi.2).2.2.1
    have hm : max b 0 = b := by omega
    unfold runU
    rw [hm]
    have hle : b / x.fc i * x.fc i ≤ b := Int.ediv_mul_le b (by omega)
    split
    · show b / x.fc i * factorU x (x.nm i) + sumU x _ = b
      rw [factor_valid hi.1 hi.2, runU_sum (fun k hk => hl k (List.mem_cons_of_mem _ hk)) (by omega)]
      omega
    · exact runU_sum (fun k hk => hl k (List.mem_cons_of_mem _ hk)) hb
theorem runU_each {x : It} : ∀ {l : List Nat} {b c : Int}, (∀ i ∈ l, i < 4 ∧ validU x i = true) → 0 ≤ b → b ≤ c → ∀ p ∈ runU x l b, 1 ≤ p.2 ∧ 1 ≤ factorU x p.1 ∧ p.2 * factorU x p.1 ≤ c
  | [], b, c, _, hb, hc, p, hp => by
    unfold runU at hp
    split at hp
    · rw [List.mem_singleton] at hp
      subst hp
      rw [factor_each]; simp only []; omega
    · simp at hp
  | i :: l, b, c, hl, hb, hc, p, hp => by
    have hi := hl i (List.mem_cons_self ..)
    have hf := (valid_spec hi.2).2.2.1
    have hm : max b 0 = b := by omega
    unfold runU at hp
    rw [hm] at hp
    have hle : b / x.fc i * x.fc i ≤ b := Int.ediv_mul_le b (by omega)
    have hnn : 0 ≤ b / x.fc i * x.fc i := Int.mul_nonneg (Int.ediv_nonneg hb (by omega)) (by omega)
    split at hp
    · rename_i hn
      rcases List.mem_cons.1 hp with rfl | hp
      · show 1 ≤ b / x.fc i ∧ 1 ≤ factorU x (x.nm i) ∧ b / x.fc i * factorU x (x.nm i) ≤ c
        rw [factor_valid hi.1 hi.2]
        exact ⟨hn, by omega, by omega⟩
      · exact runU_each (fun k hk => hl k (List.mem_cons_of_mem _ hk)) (by omega) (by omega) p hp
    · exact runU_each (fun k hk => hl k (List.mem_cons_of_mem _ hk)) hb hc p hp
theorem runU_nil {x : It} : ∀ {l : List Nat} {b : Int}, (∀ i ∈ l, i < 4 ∧ validU x i = true) → b < 1 → runU x l b = []
  | [], b, _, hb => by unfold runU; rw [if_neg (by omega)]
  | i :: l, b, hl, hb => by
    have hm : max b 0 = 0 := by omega
    unfold runU
    rw [hm, Int.zero_ediv, if_neg (by omega)]
    exact runU_nil (fun k hk => hl k (List.mem_cons_of_mem _ hk)) hb
theorem splitU_sum (x : It) {b : Int} (hb : 0 ≤ b) : sumU x (splitU x b) = b := runU_sum (fun i hi => picksU_valid hi) hb
theorem splitU_each (x : It) {b : Int} (hb : 0 ≤ b) : ∀ p ∈ splitU x b, 1 ≤ p.2 ∧ 1 ≤ factorU x p.1 ∧ p.2 * factorU x p.1 ≤ b := runU_each (fun i hi => picksU_valid hi) hb (Int.le_refl b)
theorem splitU_nil (x : It) {b : Int} (hb : b < 1) : splitU x b = [] := runU_nil (fun i hi => picksU_valid hi) hb
theorem baseU_ok {x : It} {s : ByteArray} {n : Int} (hn : 1 ≤ n) (hf : 1 ≤ factorU x s) (hm : n * factorU x s ≤ 1000000000) : baseU x s n = n * factorU x s ∧ baseE x s n = 0 := by
  unfold baseU baseE
  rw [if_neg (by omega), if_neg (by omega), if_neg (by omega), if_neg (by omega)]
  exact ⟨rfl, rfl⟩
theorem runU_len {x : It} : ∀ (l : List Nat) (b : Int), (runU x l b).length ≤ l.length + 1
  | [], b => by unfold runU; split <;> simp
  | i :: l, b => by
    unfold runU
    split
    · have := runU_len (x := x) l (b - max b 0 / x.fc i * x.fc i)
      simp only [List.length_cons]; omega
    · have := runU_len (x := x) l b
      simp only [List.length_cons]; omega
end Go.Proofs.Ytdcnkchhdmppeaa.Pl
