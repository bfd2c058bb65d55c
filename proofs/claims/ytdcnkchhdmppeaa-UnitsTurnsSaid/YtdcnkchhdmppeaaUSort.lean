/-
  PLAIN: the units of an item as a list, put in the order of decreasing factors by an insertion sort; they are the reference's picks.
-/
import Derived.Test.YtdcnkchhdmppeaaUPlain
namespace Go.Proofs.Ytdcnkchhdmppeaa.Pl
set_option linter.unusedVariables false

/-- The units: the base unit, then those of the first k places that count. -/
def hasU (l : List (ByteArray × Int)) (s : ByteArray) : Bool := l.any fun p => eqv p.1 s
def unitsU (x : It) : Nat → List (ByteArray × Int)
  | 0 => [(each, 1)]
  | k + 1 => if decide ((x.nm k).size ≠ 0) && decide (2 ≤ x.fc k) && !hasU (unitsU x k) (x.nm k) then unitsU x k ++ [(x.nm k, x.fc k)] else unitsU x k
/-- The i'th unit: 0 is the base unit. -/
def unitAt (x : It) : Nat → ByteArray × Int
  | 0 => (each, 1)
  | i + 1 => (x.nm i, x.fc i)
/-- Which places count, among the first k. -/
def placesU (x : It) (k : Nat) : List Nat := 0 :: ((List.range k).filter (validU x)).map (· + 1)
theorem placesU_succ (x : It) (k : Nat) : placesU x (k + 1) = if validU x k then placesU x k ++ [k + 1] else placesU x k := by
  unfold placesU
  rw [List.range_succ, List.filter_append, List.map_append]
  cases h : validU x k with
  | true => simp [h]
  | false => simp [h]
theorem first_valid {x : It} {s : ByteArray} (hs : s.size ≠ 0) (he : eqv s each = false) : ∀ k, (∃ j, j < k ∧ x.nm j = s ∧ 2 ≤ x.fc j) → ∃ i, i < k ∧ x.nm i = s ∧ validU x i = true
  | 0, ⟨j, hj, _⟩ => by omega
  | k + 1, ⟨j, hj, h1, h2⟩ => by
    by_cases hb : ∃ j, j < k ∧ x.nm j = s ∧ 2 ≤ x.fc j
    · obtain ⟨i, hi, h⟩ := first_valid hs he k hb
      exact ⟨i, by omega, h⟩
    · have hjk : j = k := by
        by_cases e : j = k
        · exact e
        · exact absurd ⟨j, by omega, h1, h2⟩ hb
      subst hjk
      refine ⟨j, by omega, h1, ?_⟩
      unfold validU
      rw [h1, he]
      simp only [hs, ne_eq, not_false_eq_true, decide_true, Bool.not_false, Bool.and_self, h2, Bool.true_and, List.all_eq_true, List.mem_range]
      intro i hi
      cases hq : eqv (x.nm i) s with
      | false => rfl
      | true =>
        have hq2 := (eqv_iff _ _).1 hq
        by_cases h3 : 2 ≤ x.fc i
        · exact absurd ⟨i, hi, hq2, h3⟩ hb
        · simp [h3]
theorem hasU_places (x : It) (k : Nat) (s : ByteArray) : hasU ((placesU x k).map (unitAt x)) s = true ↔ each = s ∨ ∃ i, i < k ∧ validU x i = true ∧ x.nm i = s := by
  unfold hasU placesU
  rw [List.any_eq_true]
  constructor
  · rintro ⟨p, hp, h⟩
    have h := (eqv_iff _ _).1 h
    rw [List.map_cons, List.mem_cons] at hp
    rcases hp with rfl | hp
    · exact .inl h
    · rw [List.map_map, List.mem_map] at hp
      obtain ⟨i, hi, rfl⟩ := hp
      rw [List.mem_filter, List.mem_range] at hi
      exact .inr ⟨i, hi.1, hi.2, h⟩
  · rintro (h | ⟨i, hi, hv, h⟩)
    · exact ⟨(each, 1), by simp [unitAt], (eqv_iff _ _).2 h⟩
    · refine ⟨(x.nm i, x.fc i), ?_, (eqv_iff _ _).2 h⟩
      rw [List.map_cons, List.mem_cons]
      right
      rw [List.map_map, List.mem_map]
      exact ⟨i, by rw [List.mem_filter, List.mem_range]; exact ⟨hi, hv⟩, rfl⟩
theorem valid_iff (x : It) (k : Nat) : validU x k = (decide ((x.nm k).size ≠ 0) && decide (2 ≤ x.fc k) && !hasU ((placesU x k).map (unitAt x)) (x.nm k)) := by
  rw [Bool.eq_iff_iff]
  constructor
  · intro h
    obtain ⟨h1, h2, h3, h4⟩ := valid_spec h
    have hn : hasU ((placesU x k).map (unitAt x)) (x.nm k) = false := by
      cases hc : hasU ((placesU x k).map (unitAt x)) (x.nm k) with
      | false => rfl
      | true =>
        rcases (hasU_places x k _).1 hc with h | ⟨i, hi, hv, h⟩
        · rw [← h, (eqv_iff _ _).2 rfl] at h2; cases h2
        · have := h4 i hi
          rw [(eqv_iff _ _).2 h] at this
          have h5 := (valid_spec hv).2.2.1
          simp at this; omega
    rw [hn]; simp [h1, h3]
  · intro h
    simp only [Bool.and_eq_true, decide_eq_true_eq, Bool.not_eq_true'] at h
    obtain ⟨⟨h1, h2⟩, h3⟩ := h
    have hE : eqv (x.nm k) each = false := by
      cases hc : eqv (x.nm k) each with
      | false => rfl
      | true =>
        rw [(hasU_places x k _).2 (.inl ((eqv_iff _ _).1 hc).symm)] at h3; cases h3
    unfold validU
    rw [hE]
    simp only [h1, ne_eq, not_false_eq_true, decide_true, Bool.not_false, Bool.and_self, h2, Bool.true_and, List.all_eq_true, List.mem_range]
    intro j hj
    cases hq : eqv (x.nm j) (x.nm k) with
    | false => rfl
    | true =>
      by_cases h4 : 2 ≤ x.fc j
      · obtain ⟨i, hi, e, hv⟩ := first_valid h1 hE k ⟨j, hj, (eqv_iff _ _).1 hq, h4⟩
        rw [(hasU_places x k _).2 (.inr ⟨i, hi, hv, e⟩)] at h3; cases h3
      · simp [h4]
theorem unitsU_places (x : It) : ∀ k, unitsU x k = (placesU x k).map (unitAt x)
  | 0 => rfl
  | k + 1 => by
    have ih := unitsU_places x k
    unfold unitsU
    rw [placesU_succ, ih, ← valid_iff]
    cases h : validU x k with
    | true => simp [unitAt]
    | false => simp
theorem unitsU_len (x : It) : ∀ k, (unitsU x k).length ≤ k + 1
  | 0 => by simp [unitsU]
  | k + 1 => by
    have := unitsU_len x k
    unfold unitsU
    split
    · rw [List.length_append]; simp; omega
    · omega

/-- One thing is put into a list that is told from its end. -/
def insR {α : Type} (f : α → Int) (v : α) : List α → List α
  | [] => [v]
  | y :: r => if f y < f v then y :: insR f v r else v :: y :: r
def sortR {α : Type} (f : α → Int) : List α → List α → List α
  | acc, [] => acc
  | acc, v :: l => sortR f (insR f v acc) l
theorem insR_map {α β : Type} (g : α → β) (f : β → Int) (v : α) : ∀ l : List α, insR f (g v) (l.map g) = (insR (fun a => f (g a)) v l).map g
  | [] => rfl
  | y :: r => by
    have := insR_map g f v r
    show (if f (g y) < f (g v) then g y :: insR f (g v) (r.map g) else g v :: g y :: r.map g) = _
    rw [this]
    show _ = (if f (g y) < f (g v) then y :: insR (fun a => f (g a)) v r else v :: y :: r).map g
    split <;> rfl
theorem sortR_map {α β : Type} (g : α → β) (f : β → Int) : ∀ (l acc : List α), sortR f (acc.map g) (l.map g) = (sortR (fun a => f (g a)) acc l).map g
  | [], acc => rfl
  | v :: l, acc => by
    show sortR f (insR f (g v) (acc.map g)) (l.map g) = _
    rw [insR_map, sortR_map]; rfl
theorem insR_len {α : Type} (f : α → Int) (v : α) : ∀ l : List α, (insR f v l).length = l.length + 1
  | [] => rfl
  | y :: r => by
    have := insR_len f v r
    unfold insR
    split <;> simp [this]
theorem insR_mem {α : Type} (f : α → Int) (v a : α) : ∀ l : List α, a ∈ insR f v l ↔ a = v ∨ a ∈ l
  | [] => by simp [insR]
  | y :: r => by
    have := insR_mem f v a r
    unfold insR
    split
    · rw [List.mem_cons, this, List.mem_cons]
      constructor
      · rintro (h | h | h)
        · exact .inr (.inl h)
        · exact .inl h
        · exact .inr (.inr h)
      · rintro (h | h | h)
        · exact .inr (.inl h)
        · exact .inl h
        · exact .inr (.inr h)
    · rw [List.mem_cons]
theorem sortR_mem {α : Type} (f : α → Int) (a : α) : ∀ l acc : List α, a ∈ sortR f acc l ↔ a ∈ acc ∨ a ∈ l
  | [], acc => by simp [sortR]
  | v :: l, acc => by
    show a ∈ sortR f (insR f v acc) l ↔ _
    rw [sortR_mem f a l, insR_mem, List.mem_cons]
    constructor
    · rintro ((h | h) | h)
      · exact .inr (.inl h)
      · exact .inl h
      · exact .inr (.inr h)
    · rintro (h | h | h)
      · exact .inl (.inr h)
      · exact .inl (.inl h)
      · exact .inr h
/-- The order of the units: greater ones first, equal ones as they stand. -/
def Bef (f : Nat → Int) (a b : Nat) : Prop := f b < f a ∨ (f a = f b ∧ a < b)
theorem insR_rises (f : Nat → Int) (v : Nat) : ∀ l : List Nat, l.Pairwise (fun a b => Bef f b a) → (∀ a ∈ l, a < v) → (insR f v l).Pairwise (fun a b => Bef f b a)
  | [], _, _ => by simp [insR]
  | y :: r, hl, hv => by
    have hl' := List.pairwise_cons.1 hl
    unfold insR
    split
    · rename_i hlt
      refine List.pairwise_cons.2 ⟨fun z hz => ?_, insR_rises f v r hl'.2 (fun a ha => hv a (List.mem_cons_of_mem _ ha))⟩
      rcases (insR_mem f v z r).1 hz with rfl | hz
      · exact .inl hlt
      · exact hl'.1 z hz
    · rename_i hlt
      refine List.pairwise_cons.2 ⟨fun z hz => ?_, hl⟩
      have hzv := hv z hz
      have hzy : f y ≤ f z := by
        rcases List.mem_cons.1 hz with rfl | hz
        · exact Int.le_refl _
        · rcases hl'.1 z hz with h | h
          · omega
          · omega
      unfold Bef
      omega
theorem sortR_rises (f : Nat → Int) : ∀ l acc : List Nat, acc.Pairwise (fun a b => Bef f b a) → l.Pairwise (· < ·) → (∀ a ∈ acc, ∀ b ∈ l, a < b) → (sortR f acc l).Pairwise (fun a b => Bef f b a)
  | [], acc, h, _, _ => h
  | v :: l, acc, h, hl, hal => by
    have hl' := List.pairwise_cons.1 hl
    refine sortR_rises f l (insR f v acc) (insR_rises f v acc h (fun a ha => hal a ha v (List.mem_cons_self ..))) hl'.2 (fun a ha b hb => ?_)
    rcases (insR_mem f v a acc).1 ha with rfl | ha
    · exact hl'.1 b hb
    · exact hal a ha b (List.mem_cons_of_mem _ hb)
theorem same_order {f : Nat → Int} : ∀ {a b : List Nat}, a.Pairwise (Bef f) → b.Pairwise (Bef f) → (∀ x, x ∈ a ↔ x ∈ b) → a = b := by
  intro a
  induction a with
  | nil =>
    intro b _ _ h
    cases b with
    | nil => rfl
    | cons y r => have := (h y).2 (List.mem_cons_self ..); cases this
  | cons x a ih =>
    intro b ha hb h
    cases b with
    | nil => have := (h x).1 (List.mem_cons_self ..); cases this
    | cons y b =>
      have ha' := List.pairwise_cons.1 ha
      have hb' := List.pairwise_cons.1 hb
      have hxy : x = y := by
        rcases List.mem_cons.1 ((h x).1 (List.mem_cons_self ..)) with e | e
        · exact e
        · rcases List.mem_cons.1 ((h y).2 (List.mem_cons_self ..)) with e2 | e2
          · exact e2.symm
          · have h1 := hb'.1 x e
            have h2 := ha'.1 y e2
            unfold Bef at h1 h2
            omega
      subst hxy
      rw [ih ha'.2 hb'.2 fun z => ?_]
      constructor
      · intro hz
        rcases List.mem_cons.1 ((h z).1 (List.mem_cons_of_mem _ hz)) with e | e
        · subst e
          have h1 := ha'.1 z hz
          unfold Bef at h1
          omega
        · exact e
      · intro hz
        rcases List.mem_cons.1 ((h z).2 (List.mem_cons_of_mem _ hz)) with e | e
        · subst e
          have h1 := hb'.1 z hz
          unfold Bef at h1
          omega
        · exact e

theorem bestU_none {x : It} {used : Nat → Bool} : ∀ {n : Nat}, bestU x used n = none → ∀ i, i < n → (validU x i && !used i) = false
  | 0, _, i, hi => by omega
  | n + 1, h, i, hi => by
    unfold bestU at h
    by_cases hc : (validU x n && !used n && moreU x (bestU x used n) (x.fc n)) = true
    · rw [if_pos hc] at h; cases h
    · rw [if_neg hc] at h
      by_cases e : i = n
      · subst e
        rw [h] at hc
        unfold moreU at hc
        simpa using hc
      · exact bestU_none h i (by omega)
theorem bestU_max {x : It} {used : Nat → Bool} : ∀ {n a : Nat}, bestU x used n = some a → ∀ i, i < n → (validU x i && !used i) = true → x.fc i < x.fc a ∨ (x.fc i = x.fc a ∧ a ≤ i)
  | 0, a, h, i, hi, _ => by omega
  | n + 1, a, h, i, hi, hv => by
    unfold bestU at h
    by_cases hc : (validU x n && !used n && moreU x (bestU x used n) (x.fc n)) = true
    · rw [if_pos hc] at h
      injection h with h
      subst h
      by_cases e : i = n
      · subst e; exact .inr ⟨rfl, Nat.le_refl _⟩
      · left
        cases hb : bestU x used n with
        | none => rw [bestU_none hb i (by omega)] at hv; cases hv
        | some a =>
          have h1 := bestU_max hb i (by omega) hv
          rw [hb] at hc
          unfold moreU at hc
          simp only [Bool.and_eq_true, decide_eq_true_eq] at hc
          omega
    · rw [if_neg hc] at h
      by_cases e : i = n
      · subst e
        rw [hv, h] at hc
        unfold moreU at hc
        simp at hc
        have := (bestU_valid h).1
        omega
      · exact bestU_max h i (by omega) hv
theorem picksU_free {x : It} : ∀ {f : Nat} {used : Nat → Bool} {i : Nat}, i ∈ picksU x used f → used i = false
  | 0, _, i, h => by simp [picksU] at h
  | f + 1, used, i, h => by
    unfold picksU at h
    split at h
    · simp at h
    · rename_i a ha
      rcases List.mem_cons.1 h with rfl | h
      · exact (bestU_valid ha).2.2
      · have := picksU_free h
        unfold useU at this
        split at this
        · cases this
        · exact this
theorem picksU_rises {x : It} : ∀ {f : Nat} {used : Nat → Bool}, (picksU x used f).Pairwise (Bef x.fc)
  | 0, _ => by simp [picksU]
  | f + 1, used => by
    unfold picksU
    split
    · simp
    · rename_i a ha
      refine List.pairwise_cons.2 ⟨fun i hi => ?_, picksU_rises⟩
      have hv := picksU_valid hi
      have hu := picksU_free hi
      have hne : i ≠ a := by
        intro e; subst e; unfold useU at hu; simp at hu
      have hu2 : used i = false := by unfold useU at hu; rwa [if_neg hne] at hu
      have := bestU_max ha i hv.1 (by rw [hv.2, hu2]; rfl)
      unfold Bef
      omega
theorem picksU_all {x : It} : ∀ {f : Nat} {used : Nat → Bool}, ((List.range 4).filter fun i => validU x i && !used i).length ≤ f → ∀ i, i < 4 → (validU x i && !used i) = true → i ∈ picksU x used f
  | 0, used, hl, i, hi, hv => by
    have hm : i ∈ (List.range 4).filter fun i => validU x i && !used i := by rw [List.mem_filter, List.mem_range]; exact ⟨hi, hv⟩
    have := List.length_pos_of_mem hm
    omega
  | f + 1, used, hl, i, hi, hv => by
    unfold picksU
    split
    · rename_i hb
      rw [bestU_none hb i hi] at hv; cases hv
    · rename_i a ha
      by_cases e : i = a
      · subst e; exact List.mem_cons_self ..
      · refine List.mem_cons_of_mem _ (picksU_all ?_ i hi ?_)
        · have hfe : ((List.range 4).filter fun i => validU x i && !useU used a i) = ((List.range 4).filter fun i => validU x i && !used i).filter (fun i => decide (i ≠ a)) := by
            rw [List.filter_filter]
            congr 1
            funext j
            unfold useU
            by_cases e : j = a
            · simp [e]
            · simp [e]
          rw [hfe]
          have hb := bestU_valid ha
          have hm : a ∈ (List.range 4).filter fun i => validU x i && !used i := by rw [List.mem_filter, List.mem_range]; exact ⟨hb.1, by rw [hb.2.1, hb.2.2]; rfl⟩
          have := List.length_filter_lt_length_iff_exists (p := fun i => decide (i ≠ a)) (l := (List.range 4).filter fun i => validU x i && !used i) |>.2 ⟨a, hm, by simp⟩
          omega
        · unfold useU; rw [if_neg e]; exact hv
theorem unitAt_key (x : It) (i : Nat) : (unitAt x (i + 1)).2 = x.fc i := rfl
/-- The sorted units are the picks, one behind the other, then the base unit. -/
theorem sorted_picks (x : It) : (sortR (fun p : ByteArray × Int => p.2) [] (unitsU x 4)).reverse = ((picksU x (fun _ => false) 4).map (· + 1) ++ [0]).map (unitAt x) := by
  rw [unitsU_places, show ([] : List (ByteArray × Int)) = ([] : List Nat).map (unitAt x) from rfl, sortR_map, ← List.map_reverse]
  congr 1
  refine same_order (f := fun a => (unitAt x a).2) ?_ ?_ ?_
  · rw [List.pairwise_reverse]
    refine sortR_rises _ _ _ List.Pairwise.nil ?_ (fun a ha => by cases ha)
    unfold placesU
    refine List.pairwise_cons.2 ⟨fun a ha => ?_, ?_⟩
    · obtain ⟨i, _, rfl⟩ := List.mem_map.1 ha; omega
    · rw [List.pairwise_map]
      exact (List.Pairwise.filter _ List.pairwise_lt_range).imp (fun h => by omega)
  · rw [List.pairwise_append]
    refine ⟨?_, by simp, fun a ha b hb => ?_⟩
    · rw [List.pairwise_map]
      exact picksU_rises.imp (fun {a b} h => by unfold Bef at h ⊢; show x.fc b < x.fc a ∨ (x.fc a = x.fc b ∧ a + 1 < b + 1); omega)
    · rw [List.mem_singleton] at hb
      subst hb
      obtain ⟨i, hi, rfl⟩ := List.mem_map.1 ha
      have := (valid_spec (picksU_valid hi).2).2.2.1
      left
      show (1 : Int) < x.fc i
      omega
  · intro a
    rw [List.mem_reverse, sortR_mem, List.mem_append, List.mem_singleton, List.mem_map]
    unfold placesU
    rw [List.mem_cons, List.mem_map]
    have hm : ∀ i, i ∈ (List.range 4).filter (validU x) ↔ i ∈ picksU x (fun _ => false) 4 := by
      intro i
      constructor
      · intro h
        rw [List.mem_filter, List.mem_range] at h
        refine picksU_all ?_ i h.1 (by rw [h.2]; rfl)
        exact Nat.le_trans (List.length_filter_le ..) (by simp)
      · intro h
        rw [List.mem_filter, List.mem_range]
        exact picksU_valid h
    constructor
    · rintro (h | h | ⟨i, hi, h⟩)
      · cases h
      · exact .inr h
      · exact .inl ⟨i, (hm i).1 hi, h⟩
    · rintro (⟨i, hi, h⟩ | h)
      · exact .inr (.inr ⟨i, (hm i).2 hi, h⟩)
      · exact .inr (.inl h)

/-- What the code does with the sorted units. -/
def runC : List (ByteArray × Int) → Int → List (ByteArray × Int)
  | [], _ => []
  | p :: l, b => if 0 < b.tdiv p.2 then (p.1, b.tdiv p.2) :: runC l (b.tmod p.2) else runC l b
theorem tdiv_max (b f : Int) (hf : 1 ≤ f) : (0 < b.tdiv f ↔ 0 < max b 0 / f) ∧ (0 < b.tdiv f → b.tdiv f = max b 0 / f ∧ b.tmod f = b - max b 0 / f * f) := by
  by_cases hb : 0 ≤ b
  · have hm : max b 0 = b := by omega
    rw [hm, Int.tdiv_eq_ediv_of_nonneg hb, Int.tmod_eq_emod_of_nonneg hb]
    refine ⟨Iff.rfl, fun _ => ⟨rfl, ?_⟩⟩
    rw [Int.emod_def, Int.mul_comm]
  · have hm : max b 0 = 0 := by omega
    have h1 : b.tdiv f ≤ 0 := by
      have h := Int.tdiv_nonneg (a := -b) (b := f) (by omega) (by omega)
      rw [Int.neg_tdiv] at h; omega
    rw [hm, Int.zero_ediv]
    exact ⟨by omega, fun h => by omega⟩
theorem runC_run (x : It) : ∀ (l : List Nat) (b : Int), (∀ i ∈ l, i < 4 ∧ validU x i = true) → runC ((l.map (· + 1) ++ [0]).map (unitAt x)) b = runU x l b
  | [], b, _ => by
    show (if 0 < b.tdiv 1 then (each, b.tdiv 1) :: runC [] _ else runC [] b) = if 0 < b then [(each, b)] else []
    rw [Int.tdiv_one]
    rfl
  | i :: l, b, hl => by
    have hi := valid_spec (hl i (List.mem_cons_self ..)).2
    have hr := fun c => runC_run x l c (fun k hk => hl k (List.mem_cons_of_mem _ hk))
    obtain ⟨h1, h2⟩ := tdiv_max b (x.fc i) (by omega)
    show (if 0 < b.tdiv (x.fc i) then (x.nm i, b.tdiv (x.fc i)) :: runC _ (b.tmod (x.fc i)) else runC _ b) = _
    unfold runU
    by_cases h : 0 < b.tdiv (x.fc i)
    · rw [if_pos h, if_pos (h1.1 h), (h2 h).1, (h2 h).2]
      exact congrArg _ (hr _)
    · rw [if_neg h, if_neg (fun h3 => h (h1.2 h3))]
      exact hr _
theorem split_code (x : It) (b : Int) : runC (sortR (fun p : ByteArray × Int => p.2) [] (unitsU x 4)).reverse b = splitU x b := by
  rw [sorted_picks, runC_run x _ b (fun i hi => picksU_valid hi)]; rfl
/-- Where a unit of that name stands in the list, and its factor. -/
theorem factor_find (x : It) (s : ByteArray) : factorU x s = match (unitsU x 4).find? (fun p => eqv p.1 s) with | some p => p.2 | none => 0 := by
  cases hf : (unitsU x 4).find? (fun p => eqv p.1 s) with
  | some p =>
    have hm := List.mem_of_find?_eq_some hf
    have he := (eqv_iff _ _).1 (by simpa using List.find?_some hf : eqv p.1 s = true)
    rw [unitsU_places, List.mem_map] at hm
    obtain ⟨a, ha, rfl⟩ := hm
    unfold placesU at ha
    rw [List.mem_cons, List.mem_map] at ha
    rcases ha with rfl | ⟨i, hi, rfl⟩
    · rw [← he]; exact factor_each x
    · rw [List.mem_filter, List.mem_range] at hi
      rw [← he]; exact factor_valid hi.1 hi.2
  | none =>
    have hn : hasU (unitsU x 4) s = false := by
      cases hc : hasU (unitsU x 4) s with
      | false => rfl
      | true =>
        unfold hasU at hc
        obtain ⟨p, hp, h⟩ := List.any_eq_true.1 hc
        exact absurd h (by simpa using List.find?_eq_none.1 hf p hp)
    rw [unitsU_places] at hn
    have hE : eqv s each = false := by
      cases hc : eqv s each with
      | false => rfl
      | true => rw [(hasU_places x 4 s).2 (.inl ((eqv_iff _ _).1 hc).symm)] at hn; cases hn
    unfold factorU
    rw [hE, if_neg (by simp)]
    cases hg : (List.range 4).find? (fitU x s) with
    | none => rfl
    | some i =>
      have hi := List.mem_range.1 (List.mem_of_find?_eq_some hg)
      have hfit := List.find?_some hg
      unfold fitU at hfit
      simp only [Bool.and_eq_true, decide_eq_true_eq] at hfit
      have h1 := (eqv_iff _ _).1 hfit.1.2
      obtain ⟨j, hj, e, hv⟩ := first_valid (by rw [← h1]; exact hfit.1.1) hE 4 ⟨i, hi, h1, hfit.2⟩
      rw [(hasU_places x 4 s).2 (.inr ⟨j, hj, hv, e⟩)] at hn; cases hn
end Go.Proofs.Ytdcnkchhdmppeaa.Pl
