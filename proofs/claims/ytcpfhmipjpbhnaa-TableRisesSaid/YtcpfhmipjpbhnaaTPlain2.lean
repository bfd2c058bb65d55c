/-
  PLAIN: lists that rise, behind what is put and dropped.
-/
import Derived.Test.YtcpfhmipjpbhnaaTPlain
namespace Go.Proofs.Ytcpfhmipjpbhnaa.Pl

theorem eqv_self (a : ByteArray) : eqv a a = true := (eqv_iff a a).2 rfl
theorem eqv_ne {a b : ByteArray} (h : a ≠ b) : eqv a b = false := by
  rw [Bool.eq_false_iff]; intro e; exact h ((eqv_iff a b).1 e)
theorem ne_of_eqv {a b : ByteArray} (h : eqv a b = false) : a ≠ b := by
  rintro rfl; rw [eqv_self] at h; cases h

/-- Each name stands ahead of all that follow. -/
def Up (l : List Pr) : Prop := l.Pairwise fun a b => lt a.1 b.1 = true
theorem up_rises {l : List Pr} (h : Up l) : risesL l = true := by
  induction l with
  | nil => rfl
  | cons a l ih =>
    cases l with
    | nil => rfl
    | cons b t =>
      obtain ⟨h1, h2⟩ := List.pairwise_cons.1 h
      rw [risesL, ih h2, h1 b (by simp)]
      rfl

/-- What a name has in a list. -/
def look (l : List Pr) (s : ByteArray) : Option Int := (l.find? fun p => eqv p.1 s).map (·.2)
theorem look_cons (p : Pr) (l : List Pr) (s : ByteArray) : look (p :: l) s = if eqv p.1 s = true then some p.2 else look l s := by
  unfold look
  rw [List.find?_cons]
  cases h : eqv p.1 s <;> simp
theorem look_append (a b : List Pr) (s : ByteArray) : look (a ++ b) s = (look a s).or (look b s) := by
  induction a with
  | nil => simp [look]
  | cons p a ih =>
    rw [List.cons_append, look_cons, look_cons, ih]
    split <;> simp
theorem look_none {l : List Pr} {s : ByteArray} (h : ∀ p ∈ l, eqv p.1 s = false) : look l s = none := by
  induction l with
  | nil => rfl
  | cons p l ih =>
    rw [look_cons, h p (by simp), if_neg (by simp)]
    exact ih fun q hq => h q (by simp [hq])
theorem look_up {l : List Pr} (h : Up l) {p : Pr} (hp : p ∈ l) : look l p.1 = some p.2 := by
  induction l with
  | nil => cases hp
  | cons q l ih =>
    obtain ⟨h1, h2⟩ := List.pairwise_cons.1 h
    rw [look_cons]
    rcases List.mem_cons.1 hp with rfl | hp
    · rw [eqv_self, if_pos rfl]
    · have := h1 p hp
      rw [eqv_ne (by rintro e; rw [e, lt_irrefl] at this; cases this), if_neg (by simp)]
      exact ih h2 hp

theorem look_findO {l : List Pr} {s : ByteArray} : (look l s).isSome = (findO l s).isSome := by
  unfold look findO firstO
  rw [List.findIdx?_eq_map_findFinIdx?_val] <;> simp [List.isSome_find?]

theorem split_up (l : List Pr) (x : ByteArray) (h : Up l) : ∃ A B : List Pr, (∀ a ∈ A, lt a.1 x = true) ∧ (∀ b ∈ B, lt x b.1 = true) ∧ (l = A ++ B ∨ ∃ p : Pr, p.1 = x ∧ l = A ++ p :: B) := by
  induction l with
  | nil => exact ⟨[], [], by simp, by simp, .inl rfl⟩
  | cons q l ih =>
    obtain ⟨h1, h2⟩ := List.pairwise_cons.1 h
    rcases lt_tri q.1 x with hq | hq | hq
    · obtain ⟨A, B, hA, hB, hl⟩ := ih h2
      refine ⟨q :: A, B, fun a ha => ?_, hB, ?_⟩
      · rcases List.mem_cons.1 ha with rfl | ha
        · exact hq
        · exact hA a ha
      · rcases hl with rfl | ⟨p, hp, rfl⟩
        · exact .inl rfl
        · exact .inr ⟨p, hp, rfl⟩
    · exact ⟨[], l, by simp, fun b hb => hq ▸ h1 b hb, .inr ⟨q, hq, rfl⟩⟩
    · refine ⟨[], q :: l, by simp, fun b hb => ?_, .inl rfl⟩
      rcases List.mem_cons.1 hb with rfl | hb
      · exact hq
      · exact lt_trans hq (h1 b hb)

theorem eqv_of_lt {a b : ByteArray} (h : lt a b = true) : eqv a b = false := eqv_ne fun e => by rw [e, lt_irrefl] at h; cases h
theorem eqv_of_gt {a b : ByteArray} (h : lt b a = true) : eqv a b = false := eqv_ne fun e => by rw [e, lt_irrefl] at h; cases h

section
variable {A B : List Pr} {x : ByteArray}
theorem find_in (hA : ∀ a ∈ A, lt a.1 x = true) (p : Pr) (hp : p.1 = x) : findO (A ++ p :: B) x = some A.length := by
  refine firstO_some (k := A.length) (by simp) (fun j hj hjk => ?_) ?_
  · rw [List.getElem_append_left hjk]
    exact eqv_of_lt (hA _ (List.getElem_mem hjk))
  · rw [List.getElem_append_right (Nat.le_refl _)]
    simp only [Nat.sub_self, List.getElem_cons_zero]
    rw [hp]; exact eqv_self x
theorem find_out (hA : ∀ a ∈ A, lt a.1 x = true) (hB : ∀ b ∈ B, lt x b.1 = true) : findO (A ++ B) x = none := by
  refine firstO_none fun j hj => ?_
  have hm := List.getElem_mem hj
  rcases List.mem_append.1 hm with h | h
  · exact eqv_of_lt (hA _ h)
  · exact eqv_of_gt (hB _ h)
theorem put_split (hA : ∀ a ∈ A, lt a.1 x = true) (hB : ∀ b ∈ B, lt x b.1 = true) (l : List Pr) (n : Int) (hl : l = A ++ B ∨ ∃ p : Pr, p.1 = x ∧ l = A ++ p :: B) : putL l (x, n) = A ++ (x, n) :: B := by
  rcases hl with rfl | ⟨p, hp, rfl⟩
  · unfold putL
    rw [show findO (A ++ B) (x, n).1 = none from find_out hA hB]
    simp only
    cases B with
    | nil =>
      have ho : overO (A ++ []) x = none := firstO_none fun j hj => by
        have hm := List.getElem_mem hj
        rcases List.mem_append.1 hm with h | h
        · exact lt_asymm (hA _ h)
        · cases h
      rw [ho]; simp
    | cons b B =>
      have ho : overO (A ++ b :: B) x = some A.length := firstO_some (k := A.length) (by simp) (fun j hj hjk => by
        rw [List.getElem_append_left hjk]
        exact lt_asymm (hA _ (List.getElem_mem hjk))) (by
        rw [List.getElem_append_right (Nat.le_refl _)]
        simp only [Nat.sub_self, List.getElem_cons_zero]
        exact hB b (by simp))
      rw [ho]; simp
  · rw [put_set (x, n) _ A.length (find_in hA p hp)]
    rw [List.set_append_right _ _ (Nat.le_refl _)]
    simp
theorem drop_split (hA : ∀ a ∈ A, lt a.1 x = true) (hB : ∀ b ∈ B, lt x b.1 = true) (l : List Pr) (hl : l = A ++ B ∨ ∃ p : Pr, p.1 = x ∧ l = A ++ p :: B) : dropL l x = A ++ B := by
  rcases hl with rfl | ⟨p, hp, rfl⟩
  · unfold dropL; rw [find_out hA hB]
  · unfold dropL; rw [find_in hA p hp]
    simp only
    rw [List.take_left' rfl, List.drop_append]
    simp
theorem look_mid (hA : ∀ a ∈ A, lt a.1 x = true) (n : Int) (l : List Pr) (hl : l = A ++ B ∨ ∃ p : Pr, p.1 = x ∧ l = A ++ p :: B) (s : ByteArray) : look (A ++ (x, n) :: B) s = if eqv x s = true then some n else look l s := by
  by_cases h : eqv x s = true
  · rw [if_pos h, look_append, look_none (l := A) (fun p hp => ?_), look_cons, if_pos h]
    · rfl
    · have := (eqv_iff x s).1 h
      subst this
      exact eqv_of_lt (hA p hp)
  · rw [if_neg h, look_append, look_cons, if_neg h]
    rcases hl with rfl | ⟨p, hp, rfl⟩
    · rw [look_append]
    · rw [look_append, look_cons, hp, if_neg h]
theorem look_off (hA : ∀ a ∈ A, lt a.1 x = true) (hB : ∀ b ∈ B, lt x b.1 = true) (l : List Pr) (hl : l = A ++ B ∨ ∃ p : Pr, p.1 = x ∧ l = A ++ p :: B) (s : ByteArray) : look (A ++ B) s = if eqv x s = true then none else look l s := by
  by_cases h : eqv x s = true
  · have := (eqv_iff x s).1 h
    subst this
    rw [if_pos h]
    refine look_none fun p hp => ?_
    rcases List.mem_append.1 hp with h | h
    · exact eqv_of_lt (hA _ h)
    · exact eqv_of_gt (hB _ h)
  · rw [if_neg h]
    rcases hl with rfl | ⟨p, hp, rfl⟩
    · rfl
    · rw [look_append, look_append, look_cons, hp, if_neg h]
end

theorem up_put {l : List Pr} (h : Up l) (x : Pr) : Up (putL l x) := by
  obtain ⟨A, B, hA, hB, hl⟩ := split_up l x.1 h
  rw [show putL l x = _ from put_split hA hB l x.2 hl]
  have hab : Up (A ++ B) := by
    rcases hl with rfl | ⟨p, _, rfl⟩
    · exact h
    · exact h.sublist (List.Sublist.append (List.Sublist.refl _) (List.sublist_cons_self _ _))
  obtain ⟨ha, hb, hh⟩ := List.pairwise_append.1 hab
  refine List.pairwise_append.2 ⟨ha, List.pairwise_cons.2 ⟨fun b hb' => hB b hb', hb⟩, fun a ha' b hb' => ?_⟩
  rcases List.mem_cons.1 hb' with rfl | hb'
  · exact hA a ha'
  · exact hh a ha' b hb'
theorem up_drop {l : List Pr} (h : Up l) (x : ByteArray) : Up (dropL l x) := by
  unfold dropL
  split
  · exact h.sublist (by
      rename_i i hi
      conv => rhs; rw [← List.take_append_drop i l]
      exact List.Sublist.append (List.Sublist.refl _) (List.drop_sublist_drop_left l (by omega)))
  · exact h
theorem look_put {l : List Pr} (h : Up l) (x : Pr) (s : ByteArray) : look (putL l x) s = if eqv x.1 s = true then some x.2 else look l s := by
  obtain ⟨A, B, hA, hB, hl⟩ := split_up l x.1 h
  rw [show putL l x = _ from put_split hA hB l x.2 hl]
  exact look_mid hA x.2 l hl s
theorem look_drop {l : List Pr} (h : Up l) (x s : ByteArray) : look (dropL l x) s = if eqv x s = true then none else look l s := by
  obtain ⟨A, B, hA, hB, hl⟩ := split_up l x h
  rw [drop_split hA hB l hl]
  exact look_off hA hB l hl s
theorem find_put {l : List Pr} (h : Up l) (x : Pr) : ∃ i, findO (putL l x) x.1 = some i ∧ (putL l x)[i]? = some x := by
  obtain ⟨A, B, hA, hB, hl⟩ := split_up l x.1 h
  rw [show putL l x = _ from put_split hA hB l x.2 hl]
  exact ⟨A.length, find_in hA _ rfl, by simp⟩
theorem find_drop {l : List Pr} (h : Up l) (x : ByteArray) : findO (dropL l x) x = none := by
  obtain ⟨A, B, hA, hB, hl⟩ := split_up l x h
  rw [drop_split hA hB l hl]
  exact find_out hA hB
theorem len_put {l : List Pr} (h : Up l) (x : Pr) : (putL l x).length = if (look l x.1).isSome then l.length else l.length + 1 := by
  obtain ⟨A, B, hA, hB, hl⟩ := split_up l x.1 h
  rw [show putL l x = _ from put_split hA hB l x.2 hl]
  rcases hl with rfl | ⟨p, hp, rfl⟩
  · rw [look_findO, find_out hA hB]; simp; omega
  · rw [look_findO, find_in hA p hp]; simp
theorem len_drop {l : List Pr} (h : Up l) (x : ByteArray) : (dropL l x).length + (if (look l x).isSome then 1 else 0) = l.length := by
  obtain ⟨A, B, hA, hB, hl⟩ := split_up l x h
  rw [drop_split hA hB l hl]
  rcases hl with rfl | ⟨p, hp, rfl⟩
  · rw [look_findO, find_out hA hB]; simp
  · rw [look_findO, find_in hA p hp]; simp; omega
theorem mem_put {l : List Pr} {x p : Pr} (h : p ∈ putL l x) : p = x ∨ p ∈ l := by
  unfold putL at h
  split at h
  · simp only [List.mem_append, List.mem_cons, List.not_mem_nil, or_false] at h
    rcases h with (h | h) | h
    · exact .inr (List.mem_of_mem_take h)
    · exact .inl h
    · exact .inr (List.mem_of_mem_drop h)
  · split at h
    · simp only [List.mem_append, List.mem_cons, List.not_mem_nil, or_false] at h
      rcases h with (h | h) | h
      · exact .inr (List.mem_of_mem_take h)
      · exact .inl h
      · exact .inr (List.mem_of_mem_drop h)
    · simp only [List.mem_append, List.mem_cons, List.not_mem_nil, or_false] at h
      exact h.symm
theorem mem_drop {l : List Pr} {x : ByteArray} {p : Pr} (h : p ∈ dropL l x) : p ∈ l := by
  unfold dropL at h
  split at h
  · rcases List.mem_append.1 h with h | h
    · exact List.mem_of_mem_take h
    · exact List.mem_of_mem_drop h
  · exact h

/-- No name twice. -/
def Dist (l : List Pr) : Prop := l.Pairwise fun a b => a.1 ≠ b.1
theorem Dist.perm {l m : List Pr} (h : Dist l) (hp : m.Perm l) : Dist m := (hp.pairwise_iff (fun {_ _} h => Ne.symm h)).2 h
theorem put_perm {l : List Pr} {x : Pr} (h : ∀ p ∈ l, x.1 ≠ p.1) : (putL l x).Perm (l ++ [x]) := by
  have hf : findO l x.1 = none := firstO_none fun j hj => eqv_ne (Ne.symm (h _ (List.getElem_mem hj)))
  unfold putL
  rw [hf]
  simp only
  split
  · rename_i i hi
    refine List.Perm.trans ?_ (List.Perm.append_right [x] (by rw [List.take_append_drop i l] : (l.take i ++ l.drop i).Perm l))
    rw [List.append_assoc, List.append_assoc]
    exact List.Perm.append_left _ List.perm_append_comm
  · exact List.Perm.refl _
theorem foldl_perm : ∀ (l acc : List Pr), Dist l → (∀ p ∈ l, ∀ q ∈ acc, p.1 ≠ q.1) → (l.foldl putL acc).Perm (acc ++ l)
  | [], acc, _, _ => by simp
  | x :: l, acc, hd, hne => by
    obtain ⟨h1, h2⟩ := List.pairwise_cons.1 hd
    have hp := put_perm (l := acc) (x := x) (hne x (by simp))
    have ih := foldl_perm l (putL acc x) h2 (fun p hp' q hq => by
      rcases mem_put hq with rfl | hq
      · exact (h1 p hp').symm
      · exact hne p (by simp [hp']) q hq)
    refine ih.trans ((List.Perm.append_right l hp).trans ?_)
    rw [List.append_assoc]
    exact List.Perm.refl _
theorem up_eq {l m : List Pr} (h : l.Perm m) (hl : Up l) (hm : Up m) : l = m := by
  induction l generalizing m with
  | nil => exact (List.nil_perm.1 h).symm ▸ rfl
  | cons a l ih =>
    cases m with
    | nil => exact absurd (List.perm_nil.1 h) (by simp)
    | cons b m =>
      obtain ⟨l1, l2⟩ := List.pairwise_cons.1 hl
      obtain ⟨m1, m2⟩ := List.pairwise_cons.1 hm
      have hab : a = b := by
        have ha : a ∈ b :: m := h.subset (by simp)
        have hb : b ∈ a :: l := h.symm.subset (by simp)
        rcases List.mem_cons.1 ha with e | ha
        · exact e
        · rcases List.mem_cons.1 hb with e | hb
          · exact e.symm
          · have := lt_trans (m1 a ha) (l1 b hb)
            rw [lt_irrefl] at this; cases this
      subst hab
      rw [ih (List.Perm.cons_inv h) l2 m2]

/-- Put one behind the other. -/
def putAll (l : List Pr) : List Pr := l.foldl putL []
theorem up_putAll (l : List Pr) : Up (putAll l) := by
  have : ∀ (l acc : List Pr), Up acc → Up (l.foldl putL acc) := by
    intro l
    induction l with
    | nil => exact fun _ h => h
    | cons x l ih => exact fun acc h => ih _ (up_put h x)
  exact this l [] List.Pairwise.nil
theorem putAll_snoc (l : List Pr) (x : Pr) : putAll (l ++ [x]) = putL (putAll l) x := by simp [putAll]
theorem putAll_perm {l : List Pr} (h : Dist l) : (putAll l).Perm l := by
  have := foldl_perm l [] h (by simp)
  simpa [putAll] using this
theorem putAll_same {l m : List Pr} (h : Dist l) (hp : m.Perm l) : putAll m = putAll l :=
  up_eq ((putAll_perm (h.perm hp)).trans (hp.trans (putAll_perm h).symm)) (up_putAll m) (up_putAll l)
theorem putAll_len {l : List Pr} (h : Dist l) : (putAll l).length = l.length := (putAll_perm h).length_eq
theorem putAll_le (l : List Pr) : (putAll l).length ≤ l.length := by
  have : ∀ (l acc : List Pr), (l.foldl putL acc).length ≤ acc.length + l.length := by
    intro l
    induction l with
    | nil => intro acc; simp
    | cons x l ih =>
      intro acc
      have h1 := ih (putL acc x)
      have h2 := putL_len acc x
      rw [List.foldl_cons, List.length_cons]
      omega
  simpa [putAll] using this l []
theorem putAll_succ (l : List Pr) (k : Nat) (h : k < l.length) : putAll (l.take (k + 1)) = putL (putAll (l.take k)) l[k] := by
  rw [List.take_succ_eq_append_getElem h, putAll_snoc]
theorem swap_perm (l : List Pr) (i j : Nat) (hi : i < l.length) (hj : j < l.length) : ((l.set i l[j]).set j l[i]).Perm l := by
  exact List.set_set_perm hi hj
end Go.Proofs.Ytcpfhmipjpbhnaa.Pl
