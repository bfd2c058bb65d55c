/-
  THE MEDIUM BESIDE A MAP OF PLACES AND SOME BLOCKS THAT STAY: 'J w0 w b bw n m s g cs'.
-/
import Derived.Test.YtfankhahpnlcfaaMAwake
import Derived.Test.YtfankhahpnlcfaaMPlace
import Derived.Test.YtfankhahpnlcfaaMOps
namespace Go.Proofs.Ytfankhahpnlcfaa
open Go.RowKit Go.Maps

def J (w0 w : World) (b bw n m : Nat) (s : St) (g : Pls) (cs : List (Nat × Obj)) : Prop :=
  ∃ X, M w X b n s ∧ PM w bw m g ∧ (∀ k, X k → w0.heap.size ≤ k ∧ k ≠ bw ∧ ∀ p ∈ cs, k ≠ p.1) ∧ w0.heap.size ≤ bw ∧ (∀ p ∈ cs, w.heap[p.1]? = some p.2 ∧ p.1 ≠ bw ∧ w0.heap.size ≤ p.1) ∧ Below w0.heap.size w0 w

section
variable {w0 w w' : World} {b bw n m : Nat} {s : St} {g : Pls} {cs : List (Nat × Obj)}
theorem J.fst (h : J w0 w b bw n m s g cs) : Below w0.heap.size w0 w := by obtain ⟨X, _, _, _, _, _, h⟩ := h; exact h
theorem J.below (h : J w0 w b bw n m s g cs) (hb : Below w.heap.size w w') : J w0 w' b bw n m s g cs := by
  obtain ⟨X, hm, hp, hX, hw, hc, h0⟩ := h
  exact ⟨X, hm.below hb, hp.kept (hb.block bw hp.lt), hX, hw, fun p hp' => ⟨(hb.block p.1 (Array.getElem?_eq_some_iff.1 (hc p hp').1).1).trans (hc p hp').1, (hc p hp').2⟩, h0.trans (hb.mono h0.size)⟩
theorem J.drew (h : J w0 w b bw n m s g cs) : J w0 w.drew b bw n m s g cs := h.below ⟨rfl, rfl, rfl, Nat.le_refl _, fun _ _ => rfl⟩
theorem J.drewN (h : J w0 w b bw n m s g cs) (q : Nat) : J w0 (w.drewN q) b bw n m s g cs := h.below ⟨rfl, rfl, rfl, Nat.le_refl _, fun _ _ => rfl⟩
theorem J.mono (h : J w0 w b bw n m s g cs) {n' m' : Nat} (hn : n ≤ n') (hm : m ≤ m') : J w0 w b bw n' m' s g cs := by
  obtain ⟨X, h1, h2, h3⟩ := h
  exact ⟨X, h1.mono hn, h2.mono hm, h3⟩
theorem J.bare (h : J w0 w b bw n m s g cs) : J w0 w b bw n m s g [] := by
  obtain ⟨X, hm, hp, hX, hw, _, h0⟩ := h
  exact ⟨X, hm, hp, fun k hk => ⟨(hX k hk).1, (hX k hk).2.1, fun p hp => by cases hp⟩, hw, (fun p hp => by cases hp), h0⟩
theorem J.add (h : J w0 w b bw n m s g []) (o : Obj) : J w0 (w.alloc o) b bw n m s g [(w.heap.size, o)] := by
  have h2 := h.below ((Below.refl _ _).alloc (Nat.le_refl _) o)
  have hs : ∀ X, M w X b n s → ∀ k, X k → k < w.heap.size := fun X hm k hk => hm.lt hk
  obtain ⟨X, hm, hp, hX, hw, _, h0⟩ := h
  have hb : Below w.heap.size w (w.alloc o) := (Below.refl _ _).alloc (Nat.le_refl _) o
  refine ⟨X, hm.below hb, hp.kept (hb.block bw hp.lt), fun k hk => ⟨(hX k hk).1, (hX k hk).2.1, fun p hp' => ?_⟩, hw, fun p hp' => ?_, h0.trans (hb.mono h0.size)⟩
  · simp at hp'
    subst hp'
    have := hm.lt hk
    show k ≠ w.heap.size
    omega
  · simp at hp'
    subst hp'
    refine ⟨?_, ?_, h0.size⟩
    · show (w.heap.push o)[w.heap.size]? = some o
      rw [Array.getElem?_push_size]
    · have := hp.lt
      show w.heap.size ≠ bw
      omega
theorem J.cell (h : J w0 w b bw n m s g cs) {bx : Nat} {c : Array Value} {t : TypeId} {fr : Nat × Nat} (hp : (bx, Obj.cells c t fr) ∈ cs) (o : Nat) : w.cell? ⟨bx, o, none⟩ = c[o]? := by
  obtain ⟨X, _, _, _, _, hc, _⟩ := h
  exact cell_of_block (hc _ hp).1
theorem J.step {X X' : Nat → Prop} {n' : Nat} {s' : St} (hp : PM w bw m g) (hX : ∀ k, X k → w0.heap.size ≤ k ∧ k ≠ bw ∧ ∀ p ∈ cs, k ≠ p.1) (hw : w0.heap.size ≤ bw)
    (hc : ∀ p ∈ cs, w.heap[p.1]? = some p.2 ∧ p.1 ≠ bw ∧ w0.heap.size ≤ p.1) (h0 : Below w0.heap.size w0 w) (hm' : M w' X' b n' s') (ho : Only X w w') (hn : ∀ k, X' k → X k ∨ w.heap.size ≤ k) : J w0 w' b bw n' m s' g cs := by
  have hlt : ∀ p ∈ cs, p.1 < w.heap.size := fun p hp' => (Array.getElem?_eq_some_iff.1 (hc p hp').1).1
  refine ⟨X', hm', hp.kept (ho.block bw hp.lt (fun h => (hX bw h).2.1 rfl)), fun k hk => ?_, hw, fun p hp' => ⟨(ho.block p.1 (hlt p hp') (fun h => (hX _ h).2.2 p hp' rfl)).trans (hc p hp').1, (hc p hp').2⟩, h0.trans (ho.to_below h0.size (fun i hi _ => (hX i hi).1))⟩
  rcases hn k hk with h | h
  · exact hX k h
  · have := hp.lt
    exact ⟨Nat.le_trans h0.size h, by omega, fun p hp' => by have := hlt p hp'; omega⟩

theorem writeJ (h : J w0 w b bw n m s g cs) {x a : Int} {d : ByteArray} (hn : n ≤ 1000000) (hx : Wf x) (ha : Wf a) {c : Int} {s' : St} (hr : writeF s x a d = (c, s')) :
    Calls Try.prog 9 #[.pointer (some ⟨b, 0, none⟩), .int .i64 x, .int .i64 a, .string d] w fun e w' => e = .returned (.int .i64 c) ∧ J w0 w' b bw (n + 1) m s' g cs := by
  obtain ⟨X, hm, hp, hX, hw, hc, h0⟩ := h
  refine (writeX X b n s x a d w hm hn hx ha).mono ?_
  rintro e w' ⟨X', he, hm', ho, hnew⟩
  rw [hr] at he hm'
  exact ⟨he, J.step hp hX hw hc h0 hm' ho hnew⟩
theorem removeJ (h : J w0 w b bw n m s g cs) {x : Int} (hn : n ≤ 1000000) (hx : Wf x) {c : Int} {s' : St} (hr : removeF s x = (c, s')) :
    Calls Try.prog 12 #[.pointer (some ⟨b, 0, none⟩), .int .i64 x] w fun e w' => e = .returned (.int .i64 c) ∧ J w0 w' b bw (n + 1) m s' g cs := by
  obtain ⟨X, hm, hp, hX, hw, hc, h0⟩ := h
  refine (removeX X b n s x w hm hn hx).mono ?_
  rintro e w' ⟨X', he, hm', ho, hnew⟩
  rw [hr] at he hm'
  exact ⟨he, J.step hp hX hw hc h0 hm' ho hnew⟩
theorem armJ (h : J w0 w b bw n m s g cs) {v : Int} (hv : Wf v) :
    Calls Try.prog 16 #[.pointer (some ⟨b, 0, none⟩), .int .i64 v] w fun e w' => e = .returned (.tuple #[]) ∧ J w0 w' b bw n m (armF s v) g cs := by
  obtain ⟨X, hm, hp, hX, hw, hc, h0⟩ := h
  refine (armX X b n s v w hm hv).mono ?_
  rintro e w' ⟨he, hm', ho⟩
  exact ⟨he, J.step hp hX hw hc h0 hm' ho (fun k hk => .inl hk)⟩
theorem onJ (h : J w0 w b bw n m s g cs) :
    Calls Try.prog 18 #[.pointer (some ⟨b, 0, none⟩)] w fun e w' => e = .returned (.tuple #[]) ∧ J w0 w' b bw n m (onF s) g cs := by
  obtain ⟨X, hm, hp, hX, hw, hc, h0⟩ := h
  refine (onX X b n s w hm).mono ?_
  rintro e w' ⟨he, hm', ho⟩
  exact ⟨he, J.step hp hX hw hc h0 hm' ho (fun k hk => .inl hk)⟩
theorem readJ (h : J w0 w b bw n m s g cs) {x a : Int} (hx : Wf x) (ha : Wf a) {d : ByteArray} {c : Int} (hr : readF s x a = (d, c)) :
    Calls Try.prog 14 #[.pointer (some ⟨b, 0, none⟩), .int .i64 x, .int .i64 a] w fun e w' => e = .returned (.tuple #[.string d, .int .i64 c]) ∧ J w0 w' b bw n m s g cs := by
  obtain ⟨X, hm, _⟩ := id h
  refine (readX X b n s x a w hm hx ha).mono ?_
  rintro e w' ⟨he, hb⟩
  rw [hr] at he
  exact ⟨he, h.below hb⟩
theorem fullJ (h : J w0 w b bw n m s g cs) (v : Int) (odd : Bool) :
    Calls Try.prog 10 #[.int .i64 v, .bool odd] w fun e w' => e = .returned (.string (fullB v odd)) ∧ J w0 w' b bw n m s g cs :=
  (full_any v odd w).mono fun _ _ ⟨he, hb⟩ => ⟨he, h.below hb⟩
theorem newJ (w : World) : Calls Try.prog 7 #[] w fun e w' => e = .returned (.pointer (some ⟨w.heap.size + 1, 0, none⟩)) ∧ J w (w'.alloc (.map #[] 0)) (w.heap.size + 1) w'.heap.size 0 0 St.new (fun _ _ => none) [] := by
  refine (newX w).mono ?_
  rintro e w' ⟨X, he, hm, hX, hb⟩
  have hb2 : Below w'.heap.size w' (w'.alloc (.map #[] 0)) := (Below.refl _ _).alloc (Nat.le_refl _) _
  exact ⟨he, X, hm.below hb2, PM.made w' 0, fun k hk => ⟨hX k hk, by have := hm.lt hk; omega, fun p hp => by cases hp⟩, hb.size, (fun p hp => by cases hp), hb.trans (hb2.mono hb.size)⟩

theorem J.turned (h : J w0 w b bw n m s g cs) (ht : w.mapTurned w' bw) {m' : Nat} {g' : Pls} (hp' : PM w' bw m' g') : J w0 w' b bw n m' s g' cs := by
  obtain ⟨X, hm, hp, hX, hw, hc, h0⟩ := h
  have ho : Only (fun i => i = bw) w w' := Only.turned ht rfl
  exact ⟨X, hm.kept ho (fun k hk e => (hX k hk).2.1 e), hp', hX, hw, fun p hq => ⟨(ho.block p.1 (Array.getElem?_eq_some_iff.1 (hc p hq).1).1 (hc p hq).2.1).trans (hc p hq).1, (hc p hq).2⟩, h0.trans (ho.to_below h0.size (fun i hi _ => hi ▸ hw))⟩
/-- 'want[place{f, a}] = d'. -/
theorem storeJ (h : J w0 w b bw n m s g cs) (hm : m < 1000000) {f a : Int} (hf : Wf f) (ha : Wf a) (d : ByteArray) :
    ∃ w', (Instr.mapUpdate 43 (.map (some bw)) (.agg #[.int .i64 f, .int .i64 a]) (.string d)).run Try.prog w = .ok () w' ∧ J w0 w' b bw n (m + 1) s (upd2 g f a (some d)) cs := by
  obtain ⟨X, _, hp, _⟩ := id h
  obtain ⟨w', hrun, hp', ht⟩ := hp.store (by simp only [maxLen]; omega) hf ha d
  exact ⟨w', hrun, h.turned ht hp'⟩
/-- 'delete(want, place{f, a})'. -/
theorem dropJ (h : J w0 w b bw n m s g cs) {f a : Int} (hf : Wf f) (ha : Wf a) :
    ∃ w', (∀ ty, (Builtin.delete_ #[43, 45] ty #[.map (some bw), .agg #[.int .i64 f, .int .i64 a]]).run Try.prog w = .ok (.tuple #[]) w') ∧ J w0 w' b bw n m s (upd2 g f a none) cs := by
  obtain ⟨X, _, hp, _⟩ := id h
  obtain ⟨w', hrun, hp', ht⟩ := hp.drop hf ha 0
  exact ⟨w', fun ty => hrun, h.turned ht hp'⟩
theorem lookJ (h : J w0 w b bw n m s g cs) {f a : Int} (hf : Wf f) (ha : Wf a) :
    (Instr.lookup 43 (.map (some bw)) (.agg #[.int .i64 f, .int .i64 a]) true).run Try.prog w = .ok (.tuple #[.string ((g f a).getD ⟨#[]⟩), .bool (g f a).isSome]) w := by
  obtain ⟨X, _, hp, _⟩ := h
  exact hp.look hf ha
end

/-! ### what the walk carries -/
structure Inv (l : List Cl6) (s : St) (g : Pls) : Prop where
  same : ∀ f a, Wf f → Wf a → g f a = s.S f a
  of_l : ∀ f a d, s.S f a = some d → ∃ o ∈ l, o.at_ = a
  size : ∀ f a d, s.S f a = some d → okAt f a

theorem Inv.new (l : List Cl6) : Inv l St.new (fun _ _ => none) := ⟨fun _ _ _ _ => rfl, (fun _ _ _ h => by cases h), (fun _ _ _ h => by cases h)⟩
theorem Inv.arm {l : List Cl6} {s : St} {g : Pls} (h : Inv l s g) (v : Int) : Inv l (armF s v) g := ⟨h.same, h.of_l, h.size⟩
theorem Inv.on {l : List Cl6} {s : St} {g : Pls} (h : Inv l s g) : Inv l (onF s) g := ⟨h.same, h.of_l, h.size⟩
theorem writeF_S {s s' : St} {x a c : Int} {d : ByteArray} (h : writeF s x a d = (c, s')) : (c = 0 ∧ s'.S = updS s.S x a d ∧ validW x a d = true) ∨ (c ≠ 0 ∧ s'.S = s.S) := by
  unfold writeF at h
  obtain ⟨c1, o1, l1, w1, hsf⟩ : ∃ c off' left' writes', spendF s.off s.armed (validW x a d) s.left s.writes = (c, off', left', writes') := ⟨_, _, _, _, rfl⟩
  rw [hsf] at h
  simp only [Prod.mk.injEq] at h
  obtain ⟨rfl, rfl⟩ := h
  rcases spendF_cases hsf with ⟨rfl, hv, _⟩ | ⟨rfl | rfl, _⟩
  · exact .inl ⟨rfl, rfl, hv⟩
  · exact .inr ⟨by decide, rfl⟩
  · exact .inr ⟨by decide, rfl⟩
theorem removeF_S {s s' : St} {x c : Int} (h : removeF s x = (c, s')) : (c = 0 ∧ s'.S = fun y a => if y = x then none else s.S y a) ∨ (c ≠ 0 ∧ s'.S = s.S) := by
  unfold removeF at h
  obtain ⟨c1, o1, l1, w1, hsf⟩ : ∃ c off' left' writes', spendF s.off s.armed (isF x) s.left s.writes = (c, off', left', writes') := ⟨_, _, _, _, rfl⟩
  rw [hsf] at h
  simp only [Prod.mk.injEq] at h
  obtain ⟨rfl, rfl⟩ := h
  rcases spendF_cases hsf with ⟨rfl, _⟩ | ⟨rfl | rfl, _⟩
  · exact .inl ⟨rfl, rfl⟩
  · exact .inr ⟨by decide, rfl⟩
  · exact .inr ⟨by decide, rfl⟩
theorem Inv.other {l : List Cl6} {s s' : St} {g : Pls} (h : Inv l s g) (e : s'.S = s.S) : Inv l s' g := ⟨by rw [e]; exact h.same, by rw [e]; exact h.of_l, by rw [e]; exact h.size⟩
theorem Inv.write {l : List Cl6} {s s' : St} {g : Pls} (h : Inv l s g) {x a : Int} {d : ByteArray} (e : s'.S = updS s.S x a d) (hv : validW x a d = true) {o : Cl6} (ho : o ∈ l) (hoa : o.at_ = a) : Inv l s' (upd2 g x a (some d)) := by
  have hcase : ∀ f c u, updS s.S x a d f c = some u → (f = x ∧ c = a) ∨ s.S f c = some u := fun f c u hu => by
    by_cases hh : f = x ∧ c = a
    · exact .inl hh
    · exact .inr (by simpa [updS, hh] using hu)
  refine ⟨fun f c hf hc => ?_, fun f c u hu => ?_, fun f c u hu => ?_⟩
  · rw [e]
    unfold upd2 updS
    by_cases hh : f = x ∧ c = a
    · rw [if_pos hh, if_pos hh]
    · rw [if_neg hh, if_neg hh]; exact h.same f c hf hc
  · rw [e] at hu
    rcases hcase f c u hu with ⟨_, rfl⟩ | h2
    · exact ⟨o, ho, hoa⟩
    · exact h.of_l f c u h2
  · rw [e] at hu
    rcases hcase f c u hu with ⟨rfl, rfl⟩ | h2
    · simp [validW] at hv
      exact ⟨isF_iff hv.1.1, isS_iff hv.1.2⟩
    · exact h.size f c u h2

/-- The places of file x at the sectors of the first j calls are struck. -/
def delG (g : Pls) (x : Int) (l : List Cl6) (j : Nat) : Pls := fun f a => if f = x ∧ ∃ o ∈ l.take j, o.at_ = a then none else g f a
theorem delG_zero (g : Pls) (x : Int) (l : List Cl6) : delG g x l 0 = g := by
  funext f a
  simp [delG]
theorem delG_succ (g : Pls) (x : Int) (l : List Cl6) {j : Nat} (hj : j < l.length) : upd2 (delG g x l j) x l[j].at_ none = delG g x l (j + 1) := by
  funext f a
  unfold upd2 delG
  rw [List.take_succ_eq_append_getElem hj]
  by_cases hh : f = x ∧ a = l[j].at_
  · rw [if_pos hh, if_pos ⟨hh.1, l[j], List.mem_append_right _ (List.mem_singleton.2 rfl), hh.2.symm⟩]
  · rw [if_neg hh]
    by_cases h2 : f = x ∧ ∃ o ∈ l.take j, o.at_ = a
    · obtain ⟨e, o, ho, ha⟩ := h2
      rw [if_pos ⟨e, o, ho, ha⟩, if_pos ⟨e, o, List.mem_append_left _ ho, ha⟩]
    · rw [if_neg h2, if_neg]
      rintro ⟨e, o, ho, ha⟩
      rcases List.mem_append.1 ho with h3 | h3
      · exact h2 ⟨e, o, h3, ha⟩
      · simp at h3
        subst h3
        exact hh ⟨e, ha.symm⟩
theorem Inv.remove {l : List Cl6} {s s' : St} {g : Pls} (h : Inv l s g) {x : Int} (e : s'.S = fun y a => if y = x then none else s.S y a) {j : Nat} (hj : j = l.length) : Inv l s' (delG g x l j) := by
  subst hj
  refine ⟨fun f a hf ha => ?_, fun f a d hd => ?_, fun f a d hd => ?_⟩
  · rw [e]
    show delG g x l l.length f a = if f = x then none else s.S f a
    unfold delG
    rw [List.take_length]
    by_cases hx : f = x
    · subst hx
      rw [if_pos rfl]
      by_cases h2 : ∃ o ∈ l, o.at_ = a
      · rw [if_pos ⟨rfl, h2⟩]
      · rw [if_neg (fun h => h2 h.2), h.same f a hf ha]
        cases hS : s.S f a with
        | none => rfl
        | some d => exact absurd (h.of_l f a d hS) h2
    · rw [if_neg hx, if_neg (fun h => hx h.1)]; exact h.same f a hf ha
  · rw [e] at hd
    by_cases hx : f = x
    · simp [hx] at hd
    · simp only [if_neg hx] at hd; exact h.of_l f a d hd
  · rw [e] at hd
    by_cases hx : f = x
    · simp [hx] at hd
    · simp only [if_neg hx] at hd; exact h.size f a d hd
end Go.Proofs.Ytfankhahpnlcfaa
