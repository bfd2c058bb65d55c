/-
  THE MEDIUM AND THE REFERENCE's, SIDE BY SIDE: 'K w0 w b br n s n' s' cs'.
-/
import Derived.Test.YtkcickbkmedbmaaMRefR
import Derived.Test.YtkcickbkmedbmaaSWalks
import Derived.Test.YtkcickbkmedbmaaSOps
namespace Go.Proofs.Ytkcickbkmedbmaa
open Go.RowKit Go.Maps

def K (w0 w : World) (b br n : Nat) (s : St) (n' : Nat) (s' : St) (cs : List (Nat × Obj)) : Prop :=
  ∃ X Y, M w X b n s ∧ RM w Y br n' s' ∧ (∀ k, X k → ¬ Y k) ∧ (∀ k, X k → w0.heap.size ≤ k ∧ ∀ p ∈ cs, k ≠ p.1) ∧ (∀ k, Y k → w0.heap.size ≤ k ∧ ∀ p ∈ cs, k ≠ p.1) ∧
    (∀ p ∈ cs, w.heap[p.1]? = some p.2 ∧ w0.heap.size ≤ p.1) ∧ Below w0.heap.size w0 w

section
variable {w0 w w' : World} {b br n n' : Nat} {s s' : St} {cs : List (Nat × Obj)}
theorem K.fst (h : K w0 w b br n s n' s' cs) : Below w0.heap.size w0 w := by obtain ⟨X, Y, _, _, _, _, _, _, h⟩ := h; exact h
theorem K.below (h : K w0 w b br n s n' s' cs) (hb : Below w.heap.size w w') : K w0 w' b br n s n' s' cs := by
  obtain ⟨X, Y, hm, hr, hd, hX, hY, hc, h0⟩ := h
  exact ⟨X, Y, hm.below hb, hr.below hb, hd, hX, hY, fun p hp => ⟨(hb.block p.1 (Array.getElem?_eq_some_iff.1 (hc p hp).1).1).trans (hc p hp).1, (hc p hp).2⟩, h0.trans (hb.mono h0.size)⟩
theorem K.drew (h : K w0 w b br n s n' s' cs) : K w0 w.drew b br n s n' s' cs := h.below ⟨rfl, rfl, rfl, Nat.le_refl _, fun _ _ => rfl⟩
theorem K.drewN (h : K w0 w b br n s n' s' cs) (q : Nat) : K w0 (w.drewN q) b br n s n' s' cs := h.below ⟨rfl, rfl, rfl, Nat.le_refl _, fun _ _ => rfl⟩
theorem K.mono (h : K w0 w b br n s n' s' cs) {m m' : Nat} (hn : n ≤ m) (hm : n' ≤ m') : K w0 w b br m s m' s' cs := by
  obtain ⟨X, Y, h1, h2, h3⟩ := h
  exact ⟨X, Y, h1.mono hn, h2.mono hm, h3⟩
theorem K.bare (h : K w0 w b br n s n' s' cs) : K w0 w b br n s n' s' [] := by
  obtain ⟨X, Y, hm, hr, hd, hX, hY, _, h0⟩ := h
  exact ⟨X, Y, hm, hr, hd, fun k hk => ⟨(hX k hk).1, fun p hp => by cases hp⟩, fun k hk => ⟨(hY k hk).1, fun p hp => by cases hp⟩, (fun p hp => by cases hp), h0⟩
theorem K.add (h : K w0 w b br n s n' s' []) (o : Obj) : K w0 (w.alloc o) b br n s n' s' [(w.heap.size, o)] := by
  obtain ⟨X, Y, hm, hr, hd, hX, hY, _, h0⟩ := h
  have hb : Below w.heap.size w (w.alloc o) := (Below.refl _ _).alloc (Nat.le_refl _) o
  refine ⟨X, Y, hm.below hb, hr.below hb, hd, fun k hk => ⟨(hX k hk).1, fun p hp => ?_⟩, fun k hk => ⟨(hY k hk).1, fun p hp => ?_⟩, fun p hp => ?_, h0.trans (hb.mono h0.size)⟩
  · simp at hp; subst hp
    have := hm.lt hk
    show k ≠ w.heap.size
    omega
  · simp at hp; subst hp
    have := hr.lt hk
    show k ≠ w.heap.size
    omega
  · simp at hp; subst hp
    refine ⟨?_, h0.size⟩
    show (w.heap.push o)[w.heap.size]? = some o
    rw [Array.getElem?_push_size]
theorem K.cell (h : K w0 w b br n s n' s' cs) {bx : Nat} {c : Array Value} {t : TypeId} {fr : Nat × Nat} (hp : (bx, Obj.cells c t fr) ∈ cs) (o : Nat) : w.cell? ⟨bx, o, none⟩ = c[o]? := by
  obtain ⟨X, Y, _, _, _, _, _, hc, _⟩ := h
  exact cell_of_block (hc _ hp).1
theorem K.step1 {X Y X' : Nat → Prop} {m : Nat} {s1 : St} (hm : M w X b n s) (hr : RM w Y br n' s') (hd : ∀ k, X k → ¬ Y k) (hX : ∀ k, X k → w0.heap.size ≤ k ∧ ∀ p ∈ cs, k ≠ p.1) (hY : ∀ k, Y k → w0.heap.size ≤ k ∧ ∀ p ∈ cs, k ≠ p.1)
    (hc : ∀ p ∈ cs, w.heap[p.1]? = some p.2 ∧ w0.heap.size ≤ p.1) (h0 : Below w0.heap.size w0 w) (hm' : M w' X' b m s1) (ho : Only X w w') (hn : ∀ k, X' k → X k ∨ w.heap.size ≤ k) : K w0 w' b br m s1 n' s' cs := by
  have hlt : ∀ p ∈ cs, p.1 < w.heap.size := fun p hp => (Array.getElem?_eq_some_iff.1 (hc p hp).1).1
  have _hm := hm
  refine ⟨X', Y, hm', hr.kept ho (fun k hk hx => hd k hx hk), fun k hk hy => ?_, fun k hk => ?_, hY, fun p hp => ⟨(ho.block p.1 (hlt p hp) (fun h => (hX _ h).2 p hp rfl)).trans (hc p hp).1, (hc p hp).2⟩, h0.trans (ho.to_below h0.size (fun i hi _ => (hX i hi).1))⟩
  · rcases hn k hk with h | h
    · exact hd k h hy
    · have := hr.lt hy; omega
  · rcases hn k hk with h | h
    · exact hX k h
    · exact ⟨Nat.le_trans h0.size h, fun p hp => by have := hlt p hp; omega⟩
theorem K.step2 {X Y Y' : Nat → Prop} {m : Nat} {s1 : St} (hm : M w X b n s) (hd : ∀ k, X k → ¬ Y k) (hX : ∀ k, X k → w0.heap.size ≤ k ∧ ∀ p ∈ cs, k ≠ p.1) (hY : ∀ k, Y k → w0.heap.size ≤ k ∧ ∀ p ∈ cs, k ≠ p.1)
    (hc : ∀ p ∈ cs, w.heap[p.1]? = some p.2 ∧ w0.heap.size ≤ p.1) (h0 : Below w0.heap.size w0 w) (hr' : RM w' Y' br m s1) (ho : Only Y w w') (hn : ∀ k, Y' k → Y k ∨ w.heap.size ≤ k) : K w0 w' b br n s m s1 cs := by
  have hlt : ∀ p ∈ cs, p.1 < w.heap.size := fun p hp => (Array.getElem?_eq_some_iff.1 (hc p hp).1).1
  refine ⟨X, Y', hm.kept ho (fun k hk hy => hd k hk hy), hr', fun k hk hy => ?_, hX, fun k hk => ?_, fun p hp => ⟨(ho.block p.1 (hlt p hp) (fun h => (hY _ h).2 p hp rfl)).trans (hc p hp).1, (hc p hp).2⟩, h0.trans (ho.to_below h0.size (fun i hi _ => (hY i hi).1))⟩
  · rcases hn k hy with h | h
    · exact hd k hk h
    · have := hm.lt hk; omega
  · rcases hn k hk with h | h
    · exact hY k h
    · exact ⟨Nat.le_trans h0.size h, fun p hp => by have := hlt p hp; omega⟩

theorem writeK (h : K w0 w b br n s n' s' cs) {x a : Int} {d : ByteArray} (hn : n ≤ 1000000) (hx : Wf x) (ha : Wf a) {c : Int} {s1 : St} (hr : writeF s x a d = (c, s1)) :
    Calls Try.prog 19 #[.pointer (some ⟨b, 0, none⟩), .int .i64 x, .int .i64 a, .string d] w fun e w' => e = .returned (.int .i64 c) ∧ K w0 w' b br (n + 1) s1 n' s' cs := by
  obtain ⟨X, Y, hm, hrm, hd, hX, hY, hc, h0⟩ := h
  refine (writeX X b n s x a d w hm hn hx ha).mono ?_
  rintro e w' ⟨X', he, hm', ho, hnew⟩
  rw [hr] at he hm'
  exact ⟨he, K.step1 hm hrm hd hX hY hc h0 hm' ho hnew⟩
theorem armK (h : K w0 w b br n s n' s' cs) {v : Int} (hv : Wf v) :
    Calls Try.prog 12 #[.pointer (some ⟨b, 0, none⟩), .int .i64 v] w fun e w' => e = .returned (.tuple #[]) ∧ K w0 w' b br n (armF s v) n' s' cs := by
  obtain ⟨X, Y, hm, hrm, hd, hX, hY, hc, h0⟩ := h
  refine (armX X b n s v w hm hv).mono ?_
  rintro e w' ⟨he, hm', ho⟩
  exact ⟨he, K.step1 hm hrm hd hX hY hc h0 hm' ho (fun k hk => .inl hk)⟩
theorem onK (h : K w0 w b br n s n' s' cs) :
    Calls Try.prog 14 #[.pointer (some ⟨b, 0, none⟩)] w fun e w' => e = .returned (.tuple #[]) ∧ K w0 w' b br n (onF s) n' s' cs := by
  obtain ⟨X, Y, hm, hrm, hd, hX, hY, hc, h0⟩ := h
  refine (onX X b n s w hm).mono ?_
  rintro e w' ⟨he, hm', ho⟩
  exact ⟨he, K.step1 hm hrm hd hX hY hc h0 hm' ho (fun k hk => .inl hk)⟩
theorem readK (h : K w0 w b br n s n' s' cs) {x a : Int} (hx : Wf x) (ha : Wf a) {d : ByteArray} {c : Int} (hr : readF s x a = (d, c)) :
    Calls Try.prog 40 #[.pointer (some ⟨b, 0, none⟩), .int .i64 x, .int .i64 a] w fun e w' => e = .returned (.tuple #[.string d, .int .i64 c]) ∧ K w0 w' b br n s n' s' cs := by
  obtain ⟨X, Y, hm, _⟩ := id h
  refine (readX X b n s x a w hm hx ha).mono ?_
  rintro e w' ⟨he, hb⟩
  rw [hr] at he
  exact ⟨he, h.below hb⟩
theorem writesK (h : K w0 w b br n s n' s' cs) : Calls Try.prog 21 #[.pointer (some ⟨b, 0, none⟩)] w fun e w' => e = .returned (.int .i64 s.writes) ∧ w = w' := by
  obtain ⟨X, Y, hm, _⟩ := h
  exact writesX X b n s w hm
theorem rwriteK (h : K w0 w b br n s n' s' cs) {x a : Int} {d : ByteArray} (hn : n' ≤ 1000000) {c : Int} {s1 : St} (hr : writeF s' x a d = (c, s1)) :
    Calls Try.prog 20 #[.pointer (some ⟨br, 0, none⟩), .int .i64 x, .int .i64 a, .string d] w fun e w' => e = .returned (.int .i64 c) ∧ K w0 w' b br n s (n' + 1) s1 cs := by
  obtain ⟨X, Y, hm, hrm, hd, hX, hY, hc, h0⟩ := h
  refine (rwriteX Y br n' s' x a d w hrm hn).mono ?_
  rintro e w' ⟨Y', he, hr', ho, hnew⟩
  rw [hr] at he hr'
  exact ⟨he, K.step2 hm hd hX hY hc h0 hr' ho hnew⟩
theorem rarmK (h : K w0 w b br n s n' s' cs) {v : Int} (hv : Wf v) :
    Calls Try.prog 13 #[.pointer (some ⟨br, 0, none⟩), .int .i64 v] w fun e w' => e = .returned (.tuple #[]) ∧ K w0 w' b br n s n' (armF s' v) cs := by
  obtain ⟨X, Y, hm, hrm, hd, hX, hY, hc, h0⟩ := h
  refine (rarmX Y br n' s' v w hrm hv).mono ?_
  rintro e w' ⟨he, hr', ho⟩
  exact ⟨he, K.step2 hm hd hX hY hc h0 hr' ho (fun k hk => .inl hk)⟩
theorem ronK (h : K w0 w b br n s n' s' cs) :
    Calls Try.prog 15 #[.pointer (some ⟨br, 0, none⟩)] w fun e w' => e = .returned (.tuple #[]) ∧ K w0 w' b br n s n' (onF s') cs := by
  obtain ⟨X, Y, hm, hrm, hd, hX, hY, hc, h0⟩ := h
  refine (ronX Y br n' s' w hrm).mono ?_
  rintro e w' ⟨he, hr', ho⟩
  exact ⟨he, K.step2 hm hd hX hY hc h0 hr' ho (fun k hk => .inl hk)⟩
theorem rreadK (h : K w0 w b br n s n' s' cs) {x a : Int} (hn : n' ≤ 1000000) {d : ByteArray} {c : Int} (hr : readF s' x a = (d, c)) :
    Calls Try.prog 45 #[.pointer (some ⟨br, 0, none⟩), .int .i64 x, .int .i64 a] w fun e w' => e = .returned (.tuple #[.string d, .int .i64 c]) ∧ w = w' := by
  obtain ⟨X, Y, _, hrm, _⟩ := h
  have := rreadX Y br n' s' x a w hrm hn
  rw [hr] at this
  exact this
theorem rwritesK (h : K w0 w b br n s n' s' cs) : Calls Try.prog 22 #[.pointer (some ⟨br, 0, none⟩)] w fun e w' => e = .returned (.int .i64 s'.writes) ∧ w = w' := by
  obtain ⟨X, Y, _, hrm, _⟩ := h
  exact rwritesX Y br n' s' w hrm
end

theorem newK {w w1 w2 : World} {X Y : Nat → Prop} {b br : Nat} (hm : M w1 X b 0 St.new) (hX : ∀ k, X k → w.heap.size ≤ k) (hb : Below w.heap.size w w1) (hr : RM w2 Y br 0 St.new) (hY : ∀ k, Y k → w1.heap.size ≤ k) (hb2 : Below w1.heap.size w1 w2) : K w w2 b br 0 St.new 0 St.new [] :=
  ⟨X, Y, hm.below hb2, hr, fun k hk hy => by have := hm.lt hk; have := hY k hy; omega, fun k hk => ⟨hX k hk, fun p hp => by cases hp⟩, fun k hk => ⟨Nat.le_trans hb.size (hY k hk), fun p hp => by cases hp⟩, (fun p hp => by cases hp), hb.trans (hb2.mono hb.size)⟩

end Go.Proofs.Ytkcickbkmedbmaa
