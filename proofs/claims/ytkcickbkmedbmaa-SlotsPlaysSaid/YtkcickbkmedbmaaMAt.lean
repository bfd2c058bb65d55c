/-
  THE MEDIUM FROM CALL TO CALL.
-/
import Derived.Test.YtkcickbkmedbmaaMX
namespace Go.Proofs.Ytkcickbkmedbmaa
open Go.RowKit Go.Maps

theorem wf_lit {x : Int} (h0 : -9223372036854775808 ≤ x) (h1 : x ≤ 9223372036854775807) : Wf x := ⟨h0, h1⟩

/-- What is kept of the medium from one call to the next. -/
def At (w0 w : World) (b n : Nat) (s : St) : Prop := ∃ X, M w X b n s ∧ (∀ k, X k → w0.heap.size ≤ k) ∧ Below w0.heap.size w0 w
theorem At.below {w0 w w' : World} {b n : Nat} {s : St} (h : At w0 w b n s) (hb : Below w.heap.size w w') : At w0 w' b n s := by
  obtain ⟨X, hm, hX, h0⟩ := h
  exact ⟨X, hm.below hb, hX, h0.trans (hb.mono h0.size)⟩
theorem At.step {w0 w w' : World} {b n' : Nat} {s' : St} {X' X : Nat → Prop} (hX : ∀ k, X k → w0.heap.size ≤ k) (h0 : Below w0.heap.size w0 w) (hm : M w' X' b n' s') (ho : Only X w w') (hn : ∀ k, X' k → X k ∨ w.heap.size ≤ k) : At w0 w' b n' s' :=
  ⟨X', hm, fun k hk => (hn k hk).elim (hX k) (fun h => Nat.le_trans h0.size h), h0.trans (ho.to_below h0.size (fun i hi _ => hX i hi))⟩
theorem At.fst {w0 w : World} {b n : Nat} {s : St} (h : At w0 w b n s) : Below w0.heap.size w0 w := by obtain ⟨X, _, _, h0⟩ := h; exact h0

section
variable {w0 w : World} {b n : Nat} {s : St}
theorem writeA (h : At w0 w b n s) (x a : Int) (d : ByteArray) (hn : n ≤ 1000000) (hx : Wf x) (ha : Wf a) {c : Int} {s' : St} (hr : writeF s x a d = (c, s')) :
    Calls Try.prog 19 #[.pointer (some ⟨b, 0, none⟩), .int .i64 x, .int .i64 a, .string d] w fun e w' => e = .returned (.int .i64 c) ∧ At w0 w' b (n + 1) s' := by
  obtain ⟨X, hm, hX, h0⟩ := h
  refine (writeX X b n s x a d w hm hn hx ha).mono ?_
  rintro e w' ⟨X', he, hm', ho, hnew⟩
  rw [hr] at he hm'
  exact ⟨he, At.step hX h0 hm' ho hnew⟩

theorem readA (h : At w0 w b n s) (x a : Int) (hx : Wf x) (ha : Wf a) {d : ByteArray} {c : Int} (hr : readF s x a = (d, c)) :
    Calls Try.prog 40 #[.pointer (some ⟨b, 0, none⟩), .int .i64 x, .int .i64 a] w fun e w' => e = .returned (.tuple #[.string d, .int .i64 c]) ∧ At w0 w' b n s := by
  obtain ⟨X, hm, _⟩ := id h
  refine (readX X b n s x a w hm hx ha).mono ?_
  rintro e w' ⟨he, hb⟩
  rw [hr] at he
  exact ⟨he, h.below hb⟩
theorem armA (h : At w0 w b n s) (v : Int) (hv : Wf v) :
    Calls Try.prog 12 #[.pointer (some ⟨b, 0, none⟩), .int .i64 v] w fun e w' => e = .returned (.tuple #[]) ∧ At w0 w' b n (armF s v) := by
  obtain ⟨X, hm, hX, h0⟩ := h
  refine (armX X b n s v w hm hv).mono ?_
  rintro e w' ⟨he, hm', ho⟩
  exact ⟨he, At.step hX h0 hm' ho (fun k hk => .inl hk)⟩
theorem onA (h : At w0 w b n s) :
    Calls Try.prog 14 #[.pointer (some ⟨b, 0, none⟩)] w fun e w' => e = .returned (.tuple #[]) ∧ At w0 w' b n (onF s) := by
  obtain ⟨X, hm, hX, h0⟩ := h
  refine (onX X b n s w hm).mono ?_
  rintro e w' ⟨he, hm', ho⟩
  exact ⟨he, At.step hX h0 hm' ho (fun k hk => .inl hk)⟩

theorem sizeA (h : At w0 w b n s) (x : Int) (hx : Wf x) :
    Calls Try.prog 26 #[.pointer (some ⟨b, 0, none⟩), .int .i64 x] w fun e w' => ∃ r : Int, e = .returned (.int .i64 r) ∧ IsSz (s.S x) r ∧ At w0 w' b n s := by
  obtain ⟨X, hm, _⟩ := id h
  refine (sizeX X b n s x w hm hx).mono ?_
  rintro e w' ⟨r, he, hz, hb⟩
  exact ⟨r, he, hz, h.below hb⟩
theorem newA : Calls Try.prog 7 #[] w fun e w' => e = .returned (.pointer (some ⟨w.heap.size + 1, 0, none⟩)) ∧ At w w' (w.heap.size + 1) 0 St.new := by
  refine (newX w).mono ?_
  rintro e w' ⟨X, he, hm, hX, hb⟩
  exact ⟨he, X, hm, hX, hb⟩
end
end Go.Proofs.Ytkcickbkmedbmaa
