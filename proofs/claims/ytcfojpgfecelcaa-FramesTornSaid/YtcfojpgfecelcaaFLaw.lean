/-
  WHAT BOTH SIDES ANSWER, in one form: Tell, Join, Lay.
-/
import Derived.Test.YtcfojpgfecelcaaFAwake
import Derived.Test.YtcfojpgfecelcaaFRJoin
namespace Go.Proofs.Ytcfojpgfecelcaa
open Go.RowKit

/-- Both tell the same of a sector. -/
theorem tell_u (s : ByteArray) : ∃ (n p k e : Int) (d : ByteArray),
    (∀ w, Calls Try.prog 11 #[.string s] w fun x w' => x = .returned (.tuple #[.agg #[.int .i64 n, .int .i64 p, .int .i64 k, .string d], .int .i64 e]) ∧ Below w.heap.size w w') ∧
    (∀ w, Calls Try.prog 12 #[.string s] w fun x w' => x = .returned (.tuple #[.agg #[.int .i64 n, .int .i64 p, .int .i64 k, .string d], .int .i64 e]) ∧ Below w.heap.size w w') := by
  cases h : Pl.tellF s with
  | none => exact ⟨0, 0, 0, 43, ⟨#[]⟩, tell_none h, rtell_none h⟩
  | some q => obtain ⟨n, p, k, d⟩ := q; exact ⟨n, p, k, 0, d, tell_some h, rtell_some h⟩

/-- What Join answers, the parts by name. -/
structure JoinU (l : List ByteArray) (n : Int) (d : ByteArray) (k e : Int) : Prop where
  code : ∀ A m c w, m = l.length → m ≤ c → Rd w w.heap.size A (sc l) → Calls Try.prog 15 #[.slice A m c] w fun x w' => x = .returned (.tuple #[.int .i64 n, .string d, .int .i64 k, .int .i64 e]) ∧ Below w.heap.size w w'
  ref : ∀ A m c w, m = l.length → m ≤ c → Rd w w.heap.size A (sc l) → Calls Try.prog 16 #[.slice A m c] w fun x w' => x = .returned (.tuple #[.int .i64 n, .string d, .int .i64 k, .int .i64 e]) ∧ Below w.heap.size w w'

theorem join_none {l : List ByteArray} (h : Pl.joinF l = none) : JoinU l 0 ⟨#[]⟩ 0 43 := by
  constructor
  · intro A m c w hm hc hr
    refine (join_any A m c l w hm hc hr).mono ?_
    rintro e w' ⟨he, hb⟩
    rw [h] at he
    exact ⟨he, hb⟩
  · intro A m c w hm hc hr
    refine (rjoin_any A m c l w hm hc hr).mono ?_
    rintro e w' ⟨he, hb⟩
    rw [h] at he
    exact ⟨he, hb⟩
theorem join_some {l : List ByteArray} {n k : Nat} {d : List UInt8} (h : Pl.joinF l = some (n, d, k)) : JoinU l n ⟨d.toArray⟩ k 0 := by
  constructor
  · intro A m c w hm hc hr
    refine (join_any A m c l w hm hc hr).mono ?_
    rintro e w' ⟨he, hb⟩
    rw [h] at he
    exact ⟨he, hb⟩
  · intro A m c w hm hc hr
    refine (rjoin_any A m c l w hm hc hr).mono ?_
    rintro e w' ⟨he, hb⟩
    rw [h] at he
    exact ⟨he, hb⟩
theorem join_u (l : List ByteArray) : ∃ (n : Int) (d : ByteArray) (k e : Int), JoinU l n d k e := by
  cases h : Pl.joinF l with
  | none => exact ⟨_, _, _, _, join_none h⟩
  | some q => obtain ⟨n, d, k⟩ := q; exact ⟨_, _, _, _, join_some h⟩

/-- What Lay answers, the parts by name. -/
structure LayU (x : Int) (data : ByteArray) (l : List ByteArray) (e : Int) : Prop where
  code : ∀ w, Calls Try.prog 9 #[.int .i64 x, .string data] w fun y w' => ∃ A n c, y = .returned (.tuple #[.slice A n c, .int .i64 e]) ∧ n = l.length ∧ n ≤ c ∧ Rd w' w'.heap.size A (sc l) ∧ Below w.heap.size w w'
  ref : ∀ w, Calls Try.prog 10 #[.int .i64 x, .string data] w fun y w' => ∃ A n c, y = .returned (.tuple #[.slice A n c, .int .i64 e]) ∧ n = l.length ∧ n ≤ c ∧ Rd w' w'.heap.size A (sc l) ∧ Below w.heap.size w w'
theorem lay_none {x : Int} {data : ByteArray} (h : Pl.layF x data = none) : LayU x data [] 43 := by
  constructor
  · intro w
    have := lay_any x data w
    rw [h] at this
    refine this.mono ?_
    rintro e w' ⟨rfl, hb⟩
    exact ⟨none, 0, 0, rfl, rfl, Nat.le_refl _, Rd.none_, hb⟩
  · intro w
    have := rlay_any x data w
    rw [h] at this
    refine this.mono ?_
    rintro e w' ⟨rfl, hb⟩
    exact ⟨none, 0, 0, rfl, rfl, Nat.le_refl _, Rd.none_, hb⟩
theorem lay_some {x : Int} {data : ByteArray} {l : List ByteArray} (h : Pl.layF x data = some l) : LayU x data l 0 := by
  constructor
  · intro w
    have := lay_any x data w
    rw [h] at this
    refine this.mono ?_
    rintro e w' ⟨v, rfl, A, c, rfl, hc, _, hr, hb⟩
    exact ⟨A, l.length, c, rfl, rfl, hc, hr, hb⟩
  · intro w
    have := rlay_any x data w
    rw [h] at this
    refine this.mono ?_
    rintro e w' ⟨v, rfl, A, c, rfl, hc, _, hr, hb⟩
    exact ⟨A, l.length, c, rfl, rfl, hc, hr, hb⟩
theorem lay_u (x : Int) (data : ByteArray) : ∃ (l : List ByteArray) (e : Int), l.length ≤ 8 ∧ LayU x data l e := by
  cases h : Pl.layF x data with
  | none => exact ⟨_, _, by simp, lay_none h⟩
  | some l =>
    refine ⟨_, _, ?_, lay_some h⟩
    unfold Pl.layF at h
    split at h
    · rename_i hc
      injection h with h
      rw [← h, Pl.secs_length]
      exact Pl.partsN_le hc.2.2
    · cases h
/-- A part's variable, whatever stands in it. -/
def VB (w : World) (b : Nat) (n p k : Int) (d : ByteArray) (t : TypeId) : Prop := w.heap[b]? = some (.cells #[.int .i64 n, .int .i64 p, .int .i64 k, .string d] t (0, 0))
end Go.Proofs.Ytcfojpgfecelcaa
