/-
  ROWS OF WHOLE STRUCTS: a list of things, each a list of cells; one thing at its place.
-/
import Derived.Great.CaseRows
import Derived.Test.YtdcnkchhdmppeaaHBase
import Derived.Test.YtdcnkchhdmppeaaHTypes
import Derived.Deep.MidRow
import Derived.Laws.CopyRow
namespace Go.Proofs.Ytdcnkchhdmppeaa
open Go.RowKit

theorem flat_at {sz : Nat} : ∀ {L : List (List Value)} (_h : ∀ e ∈ L, e.length = sz) (i j : Nat) (hi : i < L.length) (_hj : j < sz), L.flatten[i * sz + j]? = L[i][j]? := by
  intro L
  induction L with
  | nil => intro _ i j hi; simp at hi
  | cons e L ih =>
    intro h i j hi hj
    have he := h e (List.mem_cons_self ..)
    rw [List.flatten_cons]
    cases i with
    | zero => rw [List.getElem?_append_left (by omega)]; simp
    | succ i =>
      rw [List.getElem?_append_right (by rw [Nat.succ_mul]; omega), show (i + 1) * sz + j - e.length = i * sz + j from by rw [Nat.succ_mul]; omega]
      exact ih (fun e' he' => h e' (List.mem_cons_of_mem _ he')) i j (by simpa using hi) hj
theorem flat_length {sz : Nat} : ∀ {L : List (List Value)} (_h : ∀ e ∈ L, e.length = sz), L.flatten.length = L.length * sz := by
  intro L
  induction L with
  | nil => intro _; simp
  | cons e L ih =>
    intro h
    rw [List.flatten_cons, List.length_append, ih (fun e' he' => h e' (List.mem_cons_of_mem _ he')), h e (List.mem_cons_self ..), List.length_cons, Nat.succ_mul]
    omega
/-- Things of these kinds. -/
def Things (ks : List CK) (L : List (List Value)) : Prop := ∀ e ∈ L, Fits ks e
theorem Things.len {ks : List CK} {L : List (List Value)} (h : Things ks L) : ∀ e ∈ L, e.length = ks.length := fun e he => (h e he).length
/-- One thing at its place. -/
theorem Rd.thing {w : World} {B : Nat} {A : Option Addr} {ks : List CK} {L : List (List Value)} (h : Rd w B A L.flatten) (ht : Things ks L) (hk : 1 ≤ ks.length) {i : Nat} (hi : i < L.length) :
    ∃ b off, A = some ⟨b, off, none⟩ ∧ b < B ∧ ∀ j (hj : j < L.length), w.rangeAt b (off + j * ks.length) L[j] := by
  have hlen := flat_length ht.len
  have hp := Nat.mul_le_mul (show 1 ≤ L.length by omega) hk
  obtain ⟨b, off, rfl, hb, hc⟩ := h (by omega)
  refine ⟨b, off, rfl, hb, fun j hj i v hv => ?_⟩
  have hi2 : i < ks.length := by
    have := (List.getElem?_eq_some_iff.1 hv).1
    rw [ht.len _ (List.getElem_mem hj)] at this
    exact this
  rw [Nat.add_assoc]
  exact hc _ v ((flat_at ht.len j i hj hi2).trans hv)
theorem rangeAt_below {w w' : World} {B b o : Nat} {cs : List Value} (h : w.rangeAt b o cs) (hb : b < B) (hw : Below B w w') : w'.rangeAt b o cs := fun j v hv => (hw.cell (p := ⟨b, o + j, none⟩) hb).trans (h j v hv)

/-- A list of one struct: its cells in a block of their own. -/
theorem wpList_buildOne {P : Program} {ops : Array Oper} {rest : List Oper} {o : Oper} {a : Act} {w : World} {Q : Exit → Act → World → Prop} (hg : o.guard = none) (t e : TypeId) (x : Operand) (ho : o.op = .buildSlice t 1 #[(0, x)])
    (N : Nat) (hN : w.heap.size = N) (dst : Option Tmp) (hdst : o.dst = dst) (i : TypeInfo) (z : Value) (sz : Nat) (hu : P.underlying t = some (.slice e)) (hi : P.info? e = some i) (hz : i.zero = some z) (hs : i.size = sz) (h0 : 1 ≤ sz) (h1 : sz ≤ 1000)
    (cs : List Value) (hx : a.eval x = .agg cs.toArray) (hc : cs.length = sz)
    (h : wpList P ops Q rest (a.put dst (.slice (some ⟨N, 0, none⟩) 1 1)) (w.alloc (.cells cs.toArray e))) : wpList P ops Q (o :: rest) a w := by
  subst hN hdst
  refine wpList_buildSlice hg t e 1 #[(0, x)] ho cs.toArray i z hu hi hz (by omega) (by omega) ?_ h
  have hf := Great.fill_whole (s := sz) (by omega) [Value.agg cs.toArray] ((Array.range (1 * i.size)).map (z.cells[· % z.cells.size]!)) (by simp [Value.cells, hc]) (by simp [hs])
  simpa [hx, hs, Value.cells] using hf
end Go.Proofs.Ytdcnkchhdmppeaa
