/-
  OPENED: an argument that is an int; one that is a text; one that is a frame; one that is a slice of texts.
-/
import Derived.Test.YtcfojpgfecelcaaFBase
import Derived.Lib.SmallJoins
import Derived.SliceStrings
import Derived.SizedLaws
import Derived.ChangeSame
import Derived.OpenShut
namespace Go.Proofs.Ytcfojpgfecelcaa
open Go.ChangeShapes Go.WideShapes Go.Deep Go.RowKit Go.Joins

theorem undS : Try.prog.underlying 22 = some (.slice 9) := Try.underlying22
theorem bytesS : Try.prog.bytesOf 9 = 16 := by kernel_rfl

section
variable {H : Type} {enc : TypeId × Value → H} {W : World}
theorem int_in {r : Reach} {b0 : Nat} {v : Value} {d : DataW H} {p : List MemPlace} (hv : Value.okWide Try.prog W r b0 3 v) (_h : DataW.Trod enc Try.prog W 0 (fun _ => true) true 3 v d p) : ∃ z : Int, v = .int .i64 z := okWide_int Try.underlying3 hv
theorem str_in {r : Reach} {b0 : Nat} {v : Value} {d : DataW H} {p : List MemPlace} (hv : Value.okWide Try.prog W r b0 9 v) (h : DataW.Trod enc Try.prog W 0 (fun _ => true) true 9 v d p) : ∃ s : ByteArray, v = .string s := by
  obtain ⟨a0, rfl, _⟩ := Go.ChangeMaps.open_string Try.underlying9 hv h
  exact ⟨a0, rfl⟩
theorem frame_in {r : Reach} {b0 : Nat} {v : Value} {d : DataW H} {p : List MemPlace} (hv : Value.okWide Try.prog W r b0 42 v) (h : DataW.Trod enc Try.prog W 0 (fun _ => true) true 42 v d p) :
    ∃ (z : Int) (s : ByteArray), v = .agg #[.int .i64 z, .string s] := by
  obtain ⟨v0, v1, y0, y1, n, rfl, _, _, h0, h1⟩ := open_agg2 Try.underlying42 (by kernel_rfl) (by kernel_rfl) hv h
  obtain ⟨z, e1, _, _⟩ := DataW.trod_int Try.underlying3 h0
  obtain ⟨s, e0, _, _⟩ := DataW.trod_string Try.underlying9 h1
  simp at e0 e1
  subst e0 e1
  exact ⟨z, s, rfl⟩
theorem strs_in {A : Option Addr} {len cap : Nat} {d : DataW H} {p : List MemPlace} (h : DataW.Trod enc Try.prog W 0 (fun _ => true) true 22 (.slice A len cap) d p) :
    ∃ l : List ByteArray, len = l.length ∧ len ≤ cap ∧ Rd W W.heap.size A (sc l) ∧ (len = 0 ∨ ∃ elems spare, d = .slice elems spare ∧ elems.length = len) := by
  obtain ⟨fuel, hf⟩ := h
  rcases open_strings Try.underlying22 Try.underlying9 (by kernel_rfl) hf with ⟨hcs, hx⟩ | ⟨x, l, c, ss, hcs, _, hl, hm, hz, hx, hcell, hwz⟩
  · simp [Value.cells] at hcs
    obtain ⟨rfl, rfl, rfl⟩ := hcs
    exact ⟨[], rfl, by omega, Rd.none_, .inl rfl⟩
  · simp [Value.cells] at hcs
    obtain ⟨rfl, rfl, rfl⟩ := hcs
    simp only [Prod.mk.injEq] at hx
    simp at hz
    refine ⟨ss.take len, by rw [List.length_take]; omega, hl, ?_, .inr ⟨_, _, hx.1, by simp [strs]; omega⟩⟩
    intro hpos
    rw [sc_length, List.length_take] at hpos
    have hc0 := hcell 0 (by omega)
    obtain ⟨b, off, spot⟩ := x
    have hspot : spot = none := by simpa [Addr.add] using World.cell?_spot hc0
    subst hspot
    have hb : b < W.heap.size := World.block_lt_of_cell? W _ hc0
    refine ⟨b, off, rfl, hb, fun j u hu => ?_⟩
    rw [sc, List.getElem?_map] at hu
    have hj : j < (ss.take len).length := by
      rcases Nat.lt_or_ge j (ss.take len).length with h | h
      · exact h
      · rw [List.getElem?_eq_none h] at hu; cases hu
    rw [List.getElem?_eq_getElem hj] at hu
    injection hu with hu
    have hj' : j < ss.length := by rw [List.length_take] at hj; omega
    have := hcell j hj'
    rw [Addr.add_lit] at this
    rw [this, ← hu, List.getElem_take, List.getD_eq_getElem?_getD, List.getElem?_eq_getElem hj']
    rfl
end
end Go.Proofs.Ytcfojpgfecelcaa
