/-
  OPENED: an argument that is an int, a slice of ints, a slice of Puts.
-/
import Derived.Test.YtcmeaeemjecjiaaLJ
import Derived.Deep.SlicePairs
import Derived.Lib.SmallJoins
import Derived.SizedLaws
import Derived.ChangeSame
import Derived.OpenShut
namespace Go.Proofs.Ytcmeaeemjecjiaa
open Go.ChangeShapes Go.WideShapes Go.Deep Go.RowKit Go.Joins
set_option maxRecDepth 100000

theorem undPut : Try.prog.underlying 22 = some (.slice 34) := Try.underlying22
theorem bytesI : Try.prog.bytesOf 3 = 8 := by kernel_rfl
theorem bytesPut : Try.prog.bytesOf 34 = 16 := by kernel_rfl

section
variable {H : Type} {enc : TypeId × Value → H} {W : World}
theorem int_in {r : Reach} {b0 : Nat} {v : Value} {d : DataW H} {p : List MemPlace} (hv : Value.okWide Try.prog W r b0 3 v) (h : DataW.Trod enc Try.prog W 0 (fun _ => true) true 3 v d p) : ∃ z : Int, v = .int .i64 z ∧ Wf z := by
  obtain ⟨z, rfl⟩ := okWide_int Try.underlying3 hv
  obtain ⟨fuel, hf⟩ := h
  obtain ⟨z', hv, _, hw⟩ := DataW.trod_int Try.underlying3 hf
  simp [Value.cells] at hv
  subst hv
  exact ⟨_, rfl, Wf.of_lit hw⟩

theorem puts_in {A : Option Addr} {len cap : Nat} {d : DataW H} {p : List MemPlace} (h : DataW.Trod enc Try.prog W 0 (fun _ => true) true 22 (.slice A len cap) d p) :
    ∃ l : List (Int × Int), len = l.length ∧ len ≤ cap ∧ cap ≤ 9223372036854775807 ∧ Rd W W.heap.size A (pz l) ∧ (len = 0 ∨ ∃ elems spare, d = .slice elems spare ∧ elems.length = len) := by
  obtain ⟨fuel, hf⟩ := h
  rcases open_slice_pairs undPut Try.underlying34 (by kernel_rfl) rfl rfl (by kernel_rfl) (by kernel_rfl) (by simpa [Value.cells] using hf) with ⟨hcs, _⟩ | ⟨a, n, c, m, fu, V0, V1, D0, D1, P0, P1, hcs, _, hnc, hc, hm, hx, hi⟩
  · simp at hcs
    obtain ⟨rfl, rfl, rfl⟩ := hcs
    exact ⟨[], rfl, by omega, by omega, Rd.none_, .inl rfl⟩
  · simp at hcs
    obtain ⟨rfl, rfl, rfl⟩ := hcs
    simp at hm
    subst hm
    have hs : ∀ i, i < len → ∃ q : Int × Int, V0 i = .int .i64 q.1 ∧ V1 i = .int .i64 q.2 := fun i hil => by
      obtain ⟨_, _, h0, h1⟩ := hi i (by omega)
      obtain ⟨s, e0, _, hs⟩ := DataW.trod_int Try.underlying3 h0
      obtain ⟨z, e1, _, hz⟩ := DataW.trod_int Try.underlying3 h1
      exact ⟨(s, z), by simpa using e0, by simpa using e1⟩
    obtain ⟨f, hf'⟩ : ∃ f : Nat → Int × Int, ∀ i, i < len → V0 i = .int .i64 (f i).1 ∧ V1 i = .int .i64 (f i).2 := by
      refine ⟨fun i => if h : i < len then Classical.choose (hs i h) else (0, 0), fun i h => ?_⟩
      simp only [h, dite_true]
      exact Classical.choose_spec (hs i h)
    refine ⟨(List.range len).map f, by simp, hnc, by simpa [maxLen] using hc, ?_, .inr ⟨_, _, (Prod.mk.inj hx).1, by simp⟩⟩
    intro hpos
    rw [pz_length] at hpos
    simp at hpos
    obtain ⟨hc0, _, _, _⟩ := hi 0 (by omega)
    obtain ⟨b, off, spot⟩ := a
    have hspot : spot = none := by simpa [Addr.add] using World.cell?_spot hc0
    subst hspot
    have hb := World.block_lt_of_cell? W _ hc0
    refine ⟨b, off, rfl, by simpa [Addr.add] using hb, fun j u hu => ?_⟩
    have hj : j < len * 2 := by
      have := (List.getElem?_eq_some_iff.1 hu).1
      rw [pz_length] at this
      simpa using this
    have hj2 : j / 2 < ((List.range len).map f).length := by simp; omega
    obtain ⟨g0, g1, _, _⟩ := hi (j / 2) (by omega)
    obtain ⟨f0, f1⟩ := hf' (j / 2) (by omega)
    rcases Nat.mod_two_eq_zero_or_one j with e | e
    · have ej : j = j / 2 * 2 := by omega
      rw [ej, pz_at0 _ _ hj2] at hu
      injection hu with hu
      rw [ej, ← hu]
      simp only [Addr.add_lit] at g0
      rw [g0, f0]
      simp
    · have ej : j = j / 2 * 2 + 1 := by omega
      rw [ej, pz_at1 _ _ hj2] at hu
      injection hu with hu
      rw [ej, ← hu]
      simp only [Addr.add_lit] at g1
      rw [g1, f1]
      simp

theorem ints_in {A : Option Addr} {len cap : Nat} {d : DataW H} {p : List MemPlace} (h : DataW.Trod enc Try.prog W 0 (fun _ => true) true 23 (.slice A len cap) d p) :
    ∃ zs : List Int, len = zs.length ∧ len ≤ cap ∧ cap ≤ 9223372036854775807 ∧ Rd W W.heap.size A (zs.map (Value.int .i64)) ∧ (len = 0 ∨ ∃ elems spare, d = .slice elems spare ∧ elems.length = len) := by
  obtain ⟨fuel, hf⟩ := h
  rcases open_ints Try.underlying23 Try.underlying3 (by kernel_rfl) hf with ⟨hcs, hx⟩ | ⟨x, l, c, zs, hcs, _, hl, hm, hz, hx, hcell, hwz⟩
  · simp [Value.cells] at hcs
    obtain ⟨rfl, rfl, rfl⟩ := hcs
    exact ⟨[], rfl, by omega, by omega, Rd.none_, .inl rfl⟩
  · simp [Value.cells] at hcs
    obtain ⟨rfl, rfl, rfl⟩ := hcs
    simp only [Prod.mk.injEq] at hx
    simp at hz
    refine ⟨zs.take len, by rw [List.length_take]; omega, hl, by simpa [maxLen] using hm, ?_, .inr ⟨_, _, hx.1, by simp [lits]; omega⟩⟩
    intro hpos
    rw [List.length_map, List.length_take] at hpos
    have hc0 := hcell 0 (by omega)
    obtain ⟨b, off, spot⟩ := x
    have hspot : spot = none := by simpa [Addr.add] using World.cell?_spot hc0
    subst hspot
    have hb : b < W.heap.size := World.block_lt_of_cell? W _ hc0
    refine ⟨b, off, rfl, hb, fun j u hu => ?_⟩
    rw [List.getElem?_map] at hu
    have hj : j < (zs.take len).length := by
      rcases Nat.lt_or_ge j (zs.take len).length with h | h
      · exact h
      · rw [List.getElem?_eq_none h] at hu; cases hu
    rw [List.getElem?_eq_getElem hj] at hu
    injection hu with hu
    have hj' : j < zs.length := by rw [List.length_take] at hj; omega
    have := hcell j hj'
    rw [Addr.add_lit] at this
    rw [this, ← hu, List.getElem_take, List.getD_eq_getElem?_getD, List.getElem?_eq_getElem hj']
    rfl

end
end Go.Proofs.Ytcmeaeemjecjiaa
