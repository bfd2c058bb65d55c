/-
  OPENED: an argument that is a slice of pairs; one that is a pair.
-/
import Derived.Test.YtcpfhmipjpbhnaaTRead
import Derived.Deep.SlicePairs
import Derived.Lib.SmallJoins
import Derived.SizedLaws
import Derived.ChangeSame
import Derived.OpenShut
namespace Go.Proofs.Ytcpfhmipjpbhnaa
open Go.ChangeShapes Go.WideShapes Go.Deep Go.RowKit Go.Joins

theorem und22 : Try.prog.underlying 22 = some (.slice 24) := Try.underlying22
theorem bytesI : Try.prog.bytesOf 3 = 8 := by kernel_rfl
theorem bytesP : Try.prog.bytesOf 24 = 24 := by kernel_rfl

section
variable {H : Type} {enc : TypeId × Value → H} {W : World}

theorem pairs_in {A : Option Addr} {len cap : Nat} {d : DataW H} {p : List MemPlace} (h : DataW.Trod enc Try.prog W 0 (fun _ => true) true 22 (.slice A len cap) d p) :
    ∃ l : List Pl.Pr, len = l.length ∧ len ≤ cap ∧ cap ≤ 9223372036854775807 ∧ Rd W W.heap.size A (pc l) ∧ (∀ p ∈ l, p.1.size ≤ maxLen ∧ (Lit.int .i64 p.2).wf = true) ∧ (len = 0 ∨ ∃ elems spare, d = .slice elems spare ∧ elems.length = len) := by
  obtain ⟨fuel, hf⟩ := h
  rcases open_slice_pairs und22 Try.underlying24 (by kernel_rfl) rfl rfl (by kernel_rfl) (by kernel_rfl) (by simpa [Value.cells] using hf) with ⟨hcs, _⟩ | ⟨a, n, c, m, fu, V0, V1, D0, D1, P0, P1, hcs, _, hnc, hc, hm, hx, hi⟩
  · simp at hcs
    obtain ⟨rfl, rfl, rfl⟩ := hcs
    exact ⟨[], rfl, by omega, by omega, Rd.none_, (fun p hp => by cases hp), .inl rfl⟩
  · simp at hcs
    obtain ⟨rfl, rfl, rfl⟩ := hcs
    simp at hm
    subst hm
    have hs : ∀ i, i < len → ∃ q : Pl.Pr, V0 i = .string q.1 ∧ V1 i = .int .i64 q.2 ∧ q.1.size ≤ maxLen ∧ (Lit.int .i64 q.2).wf = true := fun i hil => by
      obtain ⟨_, _, h0, h1⟩ := hi i (by omega)
      obtain ⟨s, e0, _, hs⟩ := DataW.trod_string Try.underlying9 h0
      obtain ⟨z, e1, _, hz⟩ := DataW.trod_int Try.underlying3 h1
      exact ⟨(s, z), by simpa using e0, by simpa using e1, hs, hz⟩
    obtain ⟨f, hf'⟩ : ∃ f : Nat → Pl.Pr, ∀ i, i < len → V0 i = .string (f i).1 ∧ V1 i = .int .i64 (f i).2 ∧ (f i).1.size ≤ maxLen ∧ (Lit.int .i64 (f i).2).wf = true := by
      refine ⟨fun i => if h : i < len then Classical.choose (hs i h) else (ByteArray.empty, 0), fun i h => ?_⟩
      simp only [h, dite_true]
      exact Classical.choose_spec (hs i h)
    refine ⟨(List.range len).map f, by simp, hnc, by simpa [maxLen] using hc, ?_, ?_, .inr ⟨_, _, (Prod.mk.inj hx).1, by simp⟩⟩
    rotate_left
    · intro p hp
      obtain ⟨i, hi, rfl⟩ := List.mem_map.1 hp
      exact (hf' i (by simpa using hi)).2.2
    intro hpos
    rw [pc_length] at hpos
    simp at hpos
    obtain ⟨hc0, _, _, _⟩ := hi 0 (by omega)
    obtain ⟨b, off, spot⟩ := a
    have hspot : spot = none := by simpa [Addr.add] using World.cell?_spot hc0
    subst hspot
    have hb := World.block_lt_of_cell? W _ hc0
    refine ⟨b, off, rfl, by simpa [Addr.add] using hb, fun j u hu => ?_⟩
    have hj : j < len * 2 := by
      have := (List.getElem?_eq_some_iff.1 hu).1
      rw [pc_length] at this
      simpa using this
    have hj2 : j / 2 < ((List.range len).map f).length := by simp; omega
    obtain ⟨g0, g1, _, _⟩ := hi (j / 2) (by omega)
    obtain ⟨f0, f1, _, _⟩ := hf' (j / 2) (by omega)
    rcases Nat.mod_two_eq_zero_or_one j with e | e
    · have ej : j = j / 2 * 2 := by omega
      rw [ej, pc_at0 _ _ hj2] at hu
      injection hu with hu
      rw [ej, ← hu]
      simp only [Addr.add_lit] at g0
      rw [g0, f0]
      simp
    · have ej : j = j / 2 * 2 + 1 := by omega
      rw [ej, pc_at1 _ _ hj2] at hu
      injection hu with hu
      rw [ej, ← hu]
      simp only [Addr.add_lit] at g1
      rw [g1, f1]
      simp

theorem ints_in {A : Option Addr} {len cap : Nat} {d : DataW H} {p : List MemPlace} (h : DataW.Trod enc Try.prog W 0 (fun _ => true) true 39 (.slice A len cap) d p) :
    ∃ zs : List Int, len = zs.length ∧ len ≤ cap ∧ cap ≤ 9223372036854775807 ∧ Rd W W.heap.size A (zs.map (Value.int .i64)) ∧ (len = 0 ∨ ∃ elems spare, d = .slice elems spare ∧ elems.length = len) := by
  obtain ⟨fuel, hf⟩ := h
  rcases open_ints Try.underlying39 Try.underlying3 (by kernel_rfl) hf with ⟨hcs, hx⟩ | ⟨x, l, c, zs, hcs, _, hl, hm, hz, hx, hcell, hwz⟩
  · simp [Value.cells] at hcs
    obtain ⟨rfl, rfl, rfl⟩ := hcs
    exact ⟨[], rfl, by omega, by omega, Rd.none_, .inl rfl⟩
  · simp [Value.cells] at hcs
    obtain ⟨rfl, rfl, rfl⟩ := hcs
    simp only [Prod.mk.injEq] at hx
    simp at hz
    refine ⟨zs.take len, by rw [List.length_take]; omega, hl, by simpa [maxLen] using hm, ?_, .inr ⟨_, _, hx.1, by simp [lits]; omega⟩⟩
    intro hpos
    rw [List.length_map, List.length_take] at hpos
    have hc0 := hcell 0 (by omega)
    obtain ⟨b, off, spot⟩ := x
    have hspot : spot = none := by simpa [Addr.add] using World.cell?_spot hc0
    subst hspot
    have hb : b < W.heap.size := World.block_lt_of_cell? W _ hc0
    refine ⟨b, off, rfl, hb, fun j u hu => ?_⟩
    rw [List.getElem?_map] at hu
    have hj : j < (zs.take len).length := by
      rcases Nat.lt_or_ge j (zs.take len).length with h | h
      · exact h
      · rw [List.getElem?_eq_none h] at hu; cases hu
    rw [List.getElem?_eq_getElem hj] at hu
    injection hu with hu
    have hj' : j < zs.length := by rw [List.length_take] at hj; omega
    have := hcell j hj'
    rw [Addr.add_lit] at this
    rw [this, ← hu, List.getElem_take, List.getD_eq_getElem?_getD, List.getElem?_eq_getElem hj']
    rfl

theorem pair_in {r : Reach} {b0 : Nat} {v : Value} {d : DataW H} {p : List MemPlace} (hv : Value.okWide Try.prog W r b0 24 v) (h : DataW.Trod enc Try.prog W 0 (fun _ => true) true 24 v d p) :
    ∃ (s : ByteArray) (z : Int), v = .agg #[.string s, .int .i64 z] ∧ s.size ≤ maxLen ∧ -9223372036854775808 ≤ z ∧ z ≤ 9223372036854775807 := by
  obtain ⟨v0, v1, y0, y1, n, rfl, _, _, h0, h1⟩ := open_agg2 Try.underlying24 (by kernel_rfl) (by kernel_rfl) hv h
  obtain ⟨s, e0, _, hs⟩ := DataW.trod_string Try.underlying9 h0
  obtain ⟨z, e1, _, hz⟩ := DataW.trod_int Try.underlying3 h1
  simp at e0 e1
  subst e0 e1
  have hlo : IntKind.i64.min = -9223372036854775808 := by decide
  have hhi : IntKind.i64.max = 9223372036854775807 := by decide
  simp [Lit.wf, hlo, hhi] at hz
  exact ⟨s, z, rfl, hs, by omega, by omega⟩
end
end Go.Proofs.Ytcpfhmipjpbhnaa
