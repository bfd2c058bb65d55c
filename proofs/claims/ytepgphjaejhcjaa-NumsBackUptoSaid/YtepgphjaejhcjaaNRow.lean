/-
  A SLICE OF INTEGERS THAT CAME IN; Put and the reference's Put of it.
-/
import Derived.Test.YtepgphjaejhcjaaNAwake
namespace Go.Proofs.Ytepgphjaejhcjaa
open Go.RowKit

/-- What a walk is told of a slice of integers that came in: nil, or a row of so many numbers that fit. -/
def IsRow (k : IntKind) (w : World) (a : Option Addr) (len cap : Nat) (zs : List Int) : Prop :=
  (a = none ∧ len = 0 ∧ cap = 0 ∧ zs = []) ∨
  ∃ x, a = some x ∧ len ≤ cap ∧ cap ≤ maxLen ∧ zs.length = cap ∧ (∀ i, i < zs.length → w.cell? (x.add i) = some (.int k (zs.getD i 0))) ∧ ∀ n ∈ zs, (Lit.int k n).wf = true

theorem wf_bounds {n : Int} (h : (Lit.int .i64 n).wf = true) : -9223372036854775808 ≤ n ∧ n ≤ 9223372036854775807 := by
  simpa [Lit.wf, IntKind.min, IntKind.max, IntKind.signed, IntKind.bits] using h
/-- The cells of a row that is not empty, wherever the world has gone on above it. -/
theorem row_cells {w W : World} {x : Addr} {len : Nat} {zs : List Int} (hbel : Below w.heap.size w W) (hl : len ≤ zs.length) (h0 : 0 < len)
    (hc : ∀ i, i < zs.length → w.cell? (x.add i) = some (.int .i64 (zs.getD i 0))) (hwf : ∀ n ∈ zs, (Lit.int .i64 n).wf = true) :
    x.block < w.heap.size ∧ x = ⟨x.block, x.off, none⟩ ∧ (∀ j, j < len → W.cell? ⟨x.block, x.off + j, none⟩ = some (.int .i64 ((zs.take len).getD j 0))) ∧
      (∀ j : Nat, -9223372036854775808 ≤ (zs.take len).getD j 0 ∧ (zs.take len).getD j 0 ≤ 9223372036854775807) := by
  have hc0 := hc 0 (by omega)
  obtain ⟨b, off, spot⟩ := x
  have hb : b < w.heap.size := World.block_lt_of_cell? w _ hc0
  have hspot : spot = none := by simpa [Addr.add] using World.cell?_spot hc0
  subst hspot
  refine ⟨hb, rfl, fun j hj => ?_, fun j => ?_⟩
  · have := hc j (by omega)
    rw [show (⟨b, off, none⟩ : Addr).add j = ⟨b, off + j, none⟩ from by simp [Addr.add]] at this
    rw [hbel.cell (by exact hb), this]
    congr 2
    simp only [List.getD_eq_getElem?_getD]
    rw [List.getElem?_take_of_lt hj]
  · by_cases hj : j < (zs.take len).length
    · have hm : (zs.take len).getD j 0 ∈ zs := by
        rw [List.getD_eq_getElem?_getD, List.getElem?_eq_getElem hj]
        exact List.mem_of_mem_take (List.getElem_mem hj)
      exact wf_bounds (hwf _ hm)
    · rw [List.getD_eq_getElem?_getD, List.getElem?_eq_none (by omega)]
      simp

theorem put_row {w W : World} {a : Option Addr} {len cap : Nat} {zs : List Int} (hbel : Below w.heap.size w W) (hr : IsRow .i64 w a len cap zs) (hl : len ≤ 1048576) :
    Calls Try.prog 12 #[.slice a len cap] W fun e w' => e = .returned (.string ⟨(Pl.encs (zs.take len)).toArray⟩) ∧ Below W.heap.size W w' := by
  by_cases h0 : len = 0
  · subst h0
    exact put_none a cap W
  · rcases hr with ⟨_, rfl, _⟩ | ⟨x, rfl, hlc, _, hz, hc, hwf⟩
    · exact absurd rfl h0
    · obtain ⟨hb, hx, hcell, hwf'⟩ := row_cells (len := len) hbel (by omega) (by omega) hc hwf
      rw [hx]
      exact put_any x.block x.off len cap (zs.take len) W (Nat.lt_of_lt_of_le hb hbel.size) (by rw [List.length_take]; omega) (by omega) hcell hwf'
theorem rput_row {w W : World} {a : Option Addr} {len cap : Nat} {zs : List Int} (hbel : Below w.heap.size w W) (hr : IsRow .i64 w a len cap zs) (hl : len ≤ 1048576) :
    Calls Try.prog 13 #[.slice a len cap] W fun e w' => e = .returned (.string ⟨(Pl.encs (zs.take len)).toArray⟩) ∧ Below W.heap.size W w' := by
  by_cases h0 : len = 0
  · subst h0
    exact rput_none a cap W
  · rcases hr with ⟨_, rfl, _⟩ | ⟨x, rfl, hlc, _, hz, hc, hwf⟩
    · exact absurd rfl h0
    · obtain ⟨hb, hx, hcell, hwf'⟩ := row_cells (len := len) hbel (by omega) (by omega) hc hwf
      rw [hx]
      exact rput_any x.block x.off len cap (zs.take len) W (Nat.lt_of_lt_of_le hb hbel.size) (by rw [List.length_take]; omega) (by omega) hcell hwf'
end Go.Proofs.Ytepgphjaejhcjaa
