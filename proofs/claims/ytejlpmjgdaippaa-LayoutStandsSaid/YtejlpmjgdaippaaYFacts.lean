/-
  PLAIN: a bin that was added is found, in its zone's site; freezing it, and ending that.
-/
import Derived.Test.YtejlpmjgdaippaaOBinUp
import Derived.Test.YtejlpmjgdaippaaOZoneUp
import Derived.Test.YtejlpmjgdaippaaYPl
namespace Go.Proofs.Ytejlpmjgdaippaa
set_option linter.unusedVariables false
open Go.RowKit
open Pl (firstG findG putG)

/-- What it says that a bin was taken. -/
structure TookB (LZ LB : List (List Value)) (x : Bn) : Prop where
  name : Pl.nmE x.code = 0
  zone : (atZone LZ x.zone).isSome = true
  kind : 1 ≤ x.kind ∧ x.kind ≤ 4
  out : x.out = false
  frz : x.frz = false
  new : atBin LB x.code = none
  len : LB.length < 64
theorem tookB_of {LZ LB : List (List Value)} {x : Bn} (h : addBE LZ LB x = 0) : TookB LZ LB x := by
  unfold addBE at h
  by_cases h1 : Pl.nmE x.code ≠ 0
  · rw [if_pos h1] at h; exact absurd h h1
  · rw [if_neg h1] at h
    by_cases h2 : (atZone LZ x.zone).isSome = false
    · rw [if_pos h2] at h; cases h
    · rw [if_neg h2] at h
      by_cases h3 : x.kind < 1 ∨ 4 < x.kind
      · rw [if_pos h3] at h; cases h
      · rw [if_neg h3] at h
        by_cases h4 : x.out = true
        · rw [if_pos h4] at h; cases h
        · rw [if_neg h4] at h
          by_cases h5 : x.frz = true
          · rw [if_pos h5] at h; cases h
          · rw [if_neg h5] at h
            by_cases h6 : (atBin LB x.code).isSome = true
            · rw [if_pos h6] at h; cases h
            · rw [if_neg h6] at h
              by_cases h7 : 64 ≤ LB.length
              · rw [if_pos h7] at h; cases h
              · refine ⟨by simpa using h1, by cases hq : (atZone LZ x.zone).isSome with | true => rfl | false => exact absurd hq h2, by omega, by simpa using h4, by simpa using h5, ?_, by omega⟩
                cases hc : atBin LB x.code with
                | none => rfl
                | some i => rw [hc] at h6; exact absurd rfl h6
/-- The list with the bin; with the bin frozen. -/
theorem stands {LZ LB : List (List Value)} {x : Bn} (h : addBE LZ LB x = 0) :
    (atBin (putG ordBin LB x.cells) x.code).isSome = true ∧ gotBin (putG ordBin LB x.cells) x.code = x.cells ∧ (putG ordBin LB x.cells).length = LB.length + 1 ∧ siteT LZ (putG ordBin LB x.cells) x.code = siteZ (gotZone LZ x.zone) ∧
    frE (putG ordBin LB x.cells) x.code true = 0 ∧ (atBin (frL (putG ordBin LB x.cells) x.code true) x.code).isSome = true ∧ gotBin (frL (putG ordBin LB x.cells) x.code true) x.code = (x.set true).cells ∧
    frE (frL (putG ordBin LB x.cells) x.code true) x.code false = 0 ∧ frL (frL (putG ordBin LB x.cells) x.code true) x.code false = putG ordBin LB x.cells := by
  have tk := tookB_of h
  obtain ⟨a1, a2⟩ := gotBin_put LB x.cells
  rw [codeOf_bn] at a1 a2
  have a3 : (putG ordBin LB x.cells).length = LB.length + 1 := put_lenBin (by rw [codeOf_bn]; exact tk.new)
  have hl : frL (putG ordBin LB x.cells) x.code true = putG ordBin (putG ordBin LB x.cells) (x.set true).cells := by unfold frL; rw [a2]; rfl
  obtain ⟨b1, b2⟩ := gotBin_put (putG ordBin LB x.cells) (x.set true).cells
  rw [codeOf_bn, show (x.set true).code = x.code from rfl] at b1 b2
  have hb := put_backBin (L := putG ordBin LB x.cells) (x := x.cells) (y := (x.set true).cells) (by rw [codeOf_bn]; exact a1) (by rw [codeOf_bn]; exact a2) rfl
  refine ⟨a1, a2, a3, ?_, ?_, by rw [hl]; exact b1, by rw [hl]; exact b2, ?_, ?_⟩
  · unfold siteT; rw [if_pos a1, a2]; rfl
  · unfold frE; rw [a1, a2, bnOf_cells, tk.frz]; rfl
  · unfold frE; rw [hl, b1, b2, bnOf_cells]; rfl
  · rw [hl]
    unfold frL
    rw [b2, bnOf_cells, show ((x.set true).set false) = x from by unfold Bn.set; cases x; simp only [Bn.mk.injEq, true_and]; exact tk.frz.symm]
    exact hb
end Go.Proofs.Ytejlpmjgdaippaa
