/-
  PLAIN: things of api.Zone by their code. (By wip/tools/gen_one.py.)
-/
import Derived.Test.YtejlpmjgdaippaaOBase
namespace Go.Proofs.Ytejlpmjgdaippaa
set_option linter.unusedVariables false
open Go.RowKit
open Pl (firstG findG putG overG)

def ordZone (a b : List Value) : Int := Pl.cmp (codeOf a) (codeOf b)
theorem code_Zone {x : List Value} (h : Fits kZone x) : ∃ r, x = .string (codeOf x) :: r := by
  match x, h with
  | v :: r, h => obtain ⟨d, rfl⟩ := h.1; exact ⟨r, rfl⟩
def zeroZone : List Value := [.string ⟨#[]⟩, .string ⟨#[]⟩]
def keyZone (s : ByteArray) : List Value := [.string s, .string ⟨#[]⟩]
theorem keyZone_fits (s : ByteArray) : Fits kZone (keyZone s) := ⟨⟨_, rfl⟩, ⟨_, rfl⟩, trivial⟩
theorem zeroZone_fits : Fits kZone zeroZone := keyZone_fits _
/-- Where an item of a code stands; the item. -/
def atZone (L : List (List Value)) (s : ByteArray) : Option Nat := findG ordZone L (keyZone s)
def gotZone (L : List (List Value)) (s : ByteArray) : List Value := match atZone L s with | some i => L.getD i zeroZone | none => zeroZone
theorem gotZone_fits {L : List (List Value)} (h : Things kZone L) (s : ByteArray) : Fits kZone (gotZone L s) := by
  unfold gotZone
  split
  · rename_i i hi
    have hl : i < L.length := Pl.firstG_lt hi
    rw [List.getD_eq_getElem?_getD, List.getElem?_eq_getElem hl]
    exact h _ (List.getElem_mem hl)
  · exact zeroZone_fits
theorem atZone_first (L : List (List Value)) (s : ByteArray) : atZone L s = firstG (fun e => Pl.eqv (codeOf e) s) L := by
  unfold atZone findG
  congr 1
  funext e
  exact Pl.cmp_zero _ _
theorem gotZone_none {L : List (List Value)} {s : ByteArray} (h : (atZone L s).isSome = false) : gotZone L s = zeroZone := by
  unfold gotZone
  cases hc : atZone L s with
  | none => rfl
  | some i => rw [hc] at h; cases h
theorem gotZone_code {L : List (List Value)} {s : ByteArray} (h : (atZone L s).isSome = true) : codeOf (gotZone L s) = s := by
  unfold gotZone
  cases hc : atZone L s with
  | none => rw [hc] at h; cases h
  | some i =>
    rw [atZone_first] at hc
    have hl := Pl.firstG_lt hc
    have ha := Pl.firstG_at hc hl
    simp only [List.getD_eq_getElem?_getD, List.getElem?_eq_getElem hl, Option.getD_some]
    exact (Pl.eqv_iff _ _).1 ha
end Go.Proofs.Ytejlpmjgdaippaa
