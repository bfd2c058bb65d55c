/-
 PLAIN: orders by their code. (By wip/tools/port16b.py.)
-/
import Derived.Test.YtlkmccmbpnbgbaaGreatOPl
namespace Go.Proofs.YtlkmccmbpnbgbaaGreat
set_option linter.unusedVariables false
open Go.RowKit
open Pl (firstG firstG_none firstG_some findG overG putG dropG It)

def ordOrder (a b : List Value) : Int := Pl.cmp (codeOf a) (codeOf b)
theorem code_Order {x : List Value} (h : Fits kOrder x) : ∃ r, x = .string (codeOf x) :: r := by
 match x, h with
 | v :: r, h => obtain ⟨d, rfl⟩ := h.1; exact ⟨r, rfl⟩
def zeroOrder : List Value := [.string ⟨#[]⟩, .string ⟨#[]⟩, .string ⟨#[]⟩, .int .i64 0, .int .i64 0, .int .i64 0, .int .i64 0, .int .i64 0, .string ⟨#[]⟩, .int .i64 0, .int .i64 0, .int .i64 0, .int .i64 0, .int .i64 0, .string ⟨#[]⟩, .int .i64 0, .int .i64 0, .int .i64 0, .int .i64 0, .int .i64 0, .string ⟨#[]⟩, .int .i64 0, .int .i64 0, .int .i64 0, .int .i64 0, .int .i64 0, .string ⟨#[]⟩, .int .i64 0, .int .i64 0, .int .i64 0, .int .i64 0, .int .i64 0, .string ⟨#[]⟩, .int .i64 0, .int .i64 0, .int .i64 0, .int .i64 0, .int .i64 0, .string ⟨#[]⟩, .int .i64 0, .int .i64 0, .int .i64 0, .int .i64 0, .int .i64 0, .string ⟨#[]⟩, .int .i64 0, .int .i64 0, .int .i64 0, .int .i64 0, .int .i64 0]
def keyOrder (s : ByteArray) : List Value := [.string s, .string ⟨#[]⟩, .string ⟨#[]⟩, .int .i64 0, .int .i64 0, .int .i64 0, .int .i64 0, .int .i64 0, .string ⟨#[]⟩, .int .i64 0, .int .i64 0, .int .i64 0, .int .i64 0, .int .i64 0, .string ⟨#[]⟩, .int .i64 0, .int .i64 0, .int .i64 0, .int .i64 0, .int .i64 0, .string ⟨#[]⟩, .int .i64 0, .int .i64 0, .int .i64 0, .int .i64 0, .int .i64 0, .string ⟨#[]⟩, .int .i64 0, .int .i64 0, .int .i64 0, .int .i64 0, .int .i64 0, .string ⟨#[]⟩, .int .i64 0, .int .i64 0, .int .i64 0, .int .i64 0, .int .i64 0, .string ⟨#[]⟩, .int .i64 0, .int .i64 0, .int .i64 0, .int .i64 0, .int .i64 0, .string ⟨#[]⟩, .int .i64 0, .int .i64 0, .int .i64 0, .int .i64 0, .int .i64 0]
theorem keyOrder_fits (s : ByteArray) : Fits kOrder (keyOrder s) := ⟨⟨_, rfl⟩, ⟨_, rfl⟩, ⟨_, rfl⟩, ⟨_, rfl⟩, ⟨_, rfl⟩, ⟨_, rfl⟩, ⟨_, rfl⟩, ⟨_, rfl⟩, ⟨_, rfl⟩, ⟨_, rfl⟩, ⟨_, rfl⟩, ⟨_, rfl⟩, ⟨_, rfl⟩, ⟨_, rfl⟩, ⟨_, rfl⟩, ⟨_, rfl⟩, ⟨_, rfl⟩, ⟨_, rfl⟩, ⟨_, rfl⟩, ⟨_, rfl⟩, ⟨_, rfl⟩, ⟨_, rfl⟩, ⟨_, rfl⟩, ⟨_, rfl⟩, ⟨_, rfl⟩, ⟨_, rfl⟩, ⟨_, rfl⟩, ⟨_, rfl⟩, ⟨_, rfl⟩, ⟨_, rfl⟩, ⟨_, rfl⟩, ⟨_, rfl⟩, ⟨_, rfl⟩, ⟨_, rfl⟩, ⟨_, rfl⟩, ⟨_, rfl⟩, ⟨_, rfl⟩, ⟨_, rfl⟩, ⟨_, rfl⟩, ⟨_, rfl⟩, ⟨_, rfl⟩, ⟨_, rfl⟩, ⟨_, rfl⟩, ⟨_, rfl⟩, ⟨_, rfl⟩, ⟨_, rfl⟩, ⟨_, rfl⟩, ⟨_, rfl⟩, ⟨_, rfl⟩, ⟨_, rfl⟩, trivial⟩
theorem zeroOrder_fits : Fits kOrder zeroOrder := keyOrder_fits _
/-- Where an item of a code stands; the item. -/
def atOrder (L : List (List Value)) (s : ByteArray) : Option Nat := findG ordOrder L (keyOrder s)
def gotOrder (L : List (List Value)) (s : ByteArray) : List Value := match atOrder L s with | some i => L.getD i zeroOrder | none => zeroOrder
theorem gotOrder_fits {L : List (List Value)} (h : Things kOrder L) (s : ByteArray) : Fits kOrder (gotOrder L s) := by
 unfold gotOrder
 split
 · rename_i i hi
   have hl : i < L.length := Pl.firstG_lt hi
   rw [List.getD_eq_getElem?_getD, List.getElem?_eq_getElem hl]
   exact h _ (List.getElem_mem hl)
 · exact zeroOrder_fits
theorem atOrder_first (L : List (List Value)) (s : ByteArray) : atOrder L s = firstG (fun e => Pl.eqv (codeOf e) s) L := by
 unfold atOrder findG
 congr 1
 funext e
 exact Pl.cmp_zero _ _
theorem gotOrder_code {L : List (List Value)} {s : ByteArray} (h : (atOrder L s).isSome = true) : codeOf (gotOrder L s) = s := by
 unfold gotOrder
 cases hc : atOrder L s with
 | none => rw [hc] at h; cases h
 | some i =>
  rw [atOrder_first] at hc
  have hl := Pl.firstG_lt hc
  have ha := Pl.firstG_at hc hl
  simp only [List.getD_eq_getElem?_getD, List.getElem?_eq_getElem hl, Option.getD_some]
  exact (Pl.eqv_iff _ _).1 ha

def UpOrder (L : List (List Value)) : Prop := L.Pairwise fun a b => Pl.lt (codeOf a) (codeOf b) = true
theorem UpOrder.at {L : List (List Value)} (h : UpOrder L) {i j : Nat} (hi : i < L.length) (hj : j < L.length) (hij : i < j) : Pl.lt (codeOf L[i]) (codeOf L[j]) = true := List.pairwise_iff_getElem.1 h i j hi hj hij
end Go.Proofs.YtlkmccmbpnbgbaaGreat
