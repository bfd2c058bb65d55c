/-
  PLAIN: things of api.Item by their code. (By wip/tools/gen_one.py.)
  PLAIN: things of api.Zone by their code. (By wip/tools/gen_one.py.)
  PLAIN: things of api.Bin by their code. (By wip/tools/gen_one.py.)
  (By wip/tools/merge.py.)
-/
import Derived.Test.YtjphjblcahadkaaGreatOBase
namespace Go.Proofs.YtjphjblcahadkaaGreat
set_option linter.unusedVariables false
open Go.RowKit
open Pl (firstG findG putG overG)

def ordItem (a b : List Value) : Int := Pl.cmp (codeOf a) (codeOf b)
theorem code_Item {x : List Value} (h : Fits kItem x) : ∃ r, x = .string (codeOf x) :: r := by
  match x, h with
  | v :: r, h => obtain ⟨d, rfl⟩ := h.1; exact ⟨r, rfl⟩
def zeroItem : List Value := [.string ⟨#[]⟩, .string ⟨#[]⟩, .int .i64 0, .string ⟨#[]⟩, .int .i64 0, .string ⟨#[]⟩, .int .i64 0, .string ⟨#[]⟩, .int .i64 0, .int .i64 0, .int .i64 0, .bool false, .bool false, .bool false]
def keyItem (s : ByteArray) : List Value := [.string s, .string ⟨#[]⟩, .int .i64 0, .string ⟨#[]⟩, .int .i64 0, .string ⟨#[]⟩, .int .i64 0, .string ⟨#[]⟩, .int .i64 0, .int .i64 0, .int .i64 0, .bool false, .bool false, .bool false]
theorem keyItem_fits (s : ByteArray) : Fits kItem (keyItem s) := ⟨⟨_, rfl⟩, ⟨_, rfl⟩, ⟨_, rfl⟩, ⟨_, rfl⟩, ⟨_, rfl⟩, ⟨_, rfl⟩, ⟨_, rfl⟩, ⟨_, rfl⟩, ⟨_, rfl⟩, ⟨_, rfl⟩, ⟨_, rfl⟩, ⟨_, rfl⟩, ⟨_, rfl⟩, ⟨_, rfl⟩, trivial⟩
theorem zeroItem_fits : Fits kItem zeroItem := keyItem_fits _
/-- Where an item of a code stands; the item. -/
def atItem (L : List (List Value)) (s : ByteArray) : Option Nat := findG ordItem L (keyItem s)
def gotItem (L : List (List Value)) (s : ByteArray) : List Value := match atItem L s with | some i => L.getD i zeroItem | none => zeroItem
theorem gotItem_fits {L : List (List Value)} (h : Things kItem L) (s : ByteArray) : Fits kItem (gotItem L s) := by
  unfold gotItem
  split
  · rename_i i hi
    have hl : i < L.length := Pl.firstG_lt hi
    rw [List.getD_eq_getElem?_getD, List.getElem?_eq_getElem hl]
    exact h _ (List.getElem_mem hl)
  · exact zeroItem_fits
theorem atItem_first (L : List (List Value)) (s : ByteArray) : atItem L s = firstG (fun e => Pl.eqv (codeOf e) s) L := by
  unfold atItem findG
  congr 1
  funext e
  exact Pl.cmp_zero _ _
theorem gotItem_none {L : List (List Value)} {s : ByteArray} (h : (atItem L s).isSome = false) : gotItem L s = zeroItem := by
  unfold gotItem
  cases hc : atItem L s with
  | none => rfl
  | some i => rw [hc] at h; cases h
theorem gotItem_code {L : List (List Value)} {s : ByteArray} (h : (atItem L s).isSome = true) : codeOf (gotItem L s) = s := by
  unfold gotItem
  cases hc : atItem L s with
  | none => rw [hc] at h; cases h
  | some i =>
    rw [atItem_first] at hc
    have hl := Pl.firstG_lt hc
    have ha := Pl.firstG_at hc hl
    simp only [List.getD_eq_getElem?_getD, List.getElem?_eq_getElem hl, Option.getD_some]
    exact (Pl.eqv_iff _ _).1 ha
end Go.Proofs.YtjphjblcahadkaaGreat

namespace Go.Proofs.YtjphjblcahadkaaGreat
set_option linter.unusedVariables false
open Go.RowKit
open Pl (firstG findG putG overG)

def ordZone (a b : List Value) : Int := Pl.cmp (codeOf a) (codeOf b)
theorem code_Zone {x : List Value} (h : Fits kZone x) : ∃ r, x = .string (codeOf x) :: r := by
  match x, h with
  | v :: r, h => obtain ⟨d, rfl⟩ := h.1; exact ⟨r, rfl⟩
def zeroZone : List Value := [.string ⟨#[]⟩, .string ⟨#[]⟩]
def keyZone (s : ByteArray) : List Value := [.string s, .string ⟨#[]⟩]
theorem keyZone_fits (s : ByteArray) : Fits kZone (keyZone s) := ⟨⟨_, rfl⟩, ⟨_, rfl⟩, trivial⟩
theorem zeroZone_fits : Fits kZone zeroZone := keyZone_fits _
/-- Where an item of a code stands; the item. -/
def atZone (L : List (List Value)) (s : ByteArray) : Option Nat := findG ordZone L (keyZone s)
def gotZone (L : List (List Value)) (s : ByteArray) : List Value := match atZone L s with | some i => L.getD i zeroZone | none => zeroZone
theorem gotZone_fits {L : List (List Value)} (h : Things kZone L) (s : ByteArray) : Fits kZone (gotZone L s) := by
  unfold gotZone
  split
  · rename_i i hi
    have hl : i < L.length := Pl.firstG_lt hi
    rw [List.getD_eq_getElem?_getD, List.getElem?_eq_getElem hl]
    exact h _ (List.getElem_mem hl)
  · exact zeroZone_fits
theorem atZone_first (L : List (List Value)) (s : ByteArray) : atZone L s = firstG (fun e => Pl.eqv (codeOf e) s) L := by
  unfold atZone findG
  congr 1
  funext e
  exact Pl.cmp_zero _ _
theorem gotZone_none {L : List (List Value)} {s : ByteArray} (h : (atZone L s).isSome = false) : gotZone L s = zeroZone := by
  unfold gotZone
  cases hc : atZone L s with
  | none => rfl
  | some i => rw [hc] at h; cases h
theorem gotZone_code {L : List (List Value)} {s : ByteArray} (h : (atZone L s).isSome = true) : codeOf (gotZone L s) = s := by
  unfold gotZone
  cases hc : atZone L s with
  | none => rw [hc] at h; cases h
  | some i =>
    rw [atZone_first] at hc
    have hl := Pl.firstG_lt hc
    have ha := Pl.firstG_at hc hl
    simp only [List.getD_eq_getElem?_getD, List.getElem?_eq_getElem hl, Option.getD_some]
    exact (Pl.eqv_iff _ _).1 ha
end Go.Proofs.YtjphjblcahadkaaGreat

namespace Go.Proofs.YtjphjblcahadkaaGreat
set_option linter.unusedVariables false
open Go.RowKit
open Pl (firstG findG putG overG)

def ordBin (a b : List Value) : Int := Pl.cmp (codeOf a) (codeOf b)
theorem code_Bin {x : List Value} (h : Fits kBin x) : ∃ r, x = .string (codeOf x) :: r := by
  match x, h with
  | v :: r, h => obtain ⟨d, rfl⟩ := h.1; exact ⟨r, rfl⟩
def zeroBin : List Value := [.string ⟨#[]⟩, .string ⟨#[]⟩, .int .i64 0, .int .i64 0, .int .i64 0, .int .i64 0, .int .i64 0, .bool false]
def keyBin (s : ByteArray) : List Value := [.string s, .string ⟨#[]⟩, .int .i64 0, .int .i64 0, .int .i64 0, .int .i64 0, .int .i64 0, .bool false]
theorem keyBin_fits (s : ByteArray) : Fits kBin (keyBin s) := ⟨⟨_, rfl⟩, ⟨_, rfl⟩, ⟨_, rfl⟩, ⟨_, rfl⟩, ⟨_, rfl⟩, ⟨_, rfl⟩, ⟨_, rfl⟩, ⟨_, rfl⟩, trivial⟩
theorem zeroBin_fits : Fits kBin zeroBin := keyBin_fits _
/-- Where an item of a code stands; the item. -/
def atBin (L : List (List Value)) (s : ByteArray) : Option Nat := findG ordBin L (keyBin s)
def gotBin (L : List (List Value)) (s : ByteArray) : List Value := match atBin L s with | some i => L.getD i zeroBin | none => zeroBin
theorem gotBin_fits {L : List (List Value)} (h : Things kBin L) (s : ByteArray) : Fits kBin (gotBin L s) := by
  unfold gotBin
  split
  · rename_i i hi
    have hl : i < L.length := Pl.firstG_lt hi
    rw [List.getD_eq_getElem?_getD, List.getElem?_eq_getElem hl]
    exact h _ (List.getElem_mem hl)
  · exact zeroBin_fits
theorem atBin_first (L : List (List Value)) (s : ByteArray) : atBin L s = firstG (fun e => Pl.eqv (codeOf e) s) L := by
  unfold atBin findG
  congr 1
  funext e
  exact Pl.cmp_zero _ _
theorem gotBin_none {L : List (List Value)} {s : ByteArray} (h : (atBin L s).isSome = false) : gotBin L s = zeroBin := by
  unfold gotBin
  cases hc : atBin L s with
  | none => rfl
  | some i => rw [hc] at h; cases h
theorem gotBin_code {L : List (List Value)} {s : ByteArray} (h : (atBin L s).isSome = true) : codeOf (gotBin L s) = s := by
  unfold gotBin
  cases hc : atBin L s with
  | none => rw [hc] at h; cases h
  | some i =>
    rw [atBin_first] at hc
    have hl := Pl.firstG_lt hc
    have ha := Pl.firstG_at hc hl
    simp only [List.getD_eq_getElem?_getD, List.getElem?_eq_getElem hl, Option.getD_some]
    exact (Pl.eqv_iff _ _).1 ha
end Go.Proofs.YtjphjblcahadkaaGreat
