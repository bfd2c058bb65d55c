/-
  PLAIN: lots, quants; what fits; when a lot ends.
-/
import Derived.Test.YthliomckpfeekaaIFind
namespace Go.Proofs.Ythliomckpfeekaa
set_option linter.unusedVariables false
open Go.RowKit
open Pl (firstG findG putG)

def itemL : List Value → ByteArray
  | .string s :: _ => s
  | _ => ⟨#[]⟩
def codeL : List Value → ByteArray
  | _ :: .string s :: _ => s
  | _ => ⟨#[]⟩
def expL : List Value → Int
  | _ :: _ :: .int _ z :: _ => z
  | _ => 0
theorem lot_cells {x : List Value} (h : Fits kLot x) : x = [.string (itemL x), .string (codeL x), .int .i64 (expL x)] := by
  match x, h with
  | [c0, c1, c2], h =>
    obtain ⟨⟨a0, rfl⟩, ⟨a1, rfl⟩, ⟨a2, rfl⟩, _⟩ := h
    rfl
theorem lot_fits (a c : ByteArray) (z : Int) : Fits kLot [.string a, .string c, .int .i64 z] := ⟨⟨_, rfl⟩, ⟨_, rfl⟩, ⟨_, rfl⟩, trivial⟩
/-- The order of lots: by item, then by code. -/
def ordL (x y : List Value) : Int := if Pl.cmp (itemL x) (itemL y) = 0 then Pl.cmp (codeL x) (codeL y) else Pl.cmp (itemL x) (itemL y)
def keyL (a c : ByteArray) : List Value := [.string a, .string c, .int .i64 0]
def zeroL : List Value := [.string ⟨#[]⟩, .string ⟨#[]⟩, .int .i64 0]
theorem keyL_fits (a c : ByteArray) : Fits kLot (keyL a c) := lot_fits a c 0
theorem zeroL_fits : Fits kLot zeroL := keyL_fits _ _
def atL (L : List (List Value)) (a c : ByteArray) : Option Nat := findG ordL L (keyL a c)
def gotL (L : List (List Value)) (a c : ByteArray) : List Value := match atL L a c with | some i => L.getD i zeroL | none => zeroL
theorem gotL_fits {L : List (List Value)} (h : Things kLot L) (a c : ByteArray) : Fits kLot (gotL L a c) := by
  unfold gotL
  cases hf : atL L a c with
  | none => exact zeroL_fits
  | some i =>
    have hi : i < L.length := Pl.firstG_lt hf
    simp only [List.getD_eq_getElem?_getD, List.getElem?_eq_getElem hi, Option.getD_some]
    exact h _ (List.getElem_mem hi)
theorem cmp_eq_zero (a b : ByteArray) : Pl.cmp a b = 0 ↔ Pl.eqv a b = true := by
  have := Pl.cmp_zero a b
  constructor
  · intro h; rw [h] at this; exact this.symm
  · intro h; rw [h] at this; simpa using this
theorem ordL_zero (x y : List Value) : (ordL x y == 0) = (Pl.eqv (itemL x) (itemL y) && Pl.eqv (codeL x) (codeL y)) := by
  unfold ordL
  by_cases h : Pl.cmp (itemL x) (itemL y) = 0
  · rw [if_pos h, (cmp_eq_zero _ _).1 h, Bool.true_and]; exact Pl.cmp_zero _ _
  · rw [if_neg h]
    have : Pl.eqv (itemL x) (itemL y) = false := by
      cases hq : Pl.eqv (itemL x) (itemL y) with
      | false => rfl
      | true => exact absurd ((cmp_eq_zero _ _).2 hq) h
    rw [this, Bool.false_and]
    simpa using h
theorem atL_first (L : List (List Value)) (a c : ByteArray) : atL L a c = firstG (fun e => Pl.eqv (itemL e) a && Pl.eqv (codeL e) c) L := by
  unfold atL findG
  congr 1
  funext e
  exact ordL_zero e (keyL a c)
/-- Does an item go by lots, by pieces? -/
def lotsI : List Value → Bool
  | [_, _, _, _, _, _, _, _, _, _, _, .bool b, _, _] => b
  | _ => false
def serI : List Value → Bool
  | [_, _, _, _, _, _, _, _, _, _, _, _, .bool b, _] => b
  | _ => false
/-- A quant's item, lot, number. -/
def itemQ : List Value → ByteArray
  | _ :: .string s :: _ => s
  | _ => ⟨#[]⟩
def lotQ : List Value → ByteArray
  | _ :: _ :: .string s :: _ => s
  | _ => ⟨#[]⟩
def qtyQ : List Value → Int
  | [_, _, _, _, .int _ z, _] => z
  | _ => 0
theorem quant_cells {x : List Value} (h : Fits kQuant x) : ∃ b s t, x = [.string b, .string (itemQ x), .string (lotQ x), .int .i64 s, .int .i64 (qtyQ x), .int .i64 t] := by
  match x, h with
  | [c0, c1, c2, c3, c4, c5], h =>
    obtain ⟨⟨a0, rfl⟩, ⟨a1, rfl⟩, ⟨a2, rfl⟩, ⟨a3, rfl⟩, ⟨a4, rfl⟩, ⟨a5, rfl⟩, _⟩ := h
    exact ⟨_, _, _, rfl⟩
/-- Is it a quant of that item and lot? -/
def ofQ (a c : ByteArray) (q : List Value) : Bool := Pl.eqv (itemQ q) a && Pl.eqv (lotQ q) c
/-- How many there are, on top of n. -/
def sumQ (a c : ByteArray) (Q : List (List Value)) (n : Int) : Int := Q.foldl (fun n q => if ofQ a c q = true then wrap64 (n + qtyQ q) else n) n
def totQ (a c : ByteArray) : List (List Value) → Int
  | [] => 0
  | q :: Q => (if ofQ a c q = true then qtyQ q else 0) + totQ a c Q
theorem wrap_add (x y : Int) : wrap64 (wrap64 x + y) = wrap64 (x + y) := by
  unfold wrap64
  omega
theorem wrap_id {z : Int} (h : -9223372036854775808 ≤ z ∧ z ≤ 9223372036854775807) : wrap64 z = z := IntWalk.wrap64_in z ⟨by omega, by omega⟩
theorem sumQ_tot (a c : ByteArray) : ∀ (Q : List (List Value)) (n : Int), (-9223372036854775808 ≤ n ∧ n ≤ 9223372036854775807) → sumQ a c Q n = wrap64 (n + totQ a c Q)
  | [], n, h => by show n = wrap64 (n + 0); rw [Int.add_zero, wrap_id h]
  | q :: Q, n, h => by
    show sumQ a c Q (if ofQ a c q = true then wrap64 (n + qtyQ q) else n) = wrap64 (n + ((if ofQ a c q = true then qtyQ q else 0) + totQ a c Q))
    by_cases hq : ofQ a c q = true
    · rw [if_pos hq, if_pos hq, sumQ_tot a c Q _ (by unfold wrap64; omega), wrap_add]
      congr 1; omega
    · rw [if_neg hq, if_neg hq, sumQ_tot a c Q n h]
      congr 1; omega
theorem sumQ_from (a c : ByteArray) (Q : List (List Value)) (n : Int) (h : -9223372036854775808 ≤ n ∧ n ≤ 9223372036854775807) : wrap64 (n + sumQ a c Q 0) = sumQ a c Q n := by
  rw [sumQ_tot a c Q n h, sumQ_tot a c Q 0 (by omega), Int.add_comm, wrap_add]
  congr 1; omega
theorem sumQ_snoc (a c : ByteArray) (Q : List (List Value)) (k : Nat) (hk : k < Q.length) (n : Int) : sumQ a c (Q.take (k + 1)) n = if ofQ a c Q[k] = true then wrap64 (sumQ a c (Q.take k) n + qtyQ Q[k]) else sumQ a c (Q.take k) n := by
  unfold sumQ
  rw [List.take_succ_eq_append_getElem hk, List.foldl_append]; rfl
/-- May so many of an item come in in a lot? -/
def fitE (LI LL LQ : List (List Value)) (a c : ByteArray) (n : Int) : Nat :=
  if (atI LI a).isSome = false then 12
  else if (lotsI (gotI LI a) && !(atL LL a c).isSome || !lotsI (gotI LI a) && decide (c.size ≠ 0)) = true then 21
  else if (serI (gotI LI a) && decide (1 < sumQ a c LQ n)) = true then 22 else 0
/-- The last day of a lot. -/
def dayZ (LL : List (List Value)) (a c : ByteArray) : Int := if expL (gotL LL a c) = 0 then 100001 else expL (gotL LL a c)
/-- What is wrong with a lot. -/
def addLE (LI LL : List (List Value)) (x : List Value) : Nat :=
  if (atI LI (itemL x)).isSome = false then 12
  else if lotsI (gotI LI (itemL x)) = false then 21
  else if Pl.nmE (codeL x) ≠ 0 then Pl.nmE (codeL x)
  else if expL x < 0 ∨ 100000 < expL x then 5
  else if (atL LL (itemL x) (codeL x)).isSome = true then 11
  else if 128 ≤ LL.length then 14 else 0
end Go.Proofs.Ythliomckpfeekaa
