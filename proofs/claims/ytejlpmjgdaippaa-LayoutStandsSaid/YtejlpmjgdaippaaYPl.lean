/-
  PLAIN: zones, bins; what is wrong with one; of which site a bin is; freezing.
-/
import Derived.Test.YtejlpmjgdaippaaOZonePl
import Derived.Test.YtejlpmjgdaippaaOBinPl
namespace Go.Proofs.Ytejlpmjgdaippaa
set_option linter.unusedVariables false
open Go.RowKit
open Pl (firstG findG putG)

def siteZ : List Value → ByteArray
  | _ :: .string s :: _ => s
  | _ => ⟨#[]⟩
theorem zone_cells {x : List Value} (h : Fits kZone x) : x = [.string (codeOf x), .string (siteZ x)] := by
  match x, h with
  | [c0, c1], h =>
    obtain ⟨⟨a0, rfl⟩, ⟨a1, rfl⟩, _⟩ := h
    rfl
theorem zone_fits (a c : ByteArray) : Fits kZone [.string a, .string c] := ⟨⟨_, rfl⟩, ⟨_, rfl⟩, trivial⟩
/-- A bin. -/
structure Bn where
  code : ByteArray
  zone : ByteArray
  kind : Int
  aisle : Int
  place : Int
  vol : Int
  wei : Int
  frz : Bool
def Bn.cells (x : Bn) : List Value := [.string x.code, .string x.zone, .int .i64 x.kind, .int .i64 x.aisle, .int .i64 x.place, .int .i64 x.vol, .int .i64 x.wei, .bool x.frz]
def bnOf : List Value → Bn
  | [.string a, .string b, .int _ k, .int _ i, .int _ p, .int _ v, .int _ u, .bool f] => ⟨a, b, k, i, p, v, u, f⟩
  | _ => ⟨⟨#[]⟩, ⟨#[]⟩, 0, 0, 0, 0, 0, false⟩
theorem bn_cells {x : List Value} (h : Fits kBin x) : x = (bnOf x).cells := by
  match x, h with
  | [c0, c1, c2, c3, c4, c5, c6, c7], h =>
    obtain ⟨⟨a0, rfl⟩, ⟨a1, rfl⟩, ⟨a2, rfl⟩, ⟨a3, rfl⟩, ⟨a4, rfl⟩, ⟨a5, rfl⟩, ⟨a6, rfl⟩, ⟨a7, rfl⟩, _⟩ := h
    rfl
theorem Bn.fits (x : Bn) : Fits kBin x.cells := ⟨⟨_, rfl⟩, ⟨_, rfl⟩, ⟨_, rfl⟩, ⟨_, rfl⟩, ⟨_, rfl⟩, ⟨_, rfl⟩, ⟨_, rfl⟩, ⟨_, rfl⟩, trivial⟩
theorem bnOf_cells (x : Bn) : bnOf x.cells = x := rfl
theorem codeOf_bn (x : Bn) : codeOf x.cells = x.code := rfl
/-- What is wrong with a zone. -/
def addZE (LZ : List (List Value)) (x : List Value) : Nat :=
  if Pl.nmE (codeOf x) ≠ 0 then Pl.nmE (codeOf x)
  else if Pl.nmE (siteZ x) ≠ 0 then Pl.nmE (siteZ x)
  else if (atZone LZ (codeOf x)).isSome = true then 11
  else if 16 ≤ LZ.length then 14 else 0
/-- Is a number out of its range? -/
def Bn.out (x : Bn) : Bool := decide (x.aisle < 0) || decide (999 < x.aisle) || decide (x.place < 0) || decide (999 < x.place) || decide (x.vol < 0) || decide (1000000000000 < x.vol) || decide (x.wei < 0) || decide (1000000000000 < x.wei)
/-- What is wrong with a bin. -/
def addBE (LZ LB : List (List Value)) (x : Bn) : Nat :=
  if Pl.nmE x.code ≠ 0 then Pl.nmE x.code
  else if (atZone LZ x.zone).isSome = false then 12
  else if x.kind < 1 ∨ 4 < x.kind then 23
  else if x.out = true then 5
  else if x.frz = true then 13
  else if (atBin LB x.code).isSome = true then 11
  else if 64 ≤ LB.length then 15 else 0
/-- Of which site a bin is. -/
def siteT (LZ LB : List (List Value)) (s : ByteArray) : ByteArray := if (atBin LB s).isSome = true then siteZ (gotZone LZ (bnOf (gotBin LB s)).zone) else ⟨#[]⟩
/-- What is wrong with freezing. -/
def frE (LB : List (List Value)) (s : ByteArray) (on : Bool) : Nat :=
  if (atBin LB s).isSome = false then 12
  else if (on && (bnOf (gotBin LB s)).frz) = true then 25
  else if (!on && !(bnOf (gotBin LB s)).frz) = true then 13 else 0
def Bn.set (x : Bn) (on : Bool) : Bn := ⟨x.code, x.zone, x.kind, x.aisle, x.place, x.vol, x.wei, on⟩
def frL (LB : List (List Value)) (s : ByteArray) (on : Bool) : List (List Value) := putG ordBin LB ((bnOf (gotBin LB s)).set on).cells
end Go.Proofs.Ytejlpmjgdaippaa
