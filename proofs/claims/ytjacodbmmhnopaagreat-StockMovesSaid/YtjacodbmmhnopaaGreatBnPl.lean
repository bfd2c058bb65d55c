/-
  PLAIN: a bin, a quant, by their fields.
-/
import Derived.Test.YtjacodbmmhnopaaGreatOBin
import Derived.Test.YtjacodbmmhnopaaGreatHLents
namespace Go.Proofs.YtjacodbmmhnopaaGreat
set_option linter.unusedVariables false
open Go.RowKit
open Pl (firstG findG putG)

/-- A bin. -/
structure Bn where
  code : ByteArray
  zone : ByteArray
  kind : Int
  aisle : Int
  place : Int
  vol : Int
  wei : Int
  frz : Bool
def Bn.cells (x : Bn) : List Value := [.string x.code, .string x.zone, .int .i64 x.kind, .int .i64 x.aisle, .int .i64 x.place, .int .i64 x.vol, .int .i64 x.wei, .bool x.frz]
def bnOf : List Value → Bn
  | [.string a, .string b, .int _ k, .int _ i, .int _ p, .int _ v, .int _ u, .bool f] => ⟨a, b, k, i, p, v, u, f⟩
  | _ => ⟨⟨#[]⟩, ⟨#[]⟩, 0, 0, 0, 0, 0, false⟩
theorem bn_cells {x : List Value} (h : Fits kBin x) : x = (bnOf x).cells := by
  match x, h with
  | [c0, c1, c2, c3, c4, c5, c6, c7], h =>
    obtain ⟨⟨a0, rfl⟩, ⟨a1, rfl⟩, ⟨a2, rfl⟩, ⟨a3, rfl⟩, ⟨a4, rfl⟩, ⟨a5, rfl⟩, ⟨a6, rfl⟩, ⟨a7, rfl⟩, _⟩ := h
    rfl
theorem Bn.fits (x : Bn) : Fits kBin x.cells := ⟨⟨_, rfl⟩, ⟨_, rfl⟩, ⟨_, rfl⟩, ⟨_, rfl⟩, ⟨_, rfl⟩, ⟨_, rfl⟩, ⟨_, rfl⟩, ⟨_, rfl⟩, trivial⟩
theorem bnOf_cells (x : Bn) : bnOf x.cells = x := rfl
theorem codeOf_bn (x : Bn) : codeOf x.cells = x.code := rfl
theorem bin_eight {h : Hs} {L : Nat → List (List Value)} {w : World} (hh : HT h L w) (s : ByteArray) : ∃ x : Bn, gotBin (L 3) s = x.cells ∧ bnOf (gotBin (L 3) s) = x :=
  ⟨_, bn_cells (gotBin_fits (hh 3 (by decide)).2.2.1 s), rfl⟩
/-- A quant. -/
structure Qn where
  bin : ByteArray
  item : ByteArray
  lot : ByteArray
  st : Int
  qty : Int
  held : Int
def Qn.cells (x : Qn) : List Value := [.string x.bin, .string x.item, .string x.lot, .int .i64 x.st, .int .i64 x.qty, .int .i64 x.held]
def qnOf : List Value → Qn
  | [.string a, .string b, .string c, .int _ s, .int _ q, .int _ l] => ⟨a, b, c, s, q, l⟩
  | _ => ⟨⟨#[]⟩, ⟨#[]⟩, ⟨#[]⟩, 0, 0, 0⟩
theorem qn_cells {x : List Value} (h : Fits kQuant x) : x = (qnOf x).cells := by
  match x, h with
  | [c0, c1, c2, c3, c4, c5], h =>
    obtain ⟨⟨a0, rfl⟩, ⟨a1, rfl⟩, ⟨a2, rfl⟩, ⟨a3, rfl⟩, ⟨a4, rfl⟩, ⟨a5, rfl⟩, _⟩ := h
    rfl
theorem Qn.fits (x : Qn) : Fits kQuant x.cells := ⟨⟨_, rfl⟩, ⟨_, rfl⟩, ⟨_, rfl⟩, ⟨_, rfl⟩, ⟨_, rfl⟩, ⟨_, rfl⟩, trivial⟩
theorem qnOf_cells (x : Qn) : qnOf x.cells = x := rfl
end Go.Proofs.YtjacodbmmhnopaaGreat
