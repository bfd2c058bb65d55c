/-
  PLAIN: a bin, a quant, by their fields.
  PLAIN: what stands in a bin; what fits; which bins are overfull; other measures.
  (By wip/tools/merge.py.)
-/
import Derived.Test.YtjphjblcahadkaaGreatHHouse
import Derived.Test.YtjphjblcahadkaaGreatOPl
namespace Go.Proofs.YtjphjblcahadkaaGreat
set_option linter.unusedVariables false
open Go.RowKit
open Pl (firstG findG putG)

/-- A bin. -/
structure Bn where
  code : ByteArray
  zone : ByteArray
  kind : Int
  aisle : Int
  place : Int
  vol : Int
  wei : Int
  frz : Bool
def Bn.cells (x : Bn) : List Value := [.string x.code, .string x.zone, .int .i64 x.kind, .int .i64 x.aisle, .int .i64 x.place, .int .i64 x.vol, .int .i64 x.wei, .bool x.frz]
def bnOf : List Value → Bn
  | [.string a, .string b, .int _ k, .int _ i, .int _ p, .int _ v, .int _ u, .bool f] => ⟨a, b, k, i, p, v, u, f⟩
  | _ => ⟨⟨#[]⟩, ⟨#[]⟩, 0, 0, 0, 0, 0, false⟩
theorem bn_cells {x : List Value} (h : Fits kBin x) : x = (bnOf x).cells := by
  match x, h with
  | [c0, c1, c2, c3, c4, c5, c6, c7], h =>
    obtain ⟨⟨a0, rfl⟩, ⟨a1, rfl⟩, ⟨a2, rfl⟩, ⟨a3, rfl⟩, ⟨a4, rfl⟩, ⟨a5, rfl⟩, ⟨a6, rfl⟩, ⟨a7, rfl⟩, _⟩ := h
    rfl
theorem Bn.fits (x : Bn) : Fits kBin x.cells := ⟨⟨_, rfl⟩, ⟨_, rfl⟩, ⟨_, rfl⟩, ⟨_, rfl⟩, ⟨_, rfl⟩, ⟨_, rfl⟩, ⟨_, rfl⟩, ⟨_, rfl⟩, trivial⟩
theorem bnOf_cells (x : Bn) : bnOf x.cells = x := rfl
theorem codeOf_bn (x : Bn) : codeOf x.cells = x.code := rfl
theorem bin_eight {h : Hs} {L : Nat → List (List Value)} {w : World} (hh : HT h L w) (s : ByteArray) : ∃ x : Bn, gotBin (L 3) s = x.cells ∧ bnOf (gotBin (L 3) s) = x :=
  ⟨_, bn_cells (gotBin_fits (hh 3 (by decide)).2.2.1 s), rfl⟩
/-- A quant. -/
structure Qn where
  bin : ByteArray
  item : ByteArray
  lot : ByteArray
  st : Int
  qty : Int
  held : Int
def Qn.cells (x : Qn) : List Value := [.string x.bin, .string x.item, .string x.lot, .int .i64 x.st, .int .i64 x.qty, .int .i64 x.held]
def qnOf : List Value → Qn
  | [.string a, .string b, .string c, .int _ s, .int _ q, .int _ l] => ⟨a, b, c, s, q, l⟩
  | _ => ⟨⟨#[]⟩, ⟨#[]⟩, ⟨#[]⟩, 0, 0, 0⟩
theorem qn_cells {x : List Value} (h : Fits kQuant x) : x = (qnOf x).cells := by
  match x, h with
  | [c0, c1, c2, c3, c4, c5], h =>
    obtain ⟨⟨a0, rfl⟩, ⟨a1, rfl⟩, ⟨a2, rfl⟩, ⟨a3, rfl⟩, ⟨a4, rfl⟩, ⟨a5, rfl⟩, _⟩ := h
    rfl
theorem Qn.fits (x : Qn) : Fits kQuant x.cells := ⟨⟨_, rfl⟩, ⟨_, rfl⟩, ⟨_, rfl⟩, ⟨_, rfl⟩, ⟨_, rfl⟩, ⟨_, rfl⟩, trivial⟩
theorem qnOf_cells (x : Qn) : qnOf x.cells = x := rfl
end Go.Proofs.YtjphjblcahadkaaGreat

namespace Go.Proofs.YtjphjblcahadkaaGreat
set_option linter.unusedVariables false
open Go.RowKit
open Pl (firstG findG putG It)

/-- An item by its fields. -/
def itOf : List Value → It
  | [.string c, .string n0, .int _ f0, .string n1, .int _ f1, .string n2, .int _ f2, .string n3, .int _ f3, .int _ v, .int _ w, .bool l, .bool s, .bool k] => ⟨c, Pl.at4 n0 n1 n2 n3, Pl.at4 f0 f1 f2 f3, v, w, l, s, k⟩
  | _ => ⟨⟨#[]⟩, fun _ => ⟨#[]⟩, fun _ => 0, 0, 0, false, false, false⟩
theorem it_cells {x : List Value} (h : Fits kItem x) : x = (itOf x).cells := by
  match x, h with
  | [c0, c1, c2, c3, c4, c5, c6, c7, c8, c9, c10, c11, c12, c13], h =>
    obtain ⟨⟨a0, rfl⟩, ⟨a1, rfl⟩, ⟨a2, rfl⟩, ⟨a3, rfl⟩, ⟨a4, rfl⟩, ⟨a5, rfl⟩, ⟨a6, rfl⟩, ⟨a7, rfl⟩, ⟨a8, rfl⟩, ⟨a9, rfl⟩, ⟨a10, rfl⟩, ⟨a11, rfl⟩, ⟨a12, rfl⟩, ⟨a13, rfl⟩, _⟩ := h
    rfl
theorem item_it {h : Hs} {L : Nat → List (List Value)} {w : World} (hh : HT h L w) (s : ByteArray) : ∃ x : It, gotItem (L 0) s = x.cells ∧ itOf (gotItem (L 0) s) = x :=
  ⟨_, it_cells (gotItem_fits (hh 0 (by decide)).2.2.1 s), rfl⟩
/-- One quant more. -/
def loadQ (LI : List (List Value)) (s : ByteArray) (p : Int × Int) (q : List Value) : Int × Int :=
  if (Pl.eqv (qnOf q).bin s && (atItem LI (qnOf q).item).isSome) = true then (wrap64 (p.1 + wrap64 ((qnOf q).qty * (itOf (gotItem LI (qnOf q).item)).vol)), wrap64 (p.2 + wrap64 ((qnOf q).qty * (itOf (gotItem LI (qnOf q).item)).wei))) else p
/-- What stands in a bin: volume and weight. -/
def loadP (LI LQ : List (List Value)) (s : ByteArray) : Int × Int := LQ.foldl (loadQ LI s) (0, 0)
theorem loadP_snoc (LI LQ : List (List Value)) (s : ByteArray) (k : Nat) (hk : k < LQ.length) : loadP LI (LQ.take (k + 1)) s = loadQ LI s (loadP LI (LQ.take k) s) LQ[k] := by
  unfold loadP
  rw [List.take_succ_eq_append_getElem hk, List.foldl_append]; rfl
/-- Do so many of an item more go into a bin? -/
def roomE (LI LB LQ : List (List Value)) (s t : ByteArray) (n : Int) : Nat :=
  if ((atBin LB s).isSome && (atItem LI t).isSome) = false then 12
  else if (bnOf (gotBin LB s)).vol < wrap64 ((loadP LI LQ s).1 + wrap64 (n * (itOf (gotItem LI t)).vol)) ∨ (bnOf (gotBin LB s)).wei < wrap64 ((loadP LI LQ s).2 + wrap64 (n * (itOf (gotItem LI t)).wei)) then 26 else 0
/-- Is a bin overfull? -/
def fullB (LI LQ : List (List Value)) (b : Bn) : Bool := decide (b.vol < (loadP LI LQ b.code).1) || decide (b.wei < (loadP LI LQ b.code).2)
/-- The bins that are. -/
def overL (LI LB LQ : List (List Value)) : List ByteArray := (LB.filter fun e => fullB LI LQ (bnOf e)).map codeOf
theorem overL_snoc (LI LB LQ : List (List Value)) (k : Nat) (hk : k < LB.length) : overL LI (LB.take (k + 1)) LQ = overL LI (LB.take k) LQ ++ (if fullB LI LQ (bnOf LB[k]) = true then [codeOf LB[k]] else []) := by
  unfold overL
  rw [List.take_succ_eq_append_getElem hk, List.filter_append, List.map_append]
  congr 1
  by_cases h : fullB LI LQ (bnOf LB[k]) = true
  · rw [if_pos h]; simp [h]
  · rw [if_neg h]; simp [h]
theorem overL_le (LI LB LQ : List (List Value)) : (overL LI LB LQ).length ≤ LB.length := by
  unfold overL; rw [List.length_map]; exact List.length_filter_le _ _
/-- Does a quant of an item stand in a bin? -/
def standsQ (LQ : List (List Value)) (s t : ByteArray) : Bool := LQ.any fun q => Pl.eqv (qnOf q).bin s && Pl.eqv (qnOf q).item t
theorem standsQ_snoc (LQ : List (List Value)) (s t : ByteArray) (k : Nat) (hk : k < LQ.length) : standsQ (LQ.take (k + 1)) s t = (standsQ (LQ.take k) s t || (Pl.eqv (qnOf LQ[k]).bin s && Pl.eqv (qnOf LQ[k]).item t)) := by
  unfold standsQ
  rw [List.take_succ_eq_append_getElem hk, List.any_append]; simp
/-- An item, a bin with other measures. -/
def itSize (x : It) (v u : Int) : It := ⟨x.code, x.nm, x.fc, v, u, x.lots, x.serial, x.chk⟩
def bnSize (x : Bn) (v u : Int) : Bn := ⟨x.code, x.zone, x.kind, x.aisle, x.place, v, u, x.frz⟩
def resL (LI : List (List Value)) (t : ByteArray) (v u : Int) : List (List Value) := putG ordItem LI (itSize (itOf (gotItem LI t)) v u).cells
/-- Would a bin with that item be overfull? -/
def badB (LI LQ : List (List Value)) (t : ByteArray) (e : List Value) : Bool := standsQ LQ (codeOf e) t && fullB LI LQ (bnOf e)
def resE (LI LB LQ : List (List Value)) (t : ByteArray) (v u : Int) : Nat :=
  if (atItem LI t).isSome = false then 12
  else if (decide (v < 0) || decide (1000000 < v) || decide (u < 0) || decide (1000000 < u)) = true then 5
  else if (LB.any (badB (resL LI t v u) LQ t)) = true then 26 else 0
def limL (LB : List (List Value)) (s : ByteArray) (v u : Int) : List (List Value) := putG ordBin LB (bnSize (bnOf (gotBin LB s)) v u).cells
def limE (LI LB LQ : List (List Value)) (s : ByteArray) (v u : Int) : Nat :=
  if (atBin LB s).isSome = false then 12
  else if (decide (v < 0) || decide (1000000000000 < v) || decide (u < 0) || decide (1000000000000 < u)) = true then 5
  else if fullB LI LQ (bnSize (bnOf (gotBin LB s)) v u) = true then 26 else 0
end Go.Proofs.YtjphjblcahadkaaGreat
