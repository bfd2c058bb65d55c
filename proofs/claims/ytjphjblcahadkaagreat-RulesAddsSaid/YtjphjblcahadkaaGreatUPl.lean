/-
  PLAIN: zones; rules; which is asked first; the shelves of one; where something is stowed.
-/
import Derived.Test.YtjphjblcahadkaaGreatOPl
import Derived.Test.YtjphjblcahadkaaGreatZPl
import Derived.Test.YtjphjblcahadkaaGreatUBest
import Derived.Test.YtjphjblcahadkaaGreatHPut
namespace Go.Proofs.YtjphjblcahadkaaGreat
set_option linter.unusedVariables false
open Go.RowKit
open Pl (firstG findG putG It)

def siteZ : List Value → ByteArray
  | _ :: .string s :: _ => s
  | _ => ⟨#[]⟩
theorem zone_cells {x : List Value} (h : Fits kZone x) : x = [.string (codeOf x), .string (siteZ x)] := by
  match x, h with
  | [c0, c1], h =>
    obtain ⟨⟨a0, rfl⟩, ⟨a1, rfl⟩, _⟩ := h
    rfl
theorem zone_two {h : Hs} {L : Nat → List (List Value)} {w : World} (hh : HT h L w) (s : ByteArray) : ∃ a c, gotZone (L 2) s = [.string a, .string c] ∧ siteZ (gotZone (L 2) s) = c :=
  ⟨_, _, zone_cells (gotZone_fits (hh 2 (by decide)).2.2.1 s), rfl⟩
/-- Of which site a bin is. -/
def siteT (LZ LB : List (List Value)) (s : ByteArray) : ByteArray := if (atBin LB s).isSome = true then siteZ (gotZone LZ (bnOf (gotBin LB s)).zone) else ⟨#[]⟩
/-- Is a text empty? -/
def emp (s : ByteArray) : Bool := s.toList.isEmpty
/-- A rule. -/
structure Rl where
  item : ByteArray
  zone : ByteArray
  rank : Int
def Rl.cells (x : Rl) : List Value := [.string x.item, .string x.zone, .int .i64 x.rank]
def rlOf : List Value → Rl
  | [.string a, .string b, .int _ k] => ⟨a, b, k⟩
  | _ => ⟨⟨#[]⟩, ⟨#[]⟩, 0⟩
theorem rl_cells {x : List Value} (h : Fits kRule x) : x = (rlOf x).cells := by
  match x, h with
  | [c0, c1, c2], h =>
    obtain ⟨⟨a0, rfl⟩, ⟨a1, rfl⟩, ⟨a2, rfl⟩, _⟩ := h
    rfl
theorem Rl.fits (x : Rl) : Fits kRule x.cells := ⟨⟨_, rfl⟩, ⟨_, rfl⟩, ⟨_, rfl⟩, trivial⟩
/-- The order of the list of rules: by item, then by zone. -/
def ordRule (x y : List Value) : Int := if Pl.cmp (rlOf x).item (rlOf y).item = 0 then Pl.cmp (rlOf x).zone (rlOf y).zone else Pl.cmp (rlOf x).item (rlOf y).item
theorem cmp_eq_zero (a b : ByteArray) : Pl.cmp a b = 0 ↔ Pl.eqv a b = true := by
  have := Pl.cmp_zero a b
  constructor
  · intro h; rw [h] at this; exact this.symm
  · intro h; rw [h] at this; simpa using this
theorem ordRule_zero (x y : List Value) : (ordRule x y == 0) = (Pl.eqv (rlOf x).item (rlOf y).item && Pl.eqv (rlOf x).zone (rlOf y).zone) := by
  unfold ordRule
  by_cases h : Pl.cmp (rlOf x).item (rlOf y).item = 0
  · rw [if_pos h, (cmp_eq_zero _ _).1 h, Bool.true_and]; exact Pl.cmp_zero _ _
  · rw [if_neg h]
    have : Pl.eqv (rlOf x).item (rlOf y).item = false := by
      cases hq : Pl.eqv (rlOf x).item (rlOf y).item with
      | false => rfl
      | true => exact absurd ((cmp_eq_zero _ _).2 hq) h
    rw [this, Bool.false_and]
    simpa using h
/-- Is there a rule of that item and zone? -/
def hasRule (LR : List (List Value)) (x : Rl) : Bool := LR.any fun e => Pl.eqv (rlOf e).item x.item && Pl.eqv (rlOf e).zone x.zone
theorem hasRule_snoc (LR : List (List Value)) (x : Rl) (k : Nat) (hk : k < LR.length) : hasRule (LR.take (k + 1)) x = (hasRule (LR.take k) x || (Pl.eqv (rlOf LR[k]).item x.item && Pl.eqv (rlOf LR[k]).zone x.zone)) := by
  unfold hasRule
  rw [List.take_succ_eq_append_getElem hk, List.any_append]; simp
/-- What is wrong with a rule. -/
def addRE (LI LZ LR : List (List Value)) (x : Rl) : Nat :=
  if ((!emp x.item && !(atItem LI x.item).isSome) || !(atZone LZ x.zone).isSome) = true then 12
  else if (decide (x.rank < 0) || decide (999 < x.rank)) = true then 5
  else if (!hasRule LR x && decide (32 ≤ LR.length)) = true then 14 else 0
/-- Is a rule asked ahead of another one? Does a shelf come ahead of another one? -/
def aheadR : Rl → Rl → Bool := Pl.lex (fun a b => decide (a.rank < b.rank)) (Pl.lex (fun a b => !emp a.item && emp b.item) (fun a b => Pl.lt a.zone b.zone))
def nearB : Bn → Bn → Bool := Pl.lex (fun a b => decide (a.aisle < b.aisle)) (Pl.lex (fun a b => decide (a.place < b.place)) (fun a b => Pl.lt a.code b.code))
theorem aheadR_weak : Pl.Weak aheadR := (Pl.Weak.int (fun a : Rl => a.rank)).lex ((Pl.Weak.flag (fun a : Rl => emp a.item)).lex (Pl.Weak.text (fun a : Rl => a.zone)))
theorem nearB_weak : Pl.Weak nearB := (Pl.Weak.int (fun a : Bn => a.aisle)).lex ((Pl.Weak.int (fun a : Bn => a.place)).lex (Pl.Weak.text (fun a : Bn => a.code)))
/-- A bin, a rule of a list by its number. -/
def bnA (LB : List (List Value)) (i : Nat) : Bn := bnOf (LB.getD i [])
def rlA (LR : List (List Value)) (i : Nat) : Rl := rlOf (LR.getD i [])
theorem bnA_at (LB : List (List Value)) (i : Nat) (h : i < LB.length) : bnA LB i = bnOf LB[i] := by unfold bnA; rw [List.getD_eq_getElem?_getD, List.getElem?_eq_getElem h]; rfl
theorem rlA_at (LR : List (List Value)) (i : Nat) (h : i < LR.length) : rlA LR i = rlOf LR[i] := by unfold rlA; rw [List.getD_eq_getElem?_getD, List.getElem?_eq_getElem h]; rfl
/-- Is a bin a shelf of that zone and site into which so many go? -/
def takesB (LI LZ LB LQ : List (List Value)) (zone site item : ByteArray) (n : Int) (b : Bn) : Bool :=
  b.kind == 1 && !b.frz && Pl.eqv b.zone zone && Pl.eqv (siteT LZ LB b.code) site && decide (roomE LI LB LQ b.code item n = 0)
def bestB (LI LZ LB LQ : List (List Value)) (zone site item : ByteArray) (n : Int) (k : Nat) : Option Nat :=
  Pl.best (fun i j => nearB (bnA LB i) (bnA LB j)) (fun i => takesB LI LZ LB LQ zone site item n (bnA LB i)) k
/-- The first shelf of a zone into which so many go. -/
def shelfT (LI LZ LB LQ : List (List Value)) (zone site item : ByteArray) (n : Int) : Option ByteArray := (bestB LI LZ LB LQ zone site item n LB.length).map fun i => (bnA LB i).code
/-- Does a rule speak of an item? -/
def speaks (item : ByteArray) (r : Rl) : Bool := emp r.item || Pl.eqv r.item item
def takesR (LI LZ LB LQ : List (List Value)) (site item : ByteArray) (n : Int) (r : Rl) : Bool := speaks item r && (shelfT LI LZ LB LQ r.zone site item n).isSome
def bestR (LI LZ LB LQ LR : List (List Value)) (site item : ByteArray) (n : Int) : Option Nat :=
  Pl.best (fun i j => aheadR (rlA LR i) (rlA LR j)) (fun i => takesR LI LZ LB LQ site item n (rlA LR i)) LR.length
/-- Where so many of an item are stowed at a site. -/
def sugT (LI LZ LB LQ LR : List (List Value)) (site item : ByteArray) (n : Int) : ByteArray :=
  if (atItem LI item).isSome = false then ⟨#[]⟩ else match bestR LI LZ LB LQ LR site item n with
    | none => ⟨#[]⟩
    | some i => (shelfT LI LZ LB LQ (rlA LR i).zone site item n).getD ⟨#[]⟩
def sugE (LI LZ LB LQ LR : List (List Value)) (site item : ByteArray) (n : Int) : Nat :=
  if (atItem LI item).isSome = false then 12 else if (bestR LI LZ LB LQ LR site item n).isNone = true then 30 else 0
/-- Things at their places. -/
theorem code_bn {e : List Value} (h : Fits kBin e) : codeOf e = (bnOf e).code := by
  rw [bn_cells h]; rfl
theorem quant_at {h : Hs} {L : Nat → List (List Value)} {w : World} (hh : HT h L w) {k : Nat} (hk : k < (L 4).length) : ∃ b off, h.A 4 = some ⟨b, off, none⟩ ∧ b < w.heap.size ∧ w.rangeAt b (off + k * 6) (qnOf (L 4)[k]).cells := by
  obtain ⟨b, off, hA, hb, hc⟩ := (hh 4 (by decide)).2.2.2.thing (hh 4 (by decide)).2.2.1 (by decide) hk
  have := hc k hk
  rw [show (kOf 4).length = 6 from rfl] at this
  exact ⟨b, off, hA, hb, by rw [← qn_cells ((hh 4 (by decide)).2.2.1 _ (List.getElem_mem hk))]; exact this⟩
theorem bin_at {h : Hs} {L : Nat → List (List Value)} {w : World} (hh : HT h L w) {k : Nat} (hk : k < (L 3).length) : ∃ b off, h.A 3 = some ⟨b, off, none⟩ ∧ b < w.heap.size ∧ w.rangeAt b (off + k * 8) (bnA (L 3) k).cells := by
  obtain ⟨b, off, hA, hb, hc⟩ := (hh 3 (by decide)).2.2.2.thing (hh 3 (by decide)).2.2.1 (by decide) hk
  have := hc k hk
  rw [show (kOf 3).length = 8 from rfl] at this
  exact ⟨b, off, hA, hb, by rw [bnA_at _ _ hk, ← bn_cells ((hh 3 (by decide)).2.2.1 _ (List.getElem_mem hk))]; exact this⟩
theorem rule_at {h : Hs} {L : Nat → List (List Value)} {w : World} (hh : HT h L w) {k : Nat} (hk : k < (L 5).length) : ∃ b off, h.A 5 = some ⟨b, off, none⟩ ∧ b < w.heap.size ∧ w.rangeAt b (off + k * 3) (rlA (L 5) k).cells := by
  obtain ⟨b, off, hA, hb, hc⟩ := (hh 5 (by decide)).2.2.2.thing (hh 5 (by decide)).2.2.1 (by decide) hk
  have := hc k hk
  rw [show (kOf 5).length = 3 from rfl] at this
  exact ⟨b, off, hA, hb, by rw [rlA_at _ _ hk, ← rl_cells ((hh 5 (by decide)).2.2.1 _ (List.getElem_mem hk))]; exact this⟩
/-- Which rules were asked: a list of truths with a count of those that are true. -/
theorem set_count {l : List Bool} {i : Nat} (h : i < l.length) (hf : l[i] = false) : (l.set i true).count true = l.count true + 1 := by
  rw [List.count_set h]
  simp [hf]
theorem some_false {l : List Bool} (h : l.count true < l.length) : ∃ i, ∃ hi : i < l.length, l[i] = false := by
  cases hq : l.all (fun b => b == true) with
  | true =>
    have : l.count true = l.length := List.count_eq_length.2 (fun b hb => by have := List.all_eq_true.1 hq b hb; simpa using this.symm)
    omega
  | false =>
    rw [List.all_eq_false] at hq
    obtain ⟨b, hb, hbf⟩ := hq
    obtain ⟨i, hi, rfl⟩ := List.mem_iff_getElem.1 hb
    exact ⟨i, hi, by simpa using hbf⟩
theorem all_true {l : List Bool} (h : l.count true = l.length) (i : Nat) (hi : i < l.length) : l[i] = true := by
  have := List.count_eq_length.1 h l[i] (List.getElem_mem hi)
  exact this.symm
/-- Was a rule not asked yet? -/
def freeB (A : List Bool) (i : Nat) : Bool := !A.getD i true
theorem freeB_at {A : List Bool} {i : Nat} (h : i < A.length) : freeB A i = !A[i] := by unfold freeB; rw [List.getD_eq_getElem?_getD, List.getElem?_eq_getElem h]; rfl
theorem sel_some {less : Nat → Nat → Bool} {A : List Bool} (h : A.count true < A.length) : ∃ j, Pl.best less (freeB A) A.length = some j := by
  cases hb : Pl.best less (freeB A) A.length with
  | some j => exact ⟨j, rfl⟩
  | none =>
    obtain ⟨i, hi, hf⟩ := some_false h
    have := Pl.best_none.1 hb i hi
    rw [freeB_at hi, hf] at this
    cases this
theorem sel_found {less : Nat → Nat → Bool} {A : List Bool} {P : Nat → Bool} {m j : Nat} (W : Pl.Weak less) (h : Pl.best less (freeB A) m = some j) (hp : P j = true) (hA : ∀ q, q < m → freeB A q = false → P q = false) : Pl.best less P m = some j :=
  Pl.best_sub W h hp (fun i hi hpi => by
    cases hq : freeB A i with
    | true => rfl
    | false => rw [hA i hi hq] at hpi; cases hpi)
theorem sel_none {less : Nat → Nat → Bool} {A : List Bool} {P : Nat → Bool} (h : A.count true = A.length) (hA : ∀ q, q < A.length → freeB A q = false → P q = false) : Pl.best less P A.length = none :=
  Pl.best_none.2 (fun i hi => hA i hi (by rw [freeB_at hi, all_true h i hi]; rfl))
theorem free_set {A : List Bool} {j : Nat} (hj : j < A.length) {P : Nat → Bool} (hp : P j = false) (hA : ∀ q, q < A.length → freeB A q = false → P q = false) : ∀ q, q < (A.set j true).length → freeB (A.set j true) q = false → P q = false := fun q hq hf => by
  by_cases hqj : q = j
  · subst hqj; exact hp
  · rw [List.length_set] at hq
    refine hA q hq ?_
    rw [freeB_at hq]
    rw [freeB_at (by rw [List.length_set]; exact hq), List.getElem_set_ne (by omega)] at hf
    exact hf
end Go.Proofs.YtjphjblcahadkaaGreat
