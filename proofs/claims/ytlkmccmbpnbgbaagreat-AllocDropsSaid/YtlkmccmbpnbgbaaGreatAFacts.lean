/-
 LAYER 16 IN PLAIN WORDS: claims by their key; how much is claimed; a claim more or less; what is held and claimed for a line; an order that is allocated, or dropped.
 PLAIN: lengths and things of the lists that holding, claiming, releasing leave.
 (By wip/tools/merge.py.)
-/
import Derived.Test.YtlkmccmbpnbgbaaGreatOOrd
import Derived.Test.YtlkmccmbpnbgbaaGreatWTk
namespace Go.Proofs.YtlkmccmbpnbgbaaGreat
set_option linter.unusedVariables false
open Go.RowKit
open Pl (firstG firstG_none firstG_some findG overG putG dropG It)

/-- A claim by its fields. -/
structure Cl where
 ord : ByteArray
 line : Int
 bin : ByteArray
 item : ByteArray
 lot : ByteArray
 st : Int
 qty : Int
 task : Int
def Cl.cells (x : Cl) : List Value := [.string x.ord, .int .i64 x.line, .string x.bin, .string x.item, .string x.lot, .int .i64 x.st, .int .i64 x.qty, .int .i64 x.task]
def clOf : List Value → Cl
 | [.string a, .int _ b, .string c, .string d, .string e, .int _ f, .int _ g, .int _ h] => ⟨a, b, c, d, e, f, g, h⟩
 | _ => ⟨⟨#[]⟩, 0, ⟨#[]⟩, ⟨#[]⟩, ⟨#[]⟩, 0, 0, 0⟩
theorem cl_cells {x : List Value} (h : Fits kClaim x) : x = (clOf x).cells := by
 match x, h with
 | [c0, c1, c2, c3, c4, c5, c6, c7], h =>
  obtain ⟨⟨a0, rfl⟩, ⟨a1, rfl⟩, ⟨a2, rfl⟩, ⟨a3, rfl⟩, ⟨a4, rfl⟩, ⟨a5, rfl⟩, ⟨a6, rfl⟩, ⟨a7, rfl⟩, _⟩ := h
  rfl
theorem Cl.fits (x : Cl) : Fits kClaim x.cells := ⟨⟨_, rfl⟩, ⟨_, rfl⟩, ⟨_, rfl⟩, ⟨_, rfl⟩, ⟨_, rfl⟩, ⟨_, rfl⟩, ⟨_, rfl⟩, ⟨_, rfl⟩, trivial⟩
theorem clOf_cells (x : Cl) : clOf x.cells = x := rfl
def Cl.ky (x : Cl) : Ky := ⟨x.bin, x.item, x.lot, x.st⟩
def zeroClaim : List Value := [.string ⟨#[]⟩, .int .i64 0, .string ⟨#[]⟩, .string ⟨#[]⟩, .string ⟨#[]⟩, .int .i64 0, .int .i64 0, .int .i64 0]
theorem zeroClaim_fits : Fits kClaim zeroClaim := ⟨⟨_, rfl⟩, ⟨_, rfl⟩, ⟨_, rfl⟩, ⟨_, rfl⟩, ⟨_, rfl⟩, ⟨_, rfl⟩, ⟨_, rfl⟩, ⟨_, rfl⟩, trivial⟩
/-- Claims held against one another. -/
def ordCl (a b : Cl) : Int := if Pl.cmp a.ord b.ord ≠ 0 then Pl.cmp a.ord b.ord else if cmpI a.line b.line ≠ 0 then cmpI a.line b.line else if ordKy a.ky b.ky ≠ 0 then ordKy a.ky b.ky else cmpI a.task b.task
theorem pcmp_zero (a b : ByteArray) : Pl.cmp a b = 0 ↔ a = b := by
 have h := cmps_zero [a] [b] rfl
 rw [cmps_one] at h
 rw [h]
 constructor
 · intro e; injection e
 · intro e; rw [e]
/-- Have two claims one key? -/
def Cl.same (a b : Cl) : Prop := a.ord = b.ord ∧ a.line = b.line ∧ a.ky = b.ky ∧ a.task = b.task
theorem ordCl_zero (a b : Cl) : ordCl a b = 0 ↔ a.same b := by
 unfold ordCl Cl.same
 by_cases h1 : Pl.cmp a.ord b.ord = 0
 · rw [if_neg (by simpa using h1)]
   by_cases h2 : cmpI a.line b.line = 0
   · rw [if_neg (by simpa using h2)]
     by_cases h3 : ordKy a.ky b.ky = 0
     · rw [if_neg (by simpa using h3), cmpI_zero]
       exact ⟨fun h => ⟨(pcmp_zero _ _).1 h1, (cmpI_zero _ _).1 h2, (ordKy_zero _ _).1 h3, h⟩, fun h => h.2.2.2⟩
     · rw [if_pos h3]
       exact ⟨fun h => absurd h h3, fun h => absurd ((ordKy_zero _ _).2 h.2.2.1) h3⟩
   · rw [if_pos h2]
     exact ⟨fun h => absurd h h2, fun h => absurd ((cmpI_zero _ _).2 h.2.1) h2⟩
 · rw [if_pos h1]
   exact ⟨fun h => absurd h h1, fun h => absurd ((pcmp_zero _ _).2 h.1) h1⟩
def ordClaim (x y : List Value) : Int := ordCl (clOf x) (clOf y)
def isCl (c : Cl) (e : List Value) : Bool := Pl.eqv (clOf e).ord c.ord && (decide ((clOf e).line = c.line) && ((Pl.eqv (clOf e).bin c.bin && (Pl.eqv (clOf e).item c.item && (Pl.eqv (clOf e).lot c.lot && decide ((clOf e).st = c.st)))) && decide ((clOf e).task = c.task)))
theorem isCl_iff {c : Cl} {e : List Value} : isCl c e = true ↔ (clOf e).same c := by
 unfold isCl Cl.same Cl.ky
 simp only [Bool.and_eq_true, Pl.eqv_iff, decide_eq_true_iff, Ky.mk.injEq]
/-- The place of the first claim of a key; that claim. -/
def atC (L : List (List Value)) (c : Cl) : Option Nat := firstG (isCl c) L
def gotC (L : List (List Value)) (c : Cl) : List Value := match atC L c with | some i => L.getD i zeroClaim | none => zeroClaim
theorem gotC_fits {L : List (List Value)} (h : Things kClaim L) (c : Cl) : Fits kClaim (gotC L c) := by
 unfold gotC
 cases hf : atC L c with
 | none => exact zeroClaim_fits
 | some i =>
  have hi : i < L.length := Pl.firstG_lt hf
  simp only [List.getD_eq_getElem?_getD, List.getElem?_eq_getElem hi, Option.getD_some]
  exact h _ (List.getElem_mem hi)
theorem findG_atC (L : List (List Value)) (x : List Value) : findG ordClaim L x = atC L (clOf x) := by
 unfold findG atC
 congr 1
 funext e
 have h1 : (ordClaim e x == 0) = true ↔ (clOf e).same (clOf x) := by rw [beq_iff_eq]; exact ordCl_zero _ _
 exact Bool.eq_iff_iff.2 (h1.trans isCl_iff.symm)
theorem gotC_same {L : List (List Value)} {c : Cl} (h : (atC L c).isSome = true) : (clOf (gotC L c)).same c := by
 unfold gotC
 cases hc : atC L c with
 | none => rw [hc] at h; cases h
 | some i =>
  have hl := Pl.firstG_lt hc
  have ha := Pl.firstG_at hc hl
  simp only [List.getD_eq_getElem?_getD, List.getElem?_eq_getElem hl, Option.getD_some]
  exact isCl_iff.1 ha
/-- A claim put, or dropped, if it is of nothing. -/
def upC (L : List (List Value)) (c : Cl) : List (List Value) := if c.qty = 0 then dropG ordClaim L c.cells else putG ordClaim L c.cells
/-- What is wrong with a claim more; the claim as it is left; the claims behind it. -/
def claimE (L : List (List Value)) (c : Cl) : Nat := if (atC L c).isSome = true then 0 else if c.qty ≠ 0 ∧ 128 ≤ L.length then 14 else 0
def claimC (L : List (List Value)) (c : Cl) : Cl := if (atC L c).isSome = true then { c with qty := wrap64 (c.qty + (clOf (gotC L c)).qty) } else c
def claimL (L : List (List Value)) (c : Cl) : List (List Value) := upC L (claimC L c)
theorem upC_things {L : List (List Value)} (h : Things kClaim L) (c : Cl) : Things kClaim (upC L c) := fun e he => by
 unfold upC at he
 split at he
 · exact h e (dropG_mem he)
 · rcases Pl.putG_mem he with rfl | he
   · exact c.fits
   · exact h e he
theorem claimL_things {L : List (List Value)} (h : Things kClaim L) (c : Cl) : Things kClaim (claimL L c) := upC_things h _
theorem claimC_same (L : List (List Value)) (c : Cl) : (claimC L c).same c := by
 unfold claimC; split <;> exact ⟨rfl, rfl, rfl, rfl⟩
theorem isCl_congr {a b : Cl} (h : a.same b) (e : List Value) : isCl a e = isCl b e := by
 refine Bool.eq_iff_iff.2 (isCl_iff.trans (Iff.trans ?_ isCl_iff.symm))
 unfold Cl.same at *
 rw [h.1, h.2.1, h.2.2.1, h.2.2.2]
theorem atC_congr {a b : Cl} (h : a.same b) (L : List (List Value)) : atC L a = atC L b := by
 unfold atC; congr 1; funext e; exact isCl_congr h e
theorem upC_len (L : List (List Value)) (c : Cl) : (upC L c).length ≤ if (atC L c).isSome = true then L.length else if c.qty = 0 then L.length else L.length + 1 := by
 unfold upC
 by_cases h : c.qty = 0
 · rw [if_pos h]
   have := dropG_len ordClaim L c.cells
   split <;> (try split) <;> omega
 · rw [if_neg h, Pl.putG_len, findG_atC, clOf_cells, if_neg h]
   cases (atC L c).isSome <;> simp
theorem claimL_len {L : List (List Value)} {c : Cl} (h : claimE L c = 0) : (claimL L c).length ≤ max L.length 128 := by
 have hl := upC_len L (claimC L c)
 rw [atC_congr (claimC_same L c)] at hl
 unfold claimE at h
 unfold claimL
 by_cases h1 : (atC L c).isSome = true
 · rw [if_pos h1] at hl; omega
 · rw [if_neg h1] at hl h
   have h2 : claimC L c = c := by unfold claimC; rw [if_neg h1]
   rw [h2] at hl ⊢
   by_cases h3 : c.qty ≠ 0 ∧ 128 ≤ L.length
   · rw [if_pos h3] at h; cases h
   · by_cases h4 : c.qty = 0
     · rw [if_pos h4] at hl; omega
     · rw [if_neg h4] at hl; omega
/-- How much is claimed for a line of an order. -/
def isOf (s : ByteArray) (n : Int) (e : List Value) : Bool := Pl.eqv (clOf e).ord s && decide ((clOf e).line = n)
def claimedZ (L : List (List Value)) (s : ByteArray) (n : Int) : Int := L.foldl (fun z e => if isOf s n e = true then wrap64 (z + (clOf e).qty) else z) 0
theorem claimedZ_snoc (L : List (List Value)) (s : ByteArray) (n : Int) {k : Nat} (hk : k < L.length) : claimedZ (L.take (k + 1)) s n = if isOf s n L[k] = true then wrap64 (claimedZ (L.take k) s n + (clOf L[k]).qty) else claimedZ (L.take k) s n := by
 unfold claimedZ
 rw [List.take_succ_eq_append_getElem hk, List.foldl_append]; rfl
/-- A take by its fields: the key, how many. -/
def tqK (t : List Value) : Ky := match t with | [.string a, .string b, .string c, .int _ d, _] => ⟨a, b, c, d⟩ | _ => ⟨⟨#[]⟩, ⟨#[]⟩, ⟨#[]⟩, 0⟩
def tqN (t : List Value) : Int := match t with | [_, _, _, _, .int _ n] => n | _ => 0
theorem tk_cells {t : List Value} (h : Fits kTake t) : t = [.string (tqK t).bin, .string (tqK t).item, .string (tqK t).lot, .int .i64 (tqK t).st, .int .i64 (tqN t)] := by
 match t, h with
 | [c0, c1, c2, c3, c4], h =>
  obtain ⟨⟨a0, rfl⟩, ⟨a1, rfl⟩, ⟨a2, rfl⟩, ⟨a3, rfl⟩, ⟨a4, rfl⟩, _⟩ := h
  rfl
abbrev HL := Nat → List (List Value)
def tqC (s : ByteArray) (n : Int) (t : List Value) : Cl := ⟨s, n, (tqK t).bin, (tqK t).item, (tqK t).lot, (tqK t).st, tqN t, 0⟩
/-- What is wrong where a take is held and claimed; the lists behind it. -/
def rsvE1 (M : HL) (s : ByteArray) (n : Int) (t : List Value) : Nat := if holdE (M 4) (tqK t) (tqN t) ≠ 0 then holdE (M 4) (tqK t) (tqN t) else claimE (M 8) (tqC s n t)
def rsvM1 (M : HL) (s : ByteArray) (n : Int) (t : List Value) : HL := setE 0 (setE 0 M 4 (holdL (M 4) (tqK t) (tqN t))) 8 (claimL (M 8) (tqC s n t))
/-- The same of many takes, one behind the other, up to the k-th. -/
def rsvM (s : ByteArray) (n : Int) (T : List (List Value)) (M : HL) : Nat → HL
 | 0 => M
 | k + 1 => rsvM1 (rsvM s n T M k) s n (T.getD k [])
def rsvE (s : ByteArray) (n : Int) (T : List (List Value)) (M : HL) (k : Nat) : Nat := firstE (fun i => rsvE1 (rsvM s n T M i) s n (T.getD i [])) k
def sumT (T : List (List Value)) (k : Nat) : Int := ((T.take k).map tqN).sum
theorem sumT_succ (T : List (List Value)) {k : Nat} (hk : k < T.length) : sumT T (k + 1) = sumT T k + tqN (T.getD k []) := by
 unfold sumT
 rw [List.take_succ_eq_append_getElem hk, List.map_append, List.sum_append, List.getD_eq_getElem?_getD, List.getElem?_eq_getElem hk]
 simp
/-- An order's site, lines; a line's backorder set. -/
def oLines (x : List Value) : List Value := (x.drop 2).take 48
def setBack (X : List Value) (k : Nat) (q : Int) : List Value := X.set (2 + k * 6 + 3) (.int .i64 q)
/-- How much is wanted of a line. -/
def wantZ (M : HL) (s : ByteArray) (x : Ln) (k : Nat) : Int := wrap64 (wrap64 (x.asked - x.got) - claimedZ (M 8) s k)
def picksA (M : HL) (X : List Value) (s : ByteArray) (k : Nat) : List (List Value) := pickL M (nsite X) (lnAt (oLines X) k).item (wantZ M s (lnAt (oLines X) k) k)
/-- The lists behind the k-th line. -/
def lineM (M : HL) (X : List Value) (s : ByteArray) (k : Nat) : HL := if emp (lnAt (oLines X) k).item = true then M else rsvM s k (picksA M X s k) M (picksA M X s k).length
def lineEA (M : HL) (X : List Value) (s : ByteArray) (k : Nat) : Nat := if emp (lnAt (oLines X) k).item = true then 0 else rsvE s k (picksA M X s k) M (picksA M X s k).length
def lineB (M : HL) (X : List Value) (s : ByteArray) (k : Nat) : Int := wrap64 (max (wantZ M s (lnAt (oLines X) k) k) 0 - sumT (picksA M X s k) (picksA M X s k).length)
def alcM (M : HL) (X : List Value) (s : ByteArray) : Nat → HL
 | 0 => M
 | k + 1 => lineM (alcM M X s k) X s k
def alcE (M : HL) (X : List Value) (s : ByteArray) (k : Nat) : Nat := firstE (fun i => lineEA (alcM M X s i) X s i) k
def alcX (M : HL) (X : List Value) (s : ByteArray) : Nat → List Value
 | 0 => X
 | k + 1 => if emp (lnAt (oLines X) k).item = true then alcX M X s k else setBack (alcX M X s k) k (lineB (alcM M X s k) X s k)
/-- An order that is allocated: what is wrong, the lists behind it. -/
def allE (L : HL) (s : ByteArray) : Nat := if (atOrder (L 7) s).isSome = false then 12 else alcE L (gotOrder (L 7) s) s 8
def allM (L : HL) (s : ByteArray) : HL := setE 0 (alcM L (gotOrder (L 7) s) s 8) 7 (putG ordOrder (L 7) (alcX L (gotOrder (L 7) s) s 8))
/-- Claims that are released, up to the k-th: what is wrong, the lists behind it. -/
def relM (C : List (List Value)) (M : HL) : Nat → HL
 | 0 => M
 | k + 1 => setE 0 (setE 0 (relM C M k) 4 (holdL (relM C M k 4) (clOf (C.getD k [])).ky (wrap64 (-(clOf (C.getD k [])).qty)))) 8 (dropG ordClaim (relM C M k 8) (C.getD k []))
def relE (C : List (List Value)) (M : HL) (k : Nat) : Nat := firstE (fun i => holdE (relM C M i 4) (clOf (C.getD i [])).ky (wrap64 (-(clOf (C.getD i [])).qty))) k
def ofOrd (s : ByteArray) (e : List Value) : Bool := Pl.eqv (clOf e).ord s
def claimsL (L : List (List Value)) (s : ByteArray) : List (List Value) := L.filter (ofOrd s)
def begunB (e : List Value) : Bool := !(emp (lnOf e).item) && decide ((lnOf e).got ≠ 0)
def taskB (e : List Value) : Bool := decide ((clOf e).task ≠ 0)
def begunX (X : List Value) : Bool := (List.range 8).any fun i => !(emp (lnAt (oLines X) i).item) && decide ((lnAt (oLines X) i).got ≠ 0)
/-- An order that is dropped: what is wrong, the lists behind it. -/
def dropE (L : HL) (s : ByteArray) : Nat :=
 if (atOrder (L 7) s).isSome = false then 12
 else if (begunX (gotOrder (L 7) s) || (claimsL (L 8) s).any taskB) = true then 13
 else relE (claimsL (L 8) s) L (claimsL (L 8) s).length
def dropM (L : HL) (s : ByteArray) : HL := setE 0 (relM (claimsL (L 8) s) L (claimsL (L 8) s).length) 7 (dropG ordOrder (L 7) (gotOrder (L 7) s))
/-- An order that is added. -/
def ordE (L : HL) (x : List Value) : Nat :=
 if Pl.nmE (codeOf x) ≠ 0 then Pl.nmE (codeOf x) else if zonedB (L 2) (nsite x) = false then 12 else if linesE (L 0) (oLines x) ≠ 0 then linesE (L 0) (oLines x)
 else if (atOrder (L 7) (codeOf x)).isSome = true then 11 else if 32 ≤ (L 7).length then 14 else 0
theorem order_parts {x : List Value} (h : Fits kOrder x) : x[0]? = some (.string (codeOf x)) ∧ x[1]? = some (.string (nsite x)) ∧ Fits kLine8 (oLines x) ∧ x.length = 50 ∧ oLines x = x.drop 2 := by
 have hl := h.length
 obtain ⟨c0, x, rfl⟩ : ∃ a y, x = a :: y := by cases x with | nil => cases hl | cons a y => exact ⟨a, y, rfl⟩
 obtain ⟨c1, x, rfl⟩ : ∃ a y, x = a :: y := by cases x with | nil => cases hl | cons a y => exact ⟨a, y, rfl⟩
 obtain ⟨⟨a0, rfl⟩, ⟨a1, rfl⟩, h⟩ := h
 have h48 : Fits kLine8 x := h
 have hx : x.length = 48 := by
  have : (x.length + 1) + 1 = 50 := hl
  omega
 have ho : oLines (Value.string a0 :: Value.string a1 :: x) = x := by
  show x.take 48 = x
  exact List.take_of_length_le (by omega)
 exact ⟨rfl, rfl, by rw [ho]; exact h48, hl, by rw [ho]; rfl⟩
end Go.Proofs.YtlkmccmbpnbgbaaGreat

namespace Go.Proofs.YtlkmccmbpnbgbaaGreat
set_option linter.unusedVariables false
open Go.RowKit
open Pl (firstG firstG_none firstG_some findG overG putG dropG It)

theorem firstE_one {f : Nat → Nat} {k : Nat} (h : firstE f k = 0) : firstE f (k + 1) = f k := by
 show (if firstE f k ≠ 0 then firstE f k else f k) = f k
 rw [if_neg (by rw [h]; simp)]
theorem firstE_prev {f : Nat → Nat} {k : Nat} (h : firstE f (k + 1) = 0) : firstE f k = 0 ∧ f k = 0 := by
 have h0 : firstE f k = 0 := by
  by_cases e : firstE f k = 0
  · exact e
  · have := firstE_le f (Nat.le_succ k) e
    rw [this] at h
    exact absurd h e
 exact ⟨h0, by rw [← firstE_one h0]; exact h⟩
theorem firstE_cut {f : Nat → Nat} {k m : Nat} (hk : k < m) (h : firstE f k = 0) (hf : f k ≠ 0) : firstE f m = f k := firstE_hit f hk h hf
theorem holdL_things {L : List (List Value)} (h : Things kQuant L) (k : Ky) (n : Int) : Things kQuant (holdL L k n) := upQ_things h _
theorem holdL_len {L : List (List Value)} {k : Ky} {n : Int} (h : holdE L k n = 0) : (holdL L k n).length ≤ L.length := by
 have h1 : (atQ L k).isSome = true := by
  cases hc : (atQ L k).isSome with
  | true => rfl
  | false => unfold holdE at h; rw [if_pos hc] at h; cases h
 unfold holdL upQ
 split
 · exact dropG_len _ _ _
 · rw [Pl.putG_len, findG_atQ]
   show (if (atQ L k).isSome = true then _ else _) ≤ _
   rw [if_pos h1]; exact Nat.le_refl _
theorem rsvM_succ (s : ByteArray) (n : Int) (T : List (List Value)) (L : HL) (k : Nat) : rsvM s n T L (k + 1) = setE 0 (setE 0 (rsvM s n T L k) 4 (holdL (rsvM s n T L k 4) (tqK (T.getD k [])) (tqN (T.getD k [])))) 8 (claimL (rsvM s n T L k 8) (tqC s n (T.getD k []))) := rfl
theorem relM_succ (C : List (List Value)) (L : HL) (k : Nat) : relM C L (k + 1) = setE 0 (setE 0 (relM C L k) 4 (holdL (relM C L k 4) (clOf (C.getD k [])).ky (wrap64 (-(clOf (C.getD k [])).qty)))) 8 (dropG ordClaim (relM C L k 8) (C.getD k [])) := rfl
theorem rsv_len (s : ByteArray) (n : Int) (T : List (List Value)) (L : HL) : ∀ k, rsvE s n T L k = 0 → (rsvM s n T L k 4).length ≤ (L 4).length ∧ (rsvM s n T L k 8).length ≤ max (L 8).length 128
 | 0, _ => ⟨Nat.le_refl _, Nat.le_max_left _ _⟩
 | k + 1, h => by
  obtain ⟨h0, h1⟩ := firstE_prev h
  obtain ⟨i1, i2⟩ := rsv_len s n T L k h0
  unfold rsvE1 at h1
  have e1 : holdE (rsvM s n T L k 4) (tqK (T.getD k [])) (tqN (T.getD k [])) = 0 := by
   by_cases e : holdE (rsvM s n T L k 4) (tqK (T.getD k [])) (tqN (T.getD k [])) = 0
   · exact e
   · rw [if_pos e] at h1; exact h1
  rw [if_neg (by rw [e1]; simp)] at h1
  constructor
  · rw [rsvM_succ, setE_off rfl _ (by decide), setE_at rfl]
    exact Nat.le_trans (holdL_len e1) i1
  · rw [rsvM_succ, setE_at rfl]
    exact Nat.le_trans (claimL_len h1) (by omega)
theorem rsv_off (s : ByteArray) (n : Int) (T : List (List Value)) (L : HL) {j : Nat} (h4 : j ≠ 4) (h8 : j ≠ 8) : ∀ k, rsvM s n T L k j = L j
 | 0 => rfl
 | k + 1 => by
  rw [rsvM_succ, setE_off rfl _ h8, setE_off rfl _ h4]
  exact rsv_off s n T L h4 h8 k
theorem rel_len (C : List (List Value)) (L : HL) : ∀ k, relE C L k = 0 → (relM C L k 4).length ≤ (L 4).length ∧ (relM C L k 8).length ≤ (L 8).length
 | 0, _ => ⟨Nat.le_refl _, Nat.le_refl _⟩
 | k + 1, h => by
  obtain ⟨h0, h1⟩ := firstE_prev h
  obtain ⟨i1, i2⟩ := rel_len C L k h0
  constructor
  · rw [relM_succ, setE_off rfl _ (by decide), setE_at rfl]
    exact Nat.le_trans (holdL_len h1) i1
  · rw [relM_succ, setE_at rfl]
    exact Nat.le_trans (dropG_len _ _ _) i2
theorem rel_off (C : List (List Value)) (L : HL) {j : Nat} (h4 : j ≠ 4) (h8 : j ≠ 8) : ∀ k, relM C L k j = L j
 | 0 => rfl
 | k + 1 => by
  rw [relM_succ, setE_off rfl _ h8, setE_off rfl _ h4]
  exact rel_off C L h4 h8 k
theorem line_len (M : HL) (X : List Value) (s : ByteArray) (k : Nat) (h : lineEA M X s k = 0) : (lineM M X s k 4).length ≤ (M 4).length ∧ (lineM M X s k 8).length ≤ max (M 8).length 128 := by
 unfold lineEA at h
 unfold lineM
 split at h
 · rename_i e; rw [if_pos e]; exact ⟨Nat.le_refl _, Nat.le_max_left _ _⟩
 · rename_i e; rw [if_neg e]; exact rsv_len _ _ _ _ _ h
theorem line_off (M : HL) (X : List Value) (s : ByteArray) (k : Nat) {j : Nat} (h4 : j ≠ 4) (h8 : j ≠ 8) : lineM M X s k j = M j := by
 unfold lineM
 split
 · rfl
 · exact rsv_off _ _ _ _ h4 h8 _
theorem alc_len (L : HL) (X : List Value) (s : ByteArray) : ∀ k, alcE L X s k = 0 → (alcM L X s k 4).length ≤ (L 4).length ∧ (alcM L X s k 8).length ≤ max (L 8).length 128
 | 0, _ => ⟨Nat.le_refl _, Nat.le_max_left _ _⟩
 | k + 1, h => by
  obtain ⟨h0, h1⟩ := firstE_prev h
  obtain ⟨i1, i2⟩ := alc_len L X s k h0
  obtain ⟨j1, j2⟩ := line_len (alcM L X s k) X s k h1
  exact ⟨Nat.le_trans j1 i1, Nat.le_trans j2 (by omega)⟩
theorem alc_off (L : HL) (X : List Value) (s : ByteArray) {j : Nat} (h4 : j ≠ 4) (h8 : j ≠ 8) : ∀ k, alcM L X s k j = L j
 | 0 => rfl
 | k + 1 => (line_off _ X s k h4 h8).trans (alc_off L X s h4 h8 k)
theorem wrap_sub2 (a b c : Int) : wrap64 (wrap64 (a - b) - c) = wrap64 (a - (b + c)) := by unfold wrap64; omega
theorem wrap_sub3 (a b : Int) : wrap64 (a - wrap64 b) = wrap64 (a - b) := by unfold wrap64; omega
theorem wrap_add2 (a b : Int) : wrap64 (wrap64 a + b) = wrap64 (a + b) := by unfold wrap64; omega
theorem wrap_wf (a : Int) : Wf (wrap64 a) := by unfold Wf wrap64; omega
theorem order_things {h : Hs} {L : HL} {w : World} (hh : HT h L w) (s : ByteArray) : Fits kOrder (gotOrder (L 7) s) := gotOrder_fits (hh 7 (by decide)).2.2.1 s
theorem fits_setI : ∀ {ks : List CK} {vs : List Value} (i : Nat) (z : Int), Fits ks vs → ks[i]? = some CK.i → Fits ks (vs.set i (.int .i64 z))
 | [], [], _, _, h, _ => h
 | [], _ :: _, _, _, h, _ => h.elim
 | _ :: _, [], _, _, h, _ => h.elim
 | k :: ks, v :: vs, 0, z, h, hk => by
  have : k = CK.i := by simpa using hk
  subst this
  exact ⟨⟨z, rfl⟩, h.2⟩
 | k :: ks, v :: vs, i + 1, z, h, hk => ⟨h.1, fits_setI i z h.2 (by simpa using hk)⟩
theorem setBack_fits {X : List Value} (h : Fits kOrder X) {k : Nat} (hk : k < 8) (q : Int) : Fits kOrder (setBack X k q) := fits_setI _ _ h (by
 match k, hk with | 0, _ | 1, _ | 2, _ | 3, _ | 4, _ | 5, _ | 6, _ | 7, _ => rfl)
theorem alcX_fits {L : HL} {X : List Value} (h : Fits kOrder X) (s : ByteArray) : ∀ k, k ≤ 8 → Fits kOrder (alcX L X s k)
 | 0, _ => h
 | k + 1, hk => by
  unfold alcX
  split
  · exact alcX_fits h s k (by omega)
  · exact setBack_fits (alcX_fits h s k (by omega)) (by omega) _
theorem setBack_head (X : List Value) (k : Nat) (q : Int) : nsite (setBack X k q) = nsite X ∧ codeOf (setBack X k q) = codeOf X := by
 unfold setBack
 rw [show 2 + k * 6 + 3 = (k * 6 + 3) + 1 + 1 from by omega]
 match X with
 | [] => exact ⟨rfl, rfl⟩
 | [a] => exact ⟨rfl, by cases a <;> rfl⟩
 | a0 :: a1 :: l =>
  rw [List.set_cons_succ, List.set_cons_succ]
  exact ⟨rfl, by cases a0 <;> rfl⟩
theorem alcX_head (L : HL) (X : List Value) (s : ByteArray) : ∀ k, nsite (alcX L X s k) = nsite X ∧ codeOf (alcX L X s k) = codeOf X
 | 0 => ⟨rfl, rfl⟩
 | k + 1 => by
  have ih := alcX_head L X s k
  unfold alcX
  split
  · exact ih
  · obtain ⟨a, b⟩ := setBack_head (alcX L X s k) k (lineB (alcM L X s k) X s k)
    exact ⟨a.trans ih.1, b.trans ih.2⟩
end Go.Proofs.YtlkmccmbpnbgbaaGreat
