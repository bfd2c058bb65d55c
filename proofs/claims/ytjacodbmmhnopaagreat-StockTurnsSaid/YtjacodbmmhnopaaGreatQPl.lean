/-
  PLAIN: quants by their key; what is put, taken, held, moved, given another status.
-/
import Derived.Test.YtjacodbmmhnopaaGreatZPl
import Derived.Test.YtjacodbmmhnopaaGreatRTexts
namespace Go.Proofs.YtjacodbmmhnopaaGreat
set_option linter.unusedVariables false
open Go.RowKit
open Pl (firstG findG putG dropG It)

/-- A quant's key. -/
structure Ky where
  bin : ByteArray
  item : ByteArray
  lot : ByteArray
  st : Int
def Ky.cells (k : Ky) : List Value := [.string k.bin, .string k.item, .string k.lot, .int .i64 k.st]
def kyOf : List Value → Ky
  | [.string a, .string b, .string c, .int _ s] => ⟨a, b, c, s⟩
  | _ => ⟨⟨#[]⟩, ⟨#[]⟩, ⟨#[]⟩, 0⟩
theorem ky_cells {x : List Value} (h : Fits kKey x) : x = (kyOf x).cells := by
  match x, h with
  | [c0, c1, c2, c3], h =>
    obtain ⟨⟨a0, rfl⟩, ⟨a1, rfl⟩, ⟨a2, rfl⟩, ⟨a3, rfl⟩, _⟩ := h
    rfl
theorem Ky.fits (k : Ky) : Fits kKey k.cells := ⟨⟨_, rfl⟩, ⟨_, rfl⟩, ⟨_, rfl⟩, ⟨_, rfl⟩, trivial⟩
def Qn.ky (q : Qn) : Ky := ⟨q.bin, q.item, q.lot, q.st⟩
theorem Ky.cells_inj {a b : Ky} (h : a.cells = b.cells) : a = b := by
  cases a; cases b
  unfold Ky.cells at h
  injection h with h1 h
  injection h with h2 h
  injection h with h3 h
  injection h with h4 _
  injection h1 with h1
  injection h2 with h2
  injection h3 with h3
  injection h4 with _ h4
  subst h1; subst h2; subst h3; subst h4; rfl
/-- Numbers held against one another. -/
def cmpI (a b : Int) : Int := if a < b then -1 else if b < a then 1 else 0
theorem cmpI_zero (a b : Int) : cmpI a b = 0 ↔ a = b := by
  unfold cmpI
  split
  · constructor <;> intro h <;> omega
  · split
    · constructor <;> intro h <;> omega
    · constructor <;> intro h <;> omega
/-- Keys held against one another. -/
def ordKy (a b : Ky) : Int := if cmps [a.bin, a.item, a.lot] [b.bin, b.item, b.lot] = 0 then cmpI a.st b.st else cmps [a.bin, a.item, a.lot] [b.bin, b.item, b.lot]
theorem cmps_zero : ∀ (l r : List ByteArray), l.length = r.length → (cmps l r = 0 ↔ l = r)
  | [], [], _ => ⟨fun _ => rfl, fun _ => rfl⟩
  | a :: l, b :: r, h => by
    have hc : cmps (a :: l) (b :: r) = if Pl.lt a b = true then -1 else if Pl.lt b a = true then 1 else cmps l r := rfl
    rw [hc]
    by_cases h1 : Pl.lt a b = true
    · rw [if_pos h1]
      exact ⟨fun h => by omega, fun h => by injection h with h2 _; subst h2; rw [Pl.lt_irrefl] at h1; cases h1⟩
    · rw [if_neg h1]
      by_cases h2 : Pl.lt b a = true
      · rw [if_pos h2]
        exact ⟨fun h => by omega, fun h => by injection h with h3 _; subst h3; rw [Pl.lt_irrefl] at h2; cases h2⟩
      · rw [if_neg h2, cmps_zero l r (by simpa using h)]
        have hab : a = b := by
          rcases Pl.lt_tri a b with h' | h' | h'
          · exact absurd h' h1
          · exact h'
          · exact absurd h' h2
        subst hab
        exact ⟨fun h => by rw [h], fun h => by injection h⟩
theorem ordKy_zero (a b : Ky) : ordKy a b = 0 ↔ a = b := by
  unfold ordKy
  by_cases h : cmps [a.bin, a.item, a.lot] [b.bin, b.item, b.lot] = 0
  · rw [if_pos h, cmpI_zero]
    have he := (cmps_zero [a.bin, a.item, a.lot] [b.bin, b.item, b.lot] rfl).1 h
    cases a; cases b
    simp only [List.cons.injEq, and_true] at he
    obtain ⟨h1, h2, h3⟩ := he
    subst h1; subst h2; subst h3
    exact ⟨fun h => by simp only [] at h; subst h; rfl, fun h => by injection h⟩
  · rw [if_neg h]
    exact ⟨fun h' => absurd h' h, fun h' => by subst h'; exact (cmps_zero [a.bin, a.item, a.lot] [a.bin, a.item, a.lot] rfl).2 rfl⟩
def ordQuant (x y : List Value) : Int := ordKy (qnOf x).ky (qnOf y).ky
def isKy (k : Ky) (e : List Value) : Bool := Pl.eqv (qnOf e).bin k.bin && (Pl.eqv (qnOf e).item k.item && (Pl.eqv (qnOf e).lot k.lot && decide ((qnOf e).st = k.st)))
theorem isKy_iff {k : Ky} {e : List Value} : isKy k e = true ↔ (qnOf e).ky = k := by
  unfold isKy
  rw [Bool.and_eq_true, Bool.and_eq_true, Bool.and_eq_true, Pl.eqv_iff, Pl.eqv_iff, Pl.eqv_iff, decide_eq_true_iff]
  cases k
  unfold Qn.ky
  simp only [Ky.mk.injEq]
def zeroQuant : List Value := [.string ⟨#[]⟩, .string ⟨#[]⟩, .string ⟨#[]⟩, .int .i64 0, .int .i64 0, .int .i64 0]
theorem zeroQuant_fits : Fits kQuant zeroQuant := ⟨⟨_, rfl⟩, ⟨_, rfl⟩, ⟨_, rfl⟩, ⟨_, rfl⟩, ⟨_, rfl⟩, ⟨_, rfl⟩, trivial⟩
/-- The place of the first quant of a key; that quant. -/
def atQ (L : List (List Value)) (k : Ky) : Option Nat := firstG (isKy k) L
def gotQ (L : List (List Value)) (k : Ky) : List Value := match atQ L k with | some i => L.getD i zeroQuant | none => zeroQuant
theorem gotQ_fits {L : List (List Value)} (h : Things kQuant L) (k : Ky) : Fits kQuant (gotQ L k) := by
  unfold gotQ
  cases hf : atQ L k with
  | none => exact zeroQuant_fits
  | some i =>
    have hi : i < L.length := Pl.firstG_lt hf
    simp only [List.getD_eq_getElem?_getD, List.getElem?_eq_getElem hi, Option.getD_some]
    exact h _ (List.getElem_mem hi)
theorem findG_atQ (L : List (List Value)) (x : List Value) : findG ordQuant L x = atQ L (qnOf x).ky := by
  unfold findG atQ
  congr 1
  funext e
  have h1 : (ordQuant e x == 0) = true ↔ (qnOf e).ky = (qnOf x).ky := by rw [beq_iff_eq]; exact ordKy_zero _ _
  exact Bool.eq_iff_iff.2 (h1.trans isKy_iff.symm)
theorem quant_six {h : Hs} {L : Nat → List (List Value)} {w : World} (hh : HT h L w) (k : Ky) : ∃ x : Qn, gotQ (L 4) k = x.cells ∧ qnOf (gotQ (L 4) k) = x :=
  ⟨_, qn_cells (gotQ_fits (hh 4 (by decide)).2.2.1 k), rfl⟩
theorem gotQ_ky {L : List (List Value)} {k : Ky} (h : (atQ L k).isSome = true) : (qnOf (gotQ L k)).ky = k := by
  unfold gotQ
  cases hc : atQ L k with
  | none => rw [hc] at h; cases h
  | some i =>
    have hl := Pl.firstG_lt hc
    have ha := Pl.firstG_at hc hl
    simp only [List.getD_eq_getElem?_getD, List.getElem?_eq_getElem hl, Option.getD_some]
    exact isKy_iff.1 ha
/-- A quant put, or dropped, if it is of nothing. -/
def upQ (L : List (List Value)) (q : Qn) : List (List Value) := if q.qty = 0 then dropG ordQuant L q.cells else putG ordQuant L q.cells
def putE (L : List (List Value)) (k : Ky) (n : Int) : Nat :=
  if n < 1 ∨ 1000000000 < n then 10
  else if (atQ L k).isSome = false then (if 256 ≤ L.length then 16 else 0)
  else if 1000000000 - n < (qnOf (gotQ L k)).qty then 10 else 0
def putX (L : List (List Value)) (k : Ky) (n : Int) : Qn := if (atQ L k).isSome = false then ⟨k.bin, k.item, k.lot, k.st, n, 0⟩ else ⟨k.bin, k.item, k.lot, k.st, wrap64 ((qnOf (gotQ L k)).qty + n), (qnOf (gotQ L k)).held⟩
def putL (L : List (List Value)) (k : Ky) (n : Int) : List (List Value) := upQ L (putX L k n)
def takeE (L : List (List Value)) (k : Ky) (n : Int) : Nat :=
  if n < 1 ∨ 1000000000 < n then 10
  else if (atQ L k).isSome = false then 12
  else if (qnOf (gotQ L k)).qty < n then 27
  else if wrap64 ((qnOf (gotQ L k)).qty - (qnOf (gotQ L k)).held) < n then 28 else 0
def takeL (L : List (List Value)) (k : Ky) (n : Int) : List (List Value) := upQ L ⟨k.bin, k.item, k.lot, k.st, wrap64 ((qnOf (gotQ L k)).qty - n), (qnOf (gotQ L k)).held⟩
def holdE (L : List (List Value)) (k : Ky) (n : Int) : Nat :=
  if (atQ L k).isSome = false then 12
  else if n < -1000000000 ∨ 1000000000 < n then 10
  else if wrap64 ((qnOf (gotQ L k)).qty - (qnOf (gotQ L k)).held) < n ∨ wrap64 ((qnOf (gotQ L k)).held + n) < 0 then 28 else 0
def holdL (L : List (List Value)) (k : Ky) (n : Int) : List (List Value) := upQ L ⟨k.bin, k.item, k.lot, k.st, (qnOf (gotQ L k)).qty, wrap64 ((qnOf (gotQ L k)).held + n)⟩
def frozB (LB : List (List Value)) (s : ByteArray) : Bool := (atBin LB s).isSome && (bnOf (gotBin LB s)).frz
def moveE (LI LB L : List (List Value)) (k : Ky) (n : Int) (t : ByteArray) : Nat :=
  if Pl.eqv t k.bin = true then 1
  else if (atBin LB t).isSome = false then 12
  else if (frozB LB t || frozB LB k.bin) = true then 25
  else if takeE L k n ≠ 0 then takeE L k n
  else if roomE LI LB (takeL L k n) t k.item n ≠ 0 then roomE LI LB (takeL L k n) t k.item n
  else putE (takeL L k n) ⟨t, k.item, k.lot, k.st⟩ n
def moveL (L : List (List Value)) (k : Ky) (n : Int) (t : ByteArray) : List (List Value) := putL (takeL L k n) ⟨t, k.item, k.lot, k.st⟩ n
def statE (LB L : List (List Value)) (k : Ky) (n st : Int) : Nat :=
  if (st < 1 ∨ 3 < st) ∨ st = k.st then 31
  else if frozB LB k.bin = true then 25
  else if takeE L k n ≠ 0 then takeE L k n
  else putE (takeL L k n) ⟨k.bin, k.item, k.lot, st⟩ n
def statL (L : List (List Value)) (k : Ky) (n st : Int) : List (List Value) := putL (takeL L k n) ⟨k.bin, k.item, k.lot, st⟩ n
theorem dropG_mem {ord : List Value → List Value → Int} {l : List (List Value)} {x e : List Value} (h : e ∈ dropG ord l x) : e ∈ l := by
  unfold dropG at h
  split at h
  · rw [List.mem_append] at h
    exact h.elim List.mem_of_mem_take List.mem_of_mem_drop
  · exact h
theorem dropG_len (ord : List Value → List Value → Int) (l : List (List Value)) (x : List Value) : (dropG ord l x).length ≤ l.length := by
  unfold dropG
  split
  · rw [List.length_append, List.length_take, List.length_drop]; omega
  · exact Nat.le_refl _
theorem upQ_things {L : List (List Value)} (h : Things kQuant L) (q : Qn) : Things kQuant (upQ L q) := fun e he => by
  unfold upQ at he
  split at he
  · exact h e (dropG_mem he)
  · rcases Pl.putG_mem he with rfl | he
    · exact q.fits
    · exact h e he
theorem upQ_len (L : List (List Value)) (q : Qn) : (upQ L q).length ≤ L.length + 1 := by
  unfold upQ
  split
  · have := dropG_len ordQuant L q.cells; omega
  · rw [Pl.putG_len]; split <;> omega
end Go.Proofs.YtjacodbmmhnopaaGreat
