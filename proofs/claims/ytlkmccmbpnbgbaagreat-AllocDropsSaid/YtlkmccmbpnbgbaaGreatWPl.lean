/-
 LAYER 15 IN PLAIN WORDS: which quants may be taken, in which order they are taken, how much is open.
-/
import Derived.Test.YtlkmccmbpnbgbaaGreatOPl
namespace Go.Proofs.YtlkmccmbpnbgbaaGreat
set_option linter.unusedVariables false
open Go.RowKit
open Pl (firstG findG putG It)

namespace Pl
/-- The order in which those that pass are picked, the first least one first. -/
def ordN (less : Nat → Nat → Bool) (m : Nat) : Nat → (Nat → Bool) → List Nat
 | 0, _ => []
 | f + 1, P => match best less P m with
  | none => []
  | some i => i :: ordN less m f (fun j => P j && decide (j ≠ i))
/-- How much is taken of each, until it is enough. -/
def cutN (fr : Nat → Int) : List Nat → Int → List (Nat × Int)
 | [], _ => []
 | i :: l, q => if q ≤ 0 then [] else (i, min (fr i) q) :: cutN fr l (q - min (fr i) q)
theorem cutN_done (fr : Nat → Int) (l : List Nat) {q : Int} (h : q ≤ 0) : cutN fr l q = [] := by
 cases l with
 | nil => rfl
 | cons i l => show (if q ≤ 0 then _ else _) = _; rw [if_pos h]
theorem ordN_mem {less : Nat → Nat → Bool} {m : Nat} : ∀ (f : Nat) (P : Nat → Bool) {i : Nat}, i ∈ ordN less m f P → i < m ∧ P i = true
 | 0, _, i, h => by simp [ordN] at h
 | f + 1, P, i, h => by
  unfold ordN at h
  cases hb : best less P m with
  | none => rw [hb] at h; simp at h
  | some j =>
   rw [hb] at h
   simp only [List.mem_cons] at h
   rcases h with rfl | h
   · exact best_lt hb
   · have := ordN_mem f _ h
     simp only [Bool.and_eq_true] at this
     exact ⟨this.1, this.2.1⟩
theorem ordN_nodup {less : Nat → Nat → Bool} {m : Nat} : ∀ (f : Nat) (P : Nat → Bool), (ordN less m f P).Nodup
 | 0, _ => by simp [ordN]
 | f + 1, P => by
  unfold ordN
  cases hb : best less P m with
  | none => simp
  | some j =>
   simp only [List.nodup_cons]
   refine ⟨fun h => ?_, ordN_nodup f _⟩
   have := (ordN_mem f _ h).2
   simp at this
/-- How many pass. -/
def cntN (m : Nat) (P : Nat → Bool) : Nat := ((List.range m).filter P).length
theorem cntN_drop {m : Nat} {P : Nat → Bool} {i : Nat} (hi : i < m) (hp : P i = true) : cntN m (fun j => P j && decide (j ≠ i)) + 1 = cntN m P := by
 unfold cntN
 have h1 : ((List.range m).filter fun j => P j && decide (j ≠ i)) = ((List.range m).filter P).erase i := by
  rw [List.Nodup.erase_eq_filter ((List.nodup_range).sublist List.filter_sublist), List.filter_filter]
  congr 1
  funext j
  rw [Bool.and_comm]
  congr 1
  by_cases h : j = i <;> simp [h]
 rw [h1, List.length_erase_of_mem (List.mem_filter.2 ⟨List.mem_range.2 hi, hp⟩)]
 have : 0 < ((List.range m).filter P).length := List.length_pos_of_mem (List.mem_filter.2 ⟨List.mem_range.2 hi, hp⟩)
 omega
theorem ordN_all {less : Nat → Nat → Bool} {m : Nat} : ∀ (f : Nat) (P : Nat → Bool), cntN m P ≤ f → ∀ i, i < m → P i = true → i ∈ ordN less m f P
 | 0, P, h, i, hi, hp => by
  have := cntN_drop hi hp
  omega
 | f + 1, P, h, i, hi, hp => by
  unfold ordN
  cases hb : best less P m with
  | none => rw [best_none.1 hb i hi] at hp; cases hp
  | some j =>
   obtain ⟨hj, hpj⟩ := best_lt hb
   by_cases e : i = j
   · subst e; simp
   · refine List.mem_cons_of_mem _ (ordN_all f _ ?_ i hi ?_)
     · have := cntN_drop hj hpj; omega
     · simp [hp, e]
theorem cntN_le (m : Nat) (P : Nat → Bool) : cntN m P ≤ m := by
 unfold cntN
 have := List.length_filter_le P (List.range m)
 simpa using this
/-- Fuel beyond what passes changes nothing. -/
theorem ordN_fuel {less : Nat → Nat → Bool} {m : Nat} : ∀ (f g : Nat) (P : Nat → Bool), cntN m P ≤ f → f ≤ g → ordN less m g P = ordN less m f P
 | 0, g, P, h, _ => by
  have hn : best less P m = none := best_none.2 (fun i hi => by
   cases hp : P i with
   | false => rfl
   | true => have := cntN_drop hi hp; omega)
  cases g with
  | zero => rfl
  | succ g => unfold ordN; rw [hn]
 | f + 1, g, P, h, hg => by
  cases g with
  | zero => omega
  | succ g =>
   unfold ordN
   cases hb : best less P m with
   | none => rfl
   | some j =>
    obtain ⟨hj, hpj⟩ := best_lt hb
    have := cntN_drop hj hpj
    simp only []
    rw [ordN_fuel f g _ (by omega) (by omega)]
theorem ordN_congr {less : Nat → Nat → Bool} {m : Nat} : ∀ (f : Nat) {P Q : Nat → Bool}, (∀ i, i < m → P i = Q i) → ordN less m f P = ordN less m f Q
 | 0, _, _, _ => rfl
 | f + 1, P, Q, h => by
  unfold ordN
  rw [best_congr (k := m) h (fun _ _ _ _ => rfl)]
  cases best less Q m with
  | none => rfl
  | some j =>
   simp only []
   rw [ordN_congr f (fun i hi => by rw [h i hi])]
theorem ordN_none {less : Nat → Nat → Bool} {m : Nat} {P : Nat → Bool} (hb : best less P m = none) : ordN less m m P = [] := by
 cases m with
 | zero => rfl
 | succ k => unfold ordN; rw [hb]
theorem ordN_step {less : Nat → Nat → Bool} {m : Nat} {P : Nat → Bool} {i : Nat} (hb : best less P m = some i) : ordN less m m P = i :: ordN less m m (fun j => P j && decide (j ≠ i)) := by
 cases m with
 | zero => simp [best] at hb
 | succ k =>
  have h := cntN_drop (best_lt hb).1 (best_lt hb).2
  have h2 := cntN_le (k + 1) P
  have h3 : ordN less (k + 1) (k + 1) P = match best less P (k + 1) with
   | none => []
   | some i => i :: ordN less (k + 1) k (fun j => P j && decide (j ≠ i)) := rfl
  rw [h3, hb]
  simp only []
  rw [ordN_fuel k (k + 1) _ (Nat.le_of_succ_le_succ (Nat.le_trans (Nat.le_of_eq h) h2)) (by omega)]
theorem cutN_cons (fr : Nat → Int) (i : Nat) (l : List Nat) {q : Int} (h : 0 < q) : cutN fr (i :: l) q = (i, min (fr i) q) :: cutN fr l (q - min (fr i) q) := by
 show (if q ≤ 0 then _ else _) = _
 rw [if_neg (by omega)]
end Pl
/-- A number as a machine holds it. -/
def Wf (z : Int) : Prop := -9223372036854775808 ≤ z ∧ z ≤ 9223372036854775807
/-- What is free of a quant; the day of its lot. -/
def frQ (e : List Value) : Int := wrap64 ((qnOf e).qty - (qnOf e).held)
def dayQ (LL : List (List Value)) (e : List Value) : Int := dayZ LL (qnOf e).item (qnOf e).lot
/-- May a quant be taken? -/
def mayB (LZ LB : List (List Value)) (site item : ByteArray) (e : List Value) : Bool :=
 Pl.eqv (qnOf e).item item && ((qnOf e).st == 1 && ((atBin LB (qnOf e).bin).isSome && ((bnOf (gotBin LB (qnOf e).bin)).kind == 1 && (!(bnOf (gotBin LB (qnOf e).bin)).frz && (Pl.eqv (siteT LZ LB (qnOf e).bin) site && decide (0 < frQ e))))))
/-- Is a quant taken ahead of another one? -/
def aheadQ (LL : List (List Value)) : List Value → List Value → Bool :=
 Pl.lex (fun a b => decide (dayQ LL a < dayQ LL b)) (Pl.lex (fun a b => Pl.lt (qnOf a).lot (qnOf b).lot) (fun a b => Pl.lt (qnOf a).bin (qnOf b).bin))
theorem aheadQ_weak (LL : List (List Value)) : Pl.Weak (aheadQ LL) := (Pl.Weak.int (dayQ LL)).lex ((Pl.Weak.text (fun a => (qnOf a).lot)).lex (Pl.Weak.text (fun a => (qnOf a).bin)))
/-- The i-th quant. -/
def qA (LQ : List (List Value)) (i : Nat) : List Value := LQ.getD i []
theorem qA_at (LQ : List (List Value)) (i : Nat) (h : i < LQ.length) : qA LQ i = LQ[i] := by unfold qA; rw [List.getD_eq_getElem?_getD, List.getElem?_eq_getElem h]; rfl
/-- The quants that may be taken, in their order; what is taken of them. -/
def ordQs (L : Nat → List (List Value)) (site item : ByteArray) : List Nat :=
 Pl.ordN (fun i j => aheadQ (L 1) (qA (L 4) i) (qA (L 4) j)) (L 4).length (L 4).length (fun i => mayB (L 2) (L 3) site item (qA (L 4) i))
def takeQ (LQ : List (List Value)) (p : Nat × Int) : List Value := [.string (qnOf (qA LQ p.1)).bin, .string (qnOf (qA LQ p.1)).item, .string (qnOf (qA LQ p.1)).lot, .int .i64 (qnOf (qA LQ p.1)).st, .int .i64 p.2]
/-- What is taken of a quant, cell by cell. -/
def kTake : List CK := (kKey ++ ([.i] ++ ([] : List CK)))
theorem takeQ_fits (LQ : List (List Value)) (p : Nat × Int) : Fits kTake (takeQ LQ p) := ⟨⟨_, rfl⟩, ⟨_, rfl⟩, ⟨_, rfl⟩, ⟨_, rfl⟩, ⟨_, rfl⟩, trivial⟩
def pickI (L : Nat → List (List Value)) (site item : ByteArray) (q : Int) : List (Nat × Int) := Pl.cutN (fun i => frQ (qA (L 4) i)) (ordQs L site item) q
def pickL (L : Nat → List (List Value)) (site item : ByteArray) (q : Int) : List (List Value) := (pickI L site item q).map (takeQ (L 4))
/-- How much is open. -/
def openZ (L : Nat → List (List Value)) (site item : ByteArray) : Int :=
 (L 4).foldl (fun n e => if mayB (L 2) (L 3) site item e = true then wrap64 (wrap64 (n + (qnOf e).qty) - (qnOf e).held) else n) 0
end Go.Proofs.YtlkmccmbpnbgbaaGreat
