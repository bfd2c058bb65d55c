/-
 THE CODE OF LAYER 15 IN PLAIN WORDS: a stand (an eligible quant as the code keeps it), the code's order, what is taken of a list of stands; the list of an item in that order, and that what is taken of it is what the document takes.
-/
import Derived.Test.YtlkmccmbpnbgbaaGreatWPl
import Derived.Test.YtlkmccmbpnbgbaaGreatVSort
namespace Go.Proofs.YtlkmccmbpnbgbaaGreat
set_option linter.unusedVariables false
open Go.RowKit
open Pl (firstG findG putG It)

namespace Pl
/-- Lists without two of a kind in an order are told by their members. -/
theorem pw_unique {α : Type} {R : α → α → Prop} (asy : ∀ a b, R a b → R b a → False) : ∀ {A B : List α}, A.Pairwise R → B.Pairwise R → (∀ x, x ∈ A ↔ x ∈ B) → A = B
 | [], [], _, _, _ => rfl
 | [], b :: B, _, _, h => by have := (h b).2 List.mem_cons_self; cases this
 | a :: A, [], _, _, h => by have := (h a).1 List.mem_cons_self; cases this
 | a :: A, b :: B, hA, hB, h => by
  obtain ⟨a1, a2⟩ := List.pairwise_cons.1 hA
  obtain ⟨b1, b2⟩ := List.pairwise_cons.1 hB
  have e : a = b := by
   rcases List.mem_cons.1 ((h a).1 List.mem_cons_self) with e | e
   · exact e
   rcases List.mem_cons.1 ((h b).2 List.mem_cons_self) with f | f
   · exact f.symm
   exact (asy _ _ (a1 b f) (b1 a e)).elim
  subst e
  rw [pw_unique asy a2 b2 (fun x => ⟨fun hx => by
   rcases List.mem_cons.1 ((h x).1 (List.mem_cons_of_mem _ hx)) with e | e
   · subst e; exact (asy _ _ (a1 _ hx) (a1 _ hx)).elim
   · exact e, fun hx => by
   rcases List.mem_cons.1 ((h x).2 (List.mem_cons_of_mem _ hx)) with e | e
   · subst e; exact (asy _ _ (b1 _ hx) (b1 _ hx)).elim
   · exact e⟩)]
/-- i is picked ahead of j. -/
def Rk (less : Nat → Nat → Bool) (i j : Nat) : Prop := less j i = false ∧ (less i j = true ∨ i < j)
theorem Rk.as {less : Nat → Nat → Bool} (i j : Nat) (h : Rk less i j) (k : Rk less j i) : False := by
 rcases h.2 with a | a
 · rw [k.1] at a; cases a
 rcases k.2 with b | b
 · rw [h.1] at b; cases b
 · omega
theorem ordN_rk {less : Nat → Nat → Bool} (W : Weak less) {m : Nat} : ∀ (f : Nat) (P : Nat → Bool), (ordN less m f P).Pairwise (Rk less)
 | 0, _ => List.Pairwise.nil
 | f + 1, P => by
  unfold ordN
  cases hb : best less P m with
  | none => exact List.Pairwise.nil
  | some i =>
   refine List.pairwise_cons.2 ⟨fun j hj => ?_, ordN_rk W f _⟩
   obtain ⟨hjm, hp⟩ := ordN_mem f _ hj
   simp only [Bool.and_eq_true, decide_eq_true_eq] at hp
   obtain ⟨b1, b2⟩ := best_min W hb
   refine ⟨b1 j hjm hp.1, ?_⟩
   rcases Nat.lt_trichotomy j i with h | h | h
   · have := W.asymm (b2 j h hp.1); rw [b1 j hjm hp.1] at *; exact .inl (b2 j h hp.1)
   · exact (hp.2 h).elim
   · exact .inr h
theorem ordN_iff {less : Nat → Nat → Bool} {m : Nat} (P : Nat → Bool) (i : Nat) : i ∈ ordN less m m P ↔ i < m ∧ P i = true :=
 ⟨fun h => ordN_mem m P h, fun h => ordN_all m P (cntN_le m P) i h.1 h.2⟩
theorem ordN_filter {less : Nat → Nat → Bool} (W : Weak less) {m : Nat} (P Q : Nat → Bool) : ordN less m m (fun i => P i && Q i) = (ordN less m m P).filter Q := by
 refine pw_unique Rk.as (ordN_rk W m _) ((ordN_rk W m P).filter Q) (fun x => ?_)
 rw [List.mem_filter, ordN_iff, ordN_iff, Bool.and_eq_true, and_assoc]
theorem range_filter_iff {m : Nat} (P : Nat → Bool) (i : Nat) : i ∈ (List.range m).filter P ↔ i < m ∧ P i = true := by rw [List.mem_filter, List.mem_range]
theorem range_pw (m : Nat) (P : Nat → Bool) : ((List.range m).filter P).Pairwise (· < ·) := List.pairwise_lt_range.filter P
theorem ordN_perm {less : Nat → Nat → Bool} {m : Nat} (P : Nat → Bool) : (ordN less m m P).Perm ((List.range m).filter P) :=
 (List.perm_ext_iff_of_nodup (ordN_nodup m P) ((List.nodup_range).sublist List.filter_sublist)).2 (fun x => by rw [ordN_iff, range_filter_iff])
/-- Among alike ones the first is picked first. -/
theorem ordN_alike {less : Nat → Nat → Bool} (W : Weak less) {m : Nat} (P Q : Nat → Bool) (hQ : ∀ i j, Q i = true → Q j = true → less i j = false) : (ordN less m m P).filter Q = ((List.range m).filter P).filter Q := by
 refine pw_unique (R := (· < ·)) (fun a b h k => by omega) ?_ ((range_pw m P).filter Q) (fun x => by rw [List.mem_filter, List.mem_filter, ordN_iff, range_filter_iff])
 refine ((ordN_rk W m P).filter Q).imp_of_mem (fun {a b} ha hb h => ?_)
 rcases h.2 with e | e
 · rw [hQ a b (List.mem_filter.1 ha).2 (List.mem_filter.1 hb).2] at e; cases e
 · exact e
theorem list_range {α : Type} (L : List α) (d : α) : L = (List.range L.length).map (fun i => L.getD i d) := by
 refine List.ext_getElem (by simp) (fun i h1 h2 => ?_)
 rw [List.getElem_map, List.getElem_range, List.getD_eq_getElem?_getD, List.getElem?_eq_getElem h1]
 rfl
theorem filter_range {α : Type} (L : List α) (d : α) (p : α → Bool) : L.filter p = ((List.range L.length).filter (fun i => p (L.getD i d))).map (fun i => L.getD i d) := by
 conv => lhs; rw [list_range L d]
 rw [List.filter_map]
 rfl
end Pl

/-! ### stands -/
structure Sd where
 bin : ByteArray
 item : ByteArray
 lot : ByteArray
 st : Int
 site : ByteArray
 day : Int
 twin : Int
 free : Int
def Sd.cells (x : Sd) : List Value := [.string x.bin, .string x.item, .string x.lot, .int .i64 x.st, .string x.site, .int .i64 x.day, .int .i64 x.twin, .int .i64 x.free]
def sdOf : List Value → Sd
 | [.string a, .string b, .string c, .int _ d, .string e, .int _ f, .int _ g, .int _ h] => ⟨a, b, c, d, e, f, g, h⟩
 | _ => ⟨⟨#[]⟩, ⟨#[]⟩, ⟨#[]⟩, 0, ⟨#[]⟩, 0, 0, 0⟩
/-- A stand, cell by cell. -/
def kstand : List CK := (kKey ++ ([.s] ++ ([.i] ++ ([.i] ++ ([.i] ++ ([] : List CK))))))
theorem sd_cells {x : List Value} (h : Fits kstand x) : x = (sdOf x).cells := by
 match x, h with
 | [c0, c1, c2, c3, c4, c5, c6, c7], h =>
  obtain ⟨⟨a0, rfl⟩, ⟨a1, rfl⟩, ⟨a2, rfl⟩, ⟨a3, rfl⟩, ⟨a4, rfl⟩, ⟨a5, rfl⟩, ⟨a6, rfl⟩, ⟨a7, rfl⟩, _⟩ := h
  rfl
theorem Sd.of (x : Sd) : sdOf x.cells = x := rfl
theorem Sd.fits (x : Sd) : Fits kstand x.cells := ⟨⟨_, rfl⟩, ⟨_, rfl⟩, ⟨_, rfl⟩, ⟨_, rfl⟩, ⟨_, rfl⟩, ⟨_, rfl⟩, ⟨_, rfl⟩, ⟨_, rfl⟩, trivial⟩
def zSd : Sd := ⟨⟨#[]⟩, ⟨#[]⟩, ⟨#[]⟩, 0, ⟨#[]⟩, 0, 0, 0⟩
/-- May anything be taken of a quant, at whatever site, of whatever item? -/
def elB (LZ LB : List (List Value)) (e : List Value) : Bool :=
 (qnOf e).st == 1 && (decide (0 < frQ e) && ((atBin LB (qnOf e).bin).isSome && ((bnOf (gotBin LB (qnOf e).bin)).kind == 1 && !(bnOf (gotBin LB (qnOf e).bin)).frz)))
def itB (item : ByteArray) (e : List Value) : Bool := Pl.eqv (qnOf e).item item
theorem may_split (LZ LB : List (List Value)) (site item : ByteArray) (e : List Value) : mayB LZ LB site item e = ((itB item e && elB LZ LB e) && Pl.eqv (siteT LZ LB (qnOf e).bin) site) := by
 unfold mayB itB elB
 cases Pl.eqv (qnOf e).item item <;> cases ((qnOf e).st == 1) <;> cases (atBin LB (qnOf e).bin).isSome <;> cases ((bnOf (gotBin LB (qnOf e).bin)).kind == 1) <;> cases (bnOf (gotBin LB (qnOf e).bin)).frz <;> cases Pl.eqv (siteT LZ LB (qnOf e).bin) site <;> cases decide (0 < frQ e) <;> rfl
/-- The stand that a quant is. -/
def stS (LL LZ LB : List (List Value)) (e : List Value) (t : Int) : Sd := ⟨(qnOf e).bin, (qnOf e).item, (qnOf e).lot, (qnOf e).st, siteT LZ LB (qnOf e).bin, dayQ LL e, t, frQ e⟩
def stE (LL LZ LB : List (List Value)) (e : List Value) (t : Int) : List Value := (stS LL LZ LB e t).cells
theorem stE_fits (LL LZ LB : List (List Value)) (e : List Value) (t : Int) : Fits kstand (stE LL LZ LB e t) := (stS LL LZ LB e t).fits
/-- The code's order. -/
def ordS (a b : List Value) : Int := firstNZ [cmpI (sdOf a).day (sdOf b).day, Pl.cmp (sdOf a).lot (sdOf b).lot, Pl.cmp (sdOf a).bin (sdOf b).bin, cmpI (sdOf a).twin (sdOf b).twin]
def lessS : List Value → List Value → Bool :=
 Pl.lex (fun a b => decide ((sdOf a).day < (sdOf b).day)) (Pl.lex (fun a b => Pl.lt (sdOf a).lot (sdOf b).lot) (Pl.lex (fun a b => Pl.lt (sdOf a).bin (sdOf b).bin) (fun a b => decide ((sdOf a).twin < (sdOf b).twin))))
theorem lessS_weak : Pl.Weak lessS := (Pl.Weak.int (fun a => (sdOf a).day)).lex ((Pl.Weak.text (fun a => (sdOf a).lot)).lex ((Pl.Weak.text (fun a => (sdOf a).bin)).lex (Pl.Weak.int (fun a => (sdOf a).twin))))
theorem cmp_threeS (a b : ByteArray) : Pl.cmp a b = -1 ∨ Pl.cmp a b = 0 ∨ Pl.cmp a b = 1 := by unfold Pl.cmp; split <;> (try split) <;> simp
theorem ordS_neg (a b : List Value) : decide (ordS a b < 0) = lessS a b := by
 unfold ordS lessS
 rw [orI_neg _ _ (cmpI_three _ _), orI_neg _ _ (cmp_threeS _ _), orI_neg _ _ (cmp_threeS _ _), orI_neg _ _ (cmpI_three _ _)]
 simp only [cmpI_neg, cmpI_pos, cmp_neg, Pl.cmp_pos, firstNZ_nil, Pl.lex]
 simp
/-! ### what is taken of a list of stands -/
def takeS (x : Sd) (n : Int) : List Value := [.string x.bin, .string x.item, .string x.lot, .int .i64 x.st, .int .i64 n]
def cutS (site : ByteArray) : List (List Value) → Int → List (List Value)
 | [], _ => []
 | e :: l, q => if q ≤ 0 then [] else if Pl.eqv (sdOf e).site site = true then takeS (sdOf e) (min (sdOf e).free q) :: cutS site l (q - min (sdOf e).free q) else cutS site l q
theorem cutS_done (site : ByteArray) (l : List (List Value)) {q : Int} (h : q ≤ 0) : cutS site l q = [] := by
 cases l with
 | nil => rfl
 | cons e l => show (if q ≤ 0 then _ else _) = _; rw [if_pos h]
theorem cutS_here (site : ByteArray) (e : List Value) (l : List (List Value)) {q : Int} (h : 0 < q) (hs : Pl.eqv (sdOf e).site site = true) : cutS site (e :: l) q = takeS (sdOf e) (min (sdOf e).free q) :: cutS site l (q - min (sdOf e).free q) := by
 show (if q ≤ 0 then _ else _) = _
 rw [if_neg (by omega), if_pos hs]
theorem cutS_else (site : ByteArray) (e : List Value) (l : List (List Value)) {q : Int} (hs : Pl.eqv (sdOf e).site site = false) : cutS site (e :: l) q = cutS site l q := by
 show (if q ≤ 0 then _ else _) = _
 by_cases h : q ≤ 0
 · rw [if_pos h, cutS_done site l h]
 · rw [if_neg h, if_neg (by rw [hs]; simp)]
/-! ### the list of an item -/
def lessQ (L : Nat → List (List Value)) (i j : Nat) : Bool := aheadQ (L 1) (qA (L 4) i) (qA (L 4) j)
theorem lessQ_weak (L : Nat → List (List Value)) : Pl.Weak (lessQ L) := (aheadQ_weak (L 1)).on (qA (L 4))
def elN (L : Nat → List (List Value)) (item : ByteArray) (i : Nat) : Bool := itB item (qA (L 4) i) && elB (L 2) (L 3) (qA (L 4) i)
/-- The quants of an item of which anything may be taken, in their order. -/
def ordP (L : Nat → List (List Value)) (item : ByteArray) : List Nat := Pl.ordN (lessQ L) (L 4).length (L 4).length (elN L item)
def stA (L : Nat → List (List Value)) (t : Nat → Int) (i : Nat) : List Value := stE (L 1) (L 2) (L 3) (qA (L 4) i) (t i)
theorem cut_pick (L : Nat → List (List Value)) (t : Nat → Int) (site : ByteArray) : ∀ (I : List Nat) (q : Int),
 cutS site (I.map (stA L t)) q = (Pl.cutN (fun i => frQ (qA (L 4) i)) (I.filter (fun i => Pl.eqv (siteT (L 2) (L 3) (qnOf (qA (L 4) i)).bin) site)) q).map (takeQ (L 4))
 | [], _ => rfl
 | i :: I, q => by
  by_cases hq : q ≤ 0
  · rw [cutS_done site _ hq, Pl.cutN_done _ _ hq]; rfl
  cases hs : Pl.eqv (siteT (L 2) (L 3) (qnOf (qA (L 4) i)).bin) site with
  | true =>
   rw [List.filter_cons_of_pos (by exact hs), Pl.cutN_cons _ _ _ (by omega), List.map_cons, cutS_here site _ _ (by omega) (by exact hs), List.map_cons]
   exact congrArg (List.cons _) (cut_pick L t site I _)
  | false =>
   rw [List.filter_cons_of_neg (by rw [hs]; simp), List.map_cons, cutS_else site _ _ (by exact hs)]
   exact cut_pick L t site I q
/-- What is taken of an item's list is what the document takes. -/
theorem pick_of (L : Nat → List (List Value)) (t : Nat → Int) (site item : ByteArray) (q : Int) : cutS site ((ordP L item).map (stA L t)) q = pickL L site item q := by
 rw [cut_pick]
 unfold pickL pickI ordQs ordP
 rw [← Pl.ordN_filter (lessQ_weak L)]
 have e : (fun i => mayB (L 2) (L 3) site item (qA (L 4) i)) = fun i => elN L item i && Pl.eqv (siteT (L 2) (L 3) (qnOf (qA (L 4) i)).bin) site := funext (fun i => may_split _ _ _ _ _)
 rw [e]
 rfl
/-- What an item's stands are, as they stand in the house. -/
def standsL (L : Nat → List (List Value)) (item : ByteArray) : List (List Value) := ((L 4).filter (fun e => itB item e && elB (L 2) (L 3) e)).map (fun e => stE (L 1) (L 2) (L 3) e 0)
theorem stands_range (L : Nat → List (List Value)) (item : ByteArray) : standsL L item = ((List.range (L 4).length).filter (elN L item)).map (stA L (fun _ => 0)) := by
 unfold standsL
 rw [Pl.filter_range (L 4) []]
 rw [List.map_map]
 rfl
theorem lex_bool (a b c d e f t : Bool) : (a || (!b && (c || (!d && (e || (!f && t)))))) = ((a || (!b && (c || (!d && e)))) || (!(b || (!a && (d || (!c && f)))) && t)) := by
 cases a <;> cases b <;> cases c <;> cases d <;> cases e <;> cases f <;> cases t <;> rfl
theorem lessS_st (LL LZ LB : List (List Value)) (a b : List Value) (s t : Int) : lessS (stE LL LZ LB a s) (stE LL LZ LB b t) = (aheadQ LL a b || (!aheadQ LL b a && decide (s < t))) :=
 lex_bool (decide (dayQ LL a < dayQ LL b)) (decide (dayQ LL b < dayQ LL a)) (Pl.lt (qnOf a).lot (qnOf b).lot) (Pl.lt (qnOf b).lot (qnOf a).lot) (Pl.lt (qnOf a).bin (qnOf b).bin) (Pl.lt (qnOf b).bin (qnOf a).bin) (decide (s < t))
theorem lessS_same (L : Nat → List (List Value)) (z : Int) (i j : Nat) : lessS (stA L (fun _ => z) i) (stA L (fun _ => z) j) = lessQ L i j := by
 unfold stA
 rw [lessS_st]
 simp [lessQ]
/-- What a stable sort makes of an item's stands. -/
theorem naive_list {L : Nat → List (List Value)} {item : ByteArray} {C : List (List Value)} (hs : Pl.Srt lessS C) (hb : Pl.Stb lessS C (standsL L item)) : C = (ordP L item).map (stA L (fun _ => 0)) := by
 have hD : Pl.Srt lessS ((ordP L item).map (stA L (fun _ => 0))) := by
  refine List.pairwise_map.2 ((Pl.ordN_rk (lessQ_weak L) _ _).imp (fun {a b} h => ?_))
  rw [lessS_same]
  exact h.1
 refine Pl.Stb.unique lessS_weak hs hD (hb.trans ⟨?_, fun x => ?_⟩)
 · rw [stands_range]
   exact ((Pl.ordN_perm _).map _).symm
 · rw [stands_range]
   unfold ordP
   rw [List.filter_map, List.filter_map]
   congr 1
   symm
   refine Pl.ordN_alike (lessQ_weak L) _ _ (fun i j hi hj => ?_)
   simp only [Function.comp_def] at hi hj
   rw [← lessS_same L 0]
   obtain ⟨h1, h2⟩ := Pl.al_iff.1 hi
   obtain ⟨h3, h4⟩ := Pl.al_iff.1 hj
   cases hc : lessS (stA L (fun _ => 0) i) (stA L (fun _ => 0) j) with
   | false => rfl
   | true =>
    rcases lessS_weak.nt _ x _ hc with h5 | h5
    · rw [h2] at h5; cases h5
    · rw [h3] at h5; cases h5
theorem things_st (L : Nat → List (List Value)) (t : Nat → Int) (I : List Nat) : Things kstand (I.map (stA L t)) := fun e he => by
 obtain ⟨i, _, rfl⟩ := List.mem_map.1 he
 exact stE_fits _ _ _ _ _
theorem stands_things (L : Nat → List (List Value)) (item : ByteArray) : Things kstand (standsL L item) := by rw [stands_range]; exact things_st _ _ _
end Go.Proofs.YtlkmccmbpnbgbaaGreat
