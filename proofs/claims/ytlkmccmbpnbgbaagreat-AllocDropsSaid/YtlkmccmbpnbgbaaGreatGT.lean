/-
 PLAIN: lists of whatever things in an order: what is found, put and dropped.
 PLAIN: a list without the first thing of a name, step by step.
 FUNCTION VALUES of things: orders and predicates. WORDS of a table's boxes. (By wip/tools/port9.py.) A THING STORED into a row of the call's own. CONTRACTS of the table's functions, for things of one kind. (By wip/tools/gen_table.py.) CONTRACTS of the table's functions, for things of one kind. (By wip/tools/gen_table.py.) CONTRACTS of the table's functions, for things of one kind. (By wip/tools/gen_table.py.) CONTRACTS of the table's functions, for things of one kind. (By wip/tools/gen_table.py.) (By wip/tools/merge.py.)
 WORDS: a new row of things is handed back.
 WORDS of a house's block, of rows beside it.
 WHAT A CALL LEAVES that puts a thing into one of a house's lists, or says what is wrong.
 A HOUSE IN A BOX of its own, whatever house it was at the start: it may be filled with the next one, again and again.
 WHAT A CALL LEAVES that hands back a house, of whatever lists, or what is wrong.
-/
import Derived.Laws.Cover1
import Derived.Sort.Walk0
import Derived.Test.YtlkmccmbpnbgbaaGreatHHouse
import Derived.Defers
import Derived.Recover
import Derived.Laws.Pointers
import Derived.Deep.LoopGhost
namespace Go.Proofs.YtlkmccmbpnbgbaaGreat.Pl
set_option linter.unusedVariables false

def lt (a b : ByteArray) : Bool := Op.bytesLess a.toList b.toList
def eqv (a b : ByteArray) : Bool := a.toList == b.toList
def cmp (a b : ByteArray) : Int := if lt a b = true then -1 else if eqv a b = true then 0 else 1

theorem lt_iff (a b : ByteArray) : lt a b = true ↔ a.toList < b.toList := by
 unfold lt; rw [Go.Proofs.bytesLess_eq]; simp
theorem eqv_iff (a b : ByteArray) : eqv a b = true ↔ a = b := by
 unfold eqv
 rw [beq_iff_eq, ByteArray.toList_eq, ByteArray.toList_eq]
 constructor
 · intro h
   cases a; cases b
   congr
   exact Array.toList_inj.1 h
 · rintro rfl; rfl
theorem lt_irrefl (a : ByteArray) : lt a a = false := by
 rw [Bool.eq_false_iff]; intro h; rw [lt_iff] at h; exact List.lt_irrefl _ h
theorem lt_trans {a b c : ByteArray} (h : lt a b = true) (k : lt b c = true) : lt a c = true := by
 rw [lt_iff] at *; exact List.lt_trans h k
theorem lt_asymm {a b : ByteArray} (h : lt a b = true) : lt b a = false := by
 rw [Bool.eq_false_iff]; intro k; exact absurd (lt_trans h k) (by rw [lt_irrefl]; simp)
theorem lt_tri (a b : ByteArray) : lt a b = true ∨ a = b ∨ lt b a = true := by
 by_cases h : lt a b = true
 · exact .inl h
 · by_cases k : lt b a = true
   · exact .inr (.inr k)
   · rw [lt_iff] at h k
     refine .inr (.inl ?_)
     have : a.toList = b.toList := List.le_antisymm k h
     exact (eqv_iff a b).1 (by unfold eqv; rw [this]; simp)
theorem cmp_zero (a b : ByteArray) : (cmp a b == 0) = eqv a b := by
 unfold cmp
 by_cases h : lt a b = true
 · have : eqv a b = false := by
    rw [Bool.eq_false_iff]; intro e; rw [eqv_iff] at e; subst e; rw [lt_irrefl] at h; cases h
   simp [h, this]
 · by_cases k : eqv a b = true <;> simp [h, k]
theorem cmp_pos (a b : ByteArray) : decide (0 < cmp a b) = lt b a := by
 unfold cmp
 by_cases h : lt a b = true
 · simp [h, lt_asymm h]
 · by_cases k : eqv a b = true
   · have := (eqv_iff a b).1 k
     subst this
     simp [k, lt_irrefl]
   · have : lt b a = true := by
      rcases lt_tri a b with h' | h' | h'
      · exact absurd h' h
      · exact absurd ((eqv_iff a b).2 h') k
      · exact h'
     simp [h, k, this]
section
variable {α : Type}
/-- The place of the first thing that is so. -/
def firstG (f : α → Bool) (l : List α) : Option Nat := l.findIdx? f
theorem firstG_none {f : α → Bool} {l : List α} (h : ∀ j (hj : j < l.length), f l[j] = false) : firstG f l = none := by
 unfold firstG
 rw [List.findIdx?_eq_none_iff]
 intro x hx
 obtain ⟨j, hj, rfl⟩ := List.getElem_of_mem hx
 exact h j hj
theorem firstG_some {f : α → Bool} {l : List α} {k : Nat} (hk : k < l.length) (h : ∀ j (hj : j < l.length), j < k → f l[j] = false) (ht : f l[k] = true) : firstG f l = some k := by
 unfold firstG
 rw [List.findIdx?_eq_some_iff_getElem]
 exact ⟨hk, ht, fun j hj => by simp [h j (by omega) hj]⟩
theorem firstG_lt {f : α → Bool} {l : List α} {k : Nat} (h : firstG f l = some k) : k < l.length := by
 unfold firstG at h
 rw [List.findIdx?_eq_some_iff_getElem] at h
 exact h.1
theorem firstG_at {f : α → Bool} {l : List α} {k : Nat} (h : firstG f l = some k) (hk : k < l.length) : f l[k] = true := by
 unfold firstG at h
 rw [List.findIdx?_eq_some_iff_getElem] at h
 exact h.2.1
/-- The place of the first thing of x's name; of the first one that is greater. -/
def findG (ord : α → α → Int) (l : List α) (x : α) : Option Nat := firstG (fun e => ord e x == 0) l
def overG (ord : α → α → Int) (l : List α) (x : α) : Option Nat := firstG (fun e => decide (0 < ord e x)) l
def putG (ord : α → α → Int) (l : List α) (x : α) : List α :=
 match findG ord l x with
 | some i => l.take i ++ [x] ++ l.drop (i + 1)
 | none => match overG ord l x with
  | some i => l.take i ++ [x] ++ l.drop i
  | none => l ++ [x]
def dropG (ord : α → α → Int) (l : List α) (x : α) : List α :=
 match findG ord l x with
 | some i => l.take i ++ l.drop (i + 1)
 | none => l
theorem putG_len (ord : α → α → Int) (l : List α) (x : α) : (putG ord l x).length = if (findG ord l x).isSome then l.length else l.length + 1 := by
 unfold putG
 split
 · rename_i i hi
   have : i < l.length := firstG_lt hi
   simp only [List.length_append, List.length_take, List.length_drop, List.length_cons, List.length_nil, hi, Option.isSome_some, if_true]
   omega
 · rename_i hn
   split
   · rename_i i hi
     have : i < l.length := firstG_lt hi
     simp only [List.length_append, List.length_take, List.length_drop, List.length_cons, List.length_nil, hn, Option.isSome_none, Bool.false_eq_true, if_false]
     omega
   · simp [hn]
theorem putG_mem {ord : α → α → Int} {l : List α} {x e : α} (h : e ∈ putG ord l x) : e = x ∨ e ∈ l := by
 unfold putG at h
 split at h
 · simp only [List.mem_append, List.mem_singleton] at h
   rcases h with (h | h) | h
   · exact .inr (List.mem_of_mem_take h)
   · exact .inl h
   · exact .inr (List.mem_of_mem_drop h)
 · split at h
   · simp only [List.mem_append, List.mem_singleton] at h
     rcases h with (h | h) | h
     · exact .inr (List.mem_of_mem_take h)
     · exact .inl h
     · exact .inr (List.mem_of_mem_drop h)
   · simp only [List.mem_append, List.mem_singleton] at h
     exact h.symm
/-- One step of putting x in: what is there so far, and whether x is among it. -/
def insS (ord : α → α → Int) (x : α) (r : List α × Bool) (p : α) : List α × Bool := if !r.2 && decide (0 < ord p x) then (r.1 ++ [x] ++ [p], true) else (r.1 ++ [p], r.2)
def insK (ord : α → α → Int) (x : α) (l : List α) (k : Nat) : List α × Bool := (l.take k).foldl (insS ord x) ([], false)
theorem insK_succ (ord : α → α → Int) (x : α) (l : List α) (k : Nat) (h : k < l.length) : insK ord x l (k + 1) = insS ord x (insK ord x l k) l[k] := by
 unfold insK
 rw [List.take_succ_eq_append_getElem h, List.foldl_append]
 rfl
theorem insK_len (ord : α → α → Int) (x : α) (l : List α) (k : Nat) : (insK ord x l k).1.length ≤ k + (if (insK ord x l k).2 then 1 else 0) := by
 induction k with
 | zero => simp [insK]
 | succ k ih =>
  by_cases h : k < l.length
  · rw [insK_succ ord x l k h]
    unfold insS
    split
    · rename_i hh
      have : (insK ord x l k).2 = false := by
       cases e : (insK ord x l k).2
       · rfl
       · rw [e] at hh; simp at hh
      rw [this] at ih
      simp only [List.length_append, List.length_cons, List.length_nil, if_true]
      simp at ih
      omega
    · simp only [List.length_append, List.length_cons, List.length_nil]
      omega
  · have : insK ord x l (k + 1) = insK ord x l k := by
     unfold insK
     rw [List.take_of_length_le (by omega), List.take_of_length_le (by omega)]
    rw [this]
    omega
theorem insK_form (ord : α → α → Int) (x : α) (l : List α) (k : Nat) (hk : k ≤ l.length) :
 ((insK ord x l k).2 = false ∧ (insK ord x l k).1 = l.take k ∧ ∀ j, (hj : j < l.length) → j < k → decide (0 < ord l[j] x) = false) ∨
 ((insK ord x l k).2 = true ∧ ∃ i, i < k ∧ overG ord l x = some i ∧ (insK ord x l k).1 = l.take i ++ [x] ++ (l.take k).drop i) := by
 induction k with
 | zero => exact .inl ⟨rfl, by simp [insK], fun j _ h => by omega⟩
 | succ k ih =>
  have hl : k < l.length := hk
  rw [insK_succ ord x l k hl]
  rcases ih (by omega) with ⟨h1, h2, h3⟩ | ⟨h1, i, hi, ho, h2⟩
  · by_cases hlt : decide (0 < ord l[k] x) = true
    · refine .inr ⟨by simp only [insS, h1, hlt]; rfl, k, by omega, firstG_some hl (fun j hj hjk => h3 j hj hjk) hlt, ?_⟩
      simp only [insS, h1, hlt, Bool.not_false, Bool.and_self, if_true, h2]
      rw [List.take_succ_eq_append_getElem hl]
      rw [List.drop_append_of_le_length (by rw [List.length_take]; omega), List.drop_eq_nil_of_le (by rw [List.length_take]; omega), List.nil_append]
    · have hlt' : decide (0 < ord l[k] x) = false := by simpa using hlt
      refine .inl ⟨by simp only [insS, h1, hlt']; rfl, ?_, fun j hj hjk => ?_⟩
      · simp only [insS, h1, hlt', Bool.and_false, Bool.false_eq_true, if_false, h2]
        rw [List.take_succ_eq_append_getElem hl]
      · by_cases e : j = k
        · subst e; exact hlt'
        · exact h3 j hj (by omega)
  · refine .inr ⟨by simp [insS, h1], i, by omega, ho, ?_⟩
    simp only [insS, h1, Bool.not_true, Bool.false_and, Bool.false_eq_true, if_false, h2]
    rw [List.take_succ_eq_append_getElem hl, List.drop_append_of_le_length (by rw [List.length_take]; omega)]
    simp
theorem insK_put (ord : α → α → Int) (x : α) (l : List α) (h : findG ord l x = none) : putG ord l x = if (insK ord x l l.length).2 then (insK ord x l l.length).1 else (insK ord x l l.length).1 ++ [x] := by
 unfold putG
 rw [h]
 simp only
 rcases insK_form ord x l l.length (Nat.le_refl _) with ⟨h1, h2, h3⟩ | ⟨h1, i, hi, ho, h2⟩
 · rw [show overG ord l x = none from firstG_none fun j hj => h3 j hj hj, h1, h2]
   simp
 · rw [ho, h1, h2]
   simp
theorem put_set (ord : α → α → Int) (x : α) (l : List α) (i : Nat) (h : findG ord l x = some i) : putG ord l x = l.set i x := by
 have hi : i < l.length := firstG_lt h
 unfold putG
 rw [h]
 simp only
 rw [List.set_eq_take_append_cons_drop, if_pos hi]
 simp
end
end Go.Proofs.YtlkmccmbpnbgbaaGreat.Pl

namespace Go.Proofs.YtlkmccmbpnbgbaaGreat.Pl
set_option linter.unusedVariables false

section
variable {α : Type}
def dropS (ord : α → α → Int) (x : α) (r : List α × Bool) (p : α) : List α × Bool := if (!r.2 && (ord p x == 0)) = true then (r.1, true) else (r.1 ++ [p], r.2)
def dropK (ord : α → α → Int) (x : α) (l : List α) (k : Nat) : List α × Bool := (l.take k).foldl (dropS ord x) ([], false)
theorem dropK_succ (ord : α → α → Int) (x : α) (l : List α) (k : Nat) (h : k < l.length) : dropK ord x l (k + 1) = dropS ord x (dropK ord x l k) l[k] := by
 unfold dropK
 rw [List.take_succ_eq_append_getElem h, List.foldl_append]; rfl
theorem drop_true (ord : α → α → Int) (x : α) : ∀ (l acc : List α), l.foldl (dropS ord x) (acc, true) = (acc ++ l, true)
 | [], acc => by simp
 | p :: l, acc => by
  have h : dropS ord x (acc, true) p = (acc ++ [p], true) := rfl
  rw [List.foldl_cons, h, drop_true ord x l]; simp
theorem dropG_cons (ord : α → α → Int) (x p : α) (l : List α) : dropG ord (p :: l) x = if (ord p x == 0) = true then l else p :: dropG ord l x := by
 unfold dropG findG firstG
 rw [List.findIdx?_cons]
 by_cases h : (ord p x == 0) = true
 · rw [if_pos h, if_pos h]; simp
 · rw [if_neg h, if_neg h]
   cases hf : List.findIdx? (fun e => ord e x == 0) l with
   | none => simp
   | some i => simp
theorem drop_false (ord : α → α → Int) (x : α) : ∀ (l acc : List α), (l.foldl (dropS ord x) (acc, false)).1 = acc ++ dropG ord l x
 | [], acc => by simp [dropG, findG, firstG]
 | p :: l, acc => by
  rw [List.foldl_cons, dropG_cons]
  by_cases h : (ord p x == 0) = true
  · have hs : dropS ord x (acc, false) p = (acc, true) := by unfold dropS; rw [h]; rfl
    rw [hs, drop_true, if_pos h]
  · have hs : dropS ord x (acc, false) p = (acc ++ [p], false) := by
     unfold dropS
     have : (ord p x == 0) = false := by simpa using h
     rw [this]; rfl
    rw [hs, drop_false ord x l, if_neg h]; simp
theorem dropK_all (ord : α → α → Int) (x : α) (l : List α) : (dropK ord x l l.length).1 = dropG ord l x := by
 unfold dropK
 rw [List.take_length, drop_false]; simp
theorem dropK_len (ord : α → α → Int) (x : α) (l : List α) : ∀ k, k ≤ l.length → (dropK ord x l k).1.length ≤ k
 | 0, _ => by simp [dropK]
 | k + 1, h => by
  have ih := dropK_len ord x l k (by omega)
  rw [dropK_succ ord x l k (by omega)]
  unfold dropS
  split
  · show (dropK ord x l k).1.length ≤ k + 1; omega
  · rw [List.length_append]; simp; omega
end
end Go.Proofs.YtlkmccmbpnbgbaaGreat.Pl

namespace Go.Proofs.YtlkmccmbpnbgbaaGreat
set_option linter.unusedVariables false
open Go.RowKit
open Pl (firstG firstG_none firstG_some findG overG putG)

/-- A function value that answers f of a thing, in every world behind w. -/
def TellsF (ks : List CK) (w : World) (K : Nat) (cap : Array Value) (f : List Value → Bool) : Prop :=
 (∀ (args : Array Value) (W : World), (callFunc K args).run Tryz.prog W = .ok (.enter K args) W) ∧
 ∀ W, Below w.heap.size w W → ∀ e, Fits ks e → Calls Tryz.prog K (#[.agg e.toArray] ++ cap) W fun r W' => r = .returned (.bool (f e)) ∧ Below W.heap.size W W'
theorem TellsF.later {ks : List CK} {w w' : World} {K : Nat} {cap : Array Value} {f : List Value → Bool} (h : TellsF ks w K cap f) (hb : Below w.heap.size w w') : TellsF ks w' K cap f :=
 ⟨h.1, fun W hW => h.2 W (hb.trans (hW.mono hb.size))⟩
/-- A function value that orders things, in every world behind w. -/
def TellsO (ks : List CK) (w : World) (K : Nat) (cap : Array Value) (ord : List Value → List Value → Int) : Prop :=
 (∀ (args : Array Value) (W : World), (callFunc K args).run Tryz.prog W = .ok (.enter K args) W) ∧
 ∀ W, Below w.heap.size w W → ∀ a b, Fits ks a → Fits ks b → Calls Tryz.prog K (#[.agg a.toArray, .agg b.toArray] ++ cap) W fun r W' => r = .returned (.int .i64 (ord a b)) ∧ Below W.heap.size W W'
theorem TellsO.later {ks : List CK} {w w' : World} {K : Nat} {cap : Array Value} {ord : List Value → List Value → Int} (h : TellsO ks w K cap ord) (hb : Below w.heap.size w w') : TellsO ks w' K cap ord :=
 ⟨h.1, fun W hW => h.2 W (hb.trans (hW.mono hb.size))⟩
/-- A place, 0 where there is none. -/
def plc (o : Option Nat) : Nat := o.getD 0
abbrev firstV (o : Option Nat) : Value := .tuple #[.int .i64 (plc o : Int), .bool o.isSome]
theorem firstV_some (i : Nat) : firstV (some i) = .tuple #[.int .i64 (i : Int), .bool true] := rfl
theorem firstV_none : firstV none = .tuple #[.int .i64 0, .bool false] := rfl
theorem own_down {w : World} {B B' size n : Nat} {e : TypeId} {v : Value} {xs : List Value} (h : w.ownsRow B e size v n xs) (hB : B' ≤ B) : w.ownsRow B' e size v n xs := by
 refine ⟨h.1, h.2.imp id fun ⟨g, cap, cur, hv, hb, hr⟩ => ⟨g, cap, cur, hv, by omega, hr⟩⟩
theorem flat_take {sz : Nat} {L : List (List Value)} (h : ∀ e ∈ L, e.length = sz) (k : Nat) : (L.take k).flatten = L.flatten.take (k * sz) := by
 induction L generalizing k with
 | nil => simp
 | cons e L ih =>
  have he := h e (List.mem_cons_self ..)
  cases k with
  | zero => simp
  | succ k =>
   rw [List.take_succ_cons, List.flatten_cons, List.flatten_cons, ih (fun e' he' => h e' (List.mem_cons_of_mem _ he')) k, List.take_append, he, show (k + 1) * sz - sz = k * sz from by rw [Nat.succ_mul]; omega]
   rw [List.take_of_length_le (show e.length ≤ (k + 1) * sz from by rw [he, Nat.succ_mul]; omega)]
theorem flat_drop {sz : Nat} {L : List (List Value)} (h : ∀ e ∈ L, e.length = sz) (k : Nat) : (L.drop k).flatten = L.flatten.drop (k * sz) := by
 induction L generalizing k with
 | nil => simp
 | cons e L ih =>
  have he := h e (List.mem_cons_self ..)
  cases k with
  | zero => simp
  | succ k =>
   rw [List.drop_succ_cons, List.flatten_cons, ih (fun e' he' => h e' (List.mem_cons_of_mem _ he')) k, List.drop_append, he, show (k + 1) * sz - sz = k * sz from by rw [Nat.succ_mul]; omega]
   rw [List.drop_of_length_le (show e.length ≤ (k + 1) * sz from by rw [he, Nat.succ_mul]; omega), List.nil_append]
theorem Rd.tkT {ks : List CK} {w : World} {B : Nat} {A : Option Addr} {L : List (List Value)} (h : Rd w B A L.flatten) (k : Nat) : Rd w B A (L.take k).flatten := by
 have : L.flatten = (L.take k).flatten ++ (L.drop k).flatten := by rw [← List.flatten_append, List.take_append_drop]
 rw [this] at h
 exact h.take
theorem Things.take {ks : List CK} {L : List (List Value)} (h : Things ks L) (k : Nat) : Things ks (L.take k) := fun e he => h e (List.mem_of_mem_take he)
theorem Things.drop {ks : List CK} {L : List (List Value)} (h : Things ks L) (k : Nat) : Things ks (L.drop k) := fun e he => h e (List.mem_of_mem_drop he)
theorem Things.app {ks : List CK} {L X : List (List Value)} (h : Things ks L) (k : Things ks X) : Things ks (L ++ X) := fun e he => (List.mem_append.1 he).elim (h e) (k e)
theorem Things.one {ks : List CK} {x : List Value} (h : Fits ks x) : Things ks [x] := fun e he => by rw [List.mem_singleton] at he; subst he; exact h
theorem Things.put {ks : List CK} {ord : List Value → List Value → Int} {L : List (List Value)} {x : List Value} (h : Things ks L) (hx : Fits ks x) : Things ks (putG ord L x) := fun e he => (Pl.putG_mem he).elim (fun e' => e' ▸ hx) (h e)
theorem row_one (w : World) (x : List Value) (t : TypeId) : Rd (w.alloc (.cells x.toArray t)) (w.heap.size + 1) (some ⟨w.heap.size, 0, none⟩) [x].flatten := by
 rw [show [x].flatten = x from by simp]; exact rd_one w x t
end Go.Proofs.YtlkmccmbpnbgbaaGreat

namespace Go.Proofs.YtlkmccmbpnbgbaaGreat
set_option linter.unusedVariables false
open Go.RowKit

abbrev tabW (w : World) (K : Nat) (cap : Array Value) (x : List Value) (T T2 : TypeId) : World := (w.alloc (.cells #[.func (.func K) #[] cap] T)).alloc (.cells x.toArray T2)
theorem tabW_below (w : World) (K : Nat) (cap : Array Value) (x : List Value) (T T2 : TypeId) : Below w.heap.size w (tabW w K cap x T T2) := ((Below.refl _ _).alloc (Nat.le_refl _) _).alloc (by simp) _
theorem tabW_cell {w w1 : World} {K : Nat} {cap : Array Value} {x : List Value} {T T2 : TypeId} (hb : Below (w.heap.size + 2) (tabW w K cap x T T2) w1) : w1.cell? ⟨w.heap.size, 0, none⟩ = some (.func (.func K) #[] cap) := (hb.cell (p := ⟨w.heap.size, 0, none⟩) (by simp)).trans (by simp [go_sem])
theorem tabW_row {w w1 : World} {K : Nat} {cap : Array Value} {x : List Value} {T T2 : TypeId} (hb : Below (w.heap.size + 2) (tabW w K cap x T T2) w1) : w1.heap[w.heap.size + 1]? = some (.cells x.toArray T2 (0, 0)) := (hb.block _ (by omega)).trans (by
 have := heap_alloc_new (w.alloc (.cells #[.func (.func K) #[] cap] T)) (.cells x.toArray T2)
 simpa using this)
end Go.Proofs.YtlkmccmbpnbgbaaGreat

namespace Go.Proofs.YtlkmccmbpnbgbaaGreat
set_option linter.unusedVariables false
open Go.RowKit

/-- Values laid one behind the other from place o on. -/
def setL (xs : List Value) : Nat → List Value → List Value
 | _, [] => xs
 | o, v :: vs => setL (xs.set o v) (o + 1) vs
theorem setL_eq : ∀ (vs xs : List Value) (o : Nat), o + vs.length ≤ xs.length → setL xs o vs = xs.take o ++ vs ++ xs.drop (o + vs.length)
 | [], xs, o, _ => by simp [setL]
 | v :: vs, xs, o, h => by
  simp only [List.length_cons] at h
  unfold setL
  rw [setL_eq vs (xs.set o v) (o + 1) (by rw [List.length_set]; omega)]
  have h1 : (xs.set o v).take (o + 1) = xs.take o ++ [v] := by
   rw [List.set_eq_take_append_cons_drop, if_pos (by omega), List.take_append]
   simp only [List.length_take, List.take_take]
   rw [show o + 1 - min o xs.length = 1 from by omega, show min (o + 1) o = o from by omega]
   simp
  have h2 : (xs.set o v).drop (o + 1 + vs.length) = xs.drop (o + (v :: vs).length) := by
   rw [List.drop_set_of_lt (by omega)]
   simp only [List.length_cons]
   rw [show o + 1 + vs.length = o + (vs.length + 1) from by omega]
  rw [h1, h2]
  simp
theorem set_flatten {sz : Nat} {L : List (List Value)} (h : ∀ e ∈ L, e.length = sz) {x : List Value} (hx : x.length = sz) {i : Nat} (hi : i < L.length) : (L.set i x).flatten = setL L.flatten (i * sz) x := by
 have hl := flat_length h
 have hs : (i + 1) * sz ≤ L.length * sz := Nat.mul_le_mul_right sz hi
 rw [Nat.succ_mul] at hs
 rw [setL_eq _ _ _ (by rw [hl, hx]; exact hs), hx, ← Nat.succ_mul, ← flat_take h, ← flat_drop h]
 rw [List.set_eq_take_append_cons_drop, if_pos hi]
 simp
theorem own_cells {B g n c sz : Nat} {e : TypeId} (hg : B ≤ g) : ∀ (vs : List Value) (w : World) (o : Nat) (xs : List Value), w.ownsRow B e sz (.slice (some ⟨g, 0, none⟩) n c) n xs →
 (w.setCells g o vs).ownsRow B e sz (.slice (some ⟨g, 0, none⟩) n c) n (setL xs o vs) ∧ Below B w (w.setCells g o vs)
 | [], w, o, xs, h => ⟨h, Below.refl _ _⟩
 | v :: vs, w, o, xs, h => by
  have h1 := h.stored o v
  have h2 := own_cells hg vs _ (o + 1) _ h1.1
  exact ⟨h2.1, ((Below.refl B w).setCell (p := ⟨g, o, none⟩) hg v).trans h2.2⟩
theorem own_thing {w : World} {B g n c sz : Nat} {e : TypeId} {L : List (List Value)} (hown : w.ownsRow B e sz (.slice (some ⟨g, 0, none⟩) n c) n L.flatten) (hg : B ≤ g) (hL : ∀ e ∈ L, e.length = sz) {x : List Value} (hx : x.length = sz) {i : Nat} (hi : i < L.length) :
 (w.setCells g (i * sz) x).ownsRow B e sz (.slice (some ⟨g, 0, none⟩) n c) n (L.set i x).flatten ∧ Below B w (w.setCells g (i * sz) x) := by
 rw [set_flatten hL hx hi]
 exact own_cells hg x w (i * sz) _ hown
theorem own_there {w : World} {B g n c sz : Nat} {e : TypeId} {L : List (List Value)} (hown : w.ownsRow B e sz (.slice (some ⟨g, 0, none⟩) n c) n L.flatten) (hL : ∀ e ∈ L, e.length = sz) (hn : n = L.length) {i : Nat} (hi : i < n) : w.there g (i * sz) sz := fun j hj => by
 have hs : (i + 1) * sz ≤ n * sz := Nat.mul_le_mul_right sz hi
 rw [Nat.succ_mul] at hs
 have hl : L.flatten.length = n * sz := by rw [flat_length hL, hn]
 rw [hown.cellAt (i * sz + j) (by omega), List.getElem?_eq_getElem (by omega)]
 exact ⟨rfl, hown.frozenAt _⟩
end Go.Proofs.YtlkmccmbpnbgbaaGreat

namespace Go.Proofs.YtlkmccmbpnbgbaaGreat
set_option linter.unusedVariables false
open Go.RowKit

def NewQuant (w : World) (L : List (List Value)) (e : Ending) (w' : World) : Prop :=
 ∃ A n c, n = L.length ∧ e = .returned (.slice A n c) ∧ w'.ownsRow w.heap.size 62 6 (.slice A n c) n L.flatten ∧ Below w.heap.size w w'
def NewOrder (w : World) (L : List (List Value)) (e : Ending) (w' : World) : Prop :=
 ∃ A n c, n = L.length ∧ e = .returned (.slice A n c) ∧ w'.ownsRow w.heap.size 42 50 (.slice A n c) n L.flatten ∧ Below w.heap.size w w'
def NewClaim (w : World) (L : List (List Value)) (e : Ending) (w' : World) : Prop :=
 ∃ A n c, n = L.length ∧ e = .returned (.slice A n c) ∧ w'.ownsRow w.heap.size 46 8 (.slice A n c) n L.flatten ∧ Below w.heap.size w w'
end Go.Proofs.YtlkmccmbpnbgbaaGreat

namespace Go.Proofs.YtlkmccmbpnbgbaaGreat
set_option linter.unusedVariables false
open Go.RowKit

theorem Hs.val_cells (h : Hs) : h.val = .agg h.cells := rfl
theorem setRow_below {B : Nat} {w w' : World} {g : Nat} (hb : Below B w w') (hg : B ≤ g) (cs : Array Value) : Below B w (w'.setRow g cs) :=
 ⟨hb.os, hb.tape, hb.output, by simpa using hb.size, fun k hk => (setRow_other _ _ k _ (by omega)).trans (hb.block k hk)⟩

theorem own_far {w : World} {B B' size n : Nat} {e : TypeId} {v : Value} {xs : List Value} {p : Addr} {u : Value} (h : w.ownsRow B e size v n xs) (hp : p.block < B) (hB : B' ≤ B) : (w.setCell p u).ownsRow B' e size v n xs := by
 refine ⟨h.1, h.2.imp id fun ⟨g, cap, cur, hv, hb, hh, hr⟩ => ⟨g, cap, cur, hv, by omega, (Below.heap_setCell _ _ _ _ (by omega)).trans hh, hr⟩⟩
theorem own_rowed {w : World} {B B' size n g : Nat} {e : TypeId} {v : Value} {xs : List Value} {cs : Array Value} (h : w.ownsRow B e size v n xs) (hp : g < B) (hB : B' ≤ B) : (w.setRow g cs).ownsRow B' e size v n xs := by
 refine ⟨h.1, h.2.imp id fun ⟨g', cap, cur, hv, hb, hh, hr⟩ => ⟨g', cap, cur, hv, by omega, (setRow_other _ _ _ _ (by omega)).trans hh, hr⟩⟩

end Go.Proofs.YtlkmccmbpnbgbaaGreat

namespace Go.Proofs.YtlkmccmbpnbgbaaGreat
set_option linter.unusedVariables false
open Go.RowKit
open Pl (putG)

def hsN : Hs := ⟨fun _ => none, fun _ => 0, fun _ => 0, 0⟩
/-- A house whose list i is l, in a row of its own; or what is wrong, with an empty house. -/
def PutP (T : TypeId) (k i err : Nat) (l : List (List Value)) (h : Hs) (w : World) (e : Ending) (w' : World) : Prop :=
 Below w.heap.size w w' ∧ ((err ≠ 0 ∧ e = .returned (.tuple #[.agg Hs.zero, .int .i64 (err : Nat)])) ∨
  (err = 0 ∧ ∃ A n c, n = l.length ∧ w'.ownsRow w.heap.size T k (.slice A n c) n l.flatten ∧ e = .returned (.tuple #[.agg (h.set i A n c).cells, .int .i64 0])))
/-- The lists of such a house. -/
def setE (err : Nat) (L : Nat → List (List Value)) (i : Nat) (l : List (List Value)) : Nat → List (List Value) := fun j => if err = 0 then (if j = i then l else L j) else []
def zE (err : Nat) (z : Int) : Int := if err = 0 then z else 0
theorem setE_at {err : Nat} (h : err = 0) (L : Nat → List (List Value)) (i : Nat) (l : List (List Value)) : setE err L i l i = l := by unfold setE; rw [if_pos h, if_pos rfl]
theorem setE_off {err : Nat} (h : err = 0) (L : Nat → List (List Value)) {i j : Nat} (hj : j ≠ i) (l : List (List Value)) : setE err L i l j = L j := by unfold setE; rw [if_pos h, if_neg hj]
theorem setE_bad {err : Nat} (h : err ≠ 0) (L : Nat → List (List Value)) (i j : Nat) (l : List (List Value)) : setE err L i l j = [] := by unfold setE; rw [if_neg h]
/-- No list says that it has more room than a list may have. -/
def Caps (h : Hs) : Prop := ∀ j, j < 14 → h.n j ≤ h.c j ∧ h.c j ≤ 9223372036854775807
theorem hsN_ht (w : World) : HT hsN (fun _ => []) w := fun i hi => ⟨rfl, by show (0 : Nat) ≤ _; omega, fun e he => by simp at he, Rd.none_⟩
theorem hsN_caps : Caps hsN := fun j hj => ⟨Nat.le_refl _, by show (0 : Nat) ≤ _; omega⟩
theorem PutP.ht {T : TypeId} {k i err : Nat} {l : List (List Value)} {h : Hs} {L : Nat → List (List Value)} {w w' : World} {e : Ending} (hi : i < 14) (hl : Things (kOf i) l) (hn : l.length ≤ 1000000) (hh : HT h L w) (H : PutP T k i err l h w e w') :
 ∃ a : Hs, e = .returned (.tuple #[.agg a.cells, .int .i64 (err : Nat)]) ∧ HT a (setE err L i l) w' ∧ a.z = zE err h.z ∧ Below w.heap.size w w' ∧ (Caps h → Caps a) := by
 obtain ⟨hb, ⟨h1, he⟩ | ⟨h1, A, n, c, hln, ho, he⟩⟩ := H
 · refine ⟨hsN, he, fun j hj => ?_, by unfold zE; rw [if_neg h1]; rfl, hb, fun _ => hsN_caps⟩
   rw [setE_bad h1]
   exact hsN_ht w' j hj
 · refine ⟨h.set i A n c, by rw [he, h1]; rfl, fun j hj => ?_, by unfold zE; rw [if_pos h1]; rfl, hb, fun hc j hj => ?_⟩
   · by_cases h0 : j = i
     · subst h0
       rw [setE_at h1]
       exact ⟨by simpa [Hs.set] using hln, by simp only [Hs.set, if_true]; rw [hln]; exact hn, hl, by simpa [Hs.set] using Rd.of_own ho⟩
     · rw [setE_off h1 L h0]
       have := (hh.below hb) j hj
       simpa [Hs.set, h0] using this
   · by_cases h0 : j = i
     · subst h0
       exact ⟨by simpa [Hs.set] using own_cap ho, by simpa [Hs.set] using own_max ho⟩
     · simpa [Hs.set, h0] using hc j hj
theorem PutP.put {T : TypeId} {k i err : Nat} {ord : List Value → List Value → Int} {x : List Value} {h : Hs} {L : Nat → List (List Value)} {w w' : World} {e : Ending} (hi : i < 14) (hx : Fits (kOf i) x) (hn : h.n i ≤ 1000) (hh : HT h L w) (H : PutP T k i err (putG ord (L i) x) h w e w') :
 ∃ a : Hs, e = .returned (.tuple #[.agg a.cells, .int .i64 (err : Nat)]) ∧ HT a (setE err L i (putG ord (L i) x)) w' ∧ a.z = zE err h.z ∧ Below w.heap.size w w' ∧ (Caps h → Caps a) :=
 H.ht hi ((hh i hi).2.2.1.put hx) (by rw [Pl.putG_len, ← (hh i hi).1]; split <;> omega) hh
theorem HT.congr {a : Hs} {L L' : Nat → List (List Value)} {W : World} (h : HT a L W) (e : ∀ i, i < 14 → L i = L' i) : HT a L' W := fun i hi => by rw [← e i hi]; exact h i hi
/-- No list of a house lies in a block up to g. -/
def Apart (g : Nat) (a : Hs) : Prop := ∀ i, i < 14 → ∀ p, a.A i = some p → g < p.block
theorem hsN_apart (g : Nat) : Apart g hsN := fun i hi p hp => by cases hp
theorem own_block {w : World} {base size n c : Nat} {e : TypeId} {A : Option Addr} {xs : List Value} (h : w.ownsRow base e size (.slice A n c) n xs) {p : Addr} (hp : A = some p) : base ≤ p.block := by
 rcases h.2 with ⟨hv, _⟩ | ⟨g, cap, cur, hv, hg, _⟩
 · injection hv with h1; rw [hp] at h1; cases h1
 · injection hv with h1; rw [hp] at h1; injection h1 with h1; rw [h1]; exact hg
theorem HT.setRow {a : Hs} {L : Nat → List (List Value)} {W : World} {g : Nat} (h : HT a L W) (ha : Apart g a) (cs : Array Value) : HT a L (W.setRow g cs) := fun i hi => by
 obtain ⟨h1, h2, h3, h4⟩ := h i hi
 refine ⟨h1, h2, h3, fun hx => ?_⟩
 obtain ⟨b, off, hA, hb, hc⟩ := h4 hx
 have hgb : g < b := ha i hi _ hA
 exact ⟨b, off, hA, by simpa using hb, fun j u hu => (World.cell?_of_block (setRow_other W g b cs (by omega))).trans (hc j u hu)⟩
/-- What such a call hands back, by itself: p. -/
def PutK (T : TypeId) (k i err : Nat) (l : List (List Value)) (h p : Hs) (base : Nat) (W : World) : Prop :=
 (err ≠ 0 ∧ p = hsN) ∨ (err = 0 ∧ ∃ A n c, n = l.length ∧ W.ownsRow base T k (.slice A n c) n l.flatten ∧ p = h.set i A n c)
theorem PutP.k {T : TypeId} {k i err : Nat} {l : List (List Value)} {h : Hs} {w w' : World} {e : Ending} (H : PutP T k i err l h w e w') : Below w.heap.size w w' ∧ ∃ p : Hs, e = .returned (.tuple #[.agg p.cells, .int .i64 (err : Nat)]) ∧ PutK T k i err l h p w.heap.size w' := by
 obtain ⟨hb, ⟨h1, he⟩ | ⟨h1, A, n, c, hl, ho, he⟩⟩ := H
 · exact ⟨hb, hsN, he, .inl ⟨h1, rfl⟩⟩
 · exact ⟨hb, h.set i A n c, by rw [he, h1]; rfl, .inr ⟨h1, A, n, c, hl, ho, rfl⟩⟩
theorem PutK.below {T : TypeId} {k i err base base' : Nat} {l : List (List Value)} {h p : Hs} {W W' : World} (H : PutK T k i err l h p base W) (hB : base' ≤ base) (hb : Below W.heap.size W W') : PutK T k i err l h p base' W' :=
 H.imp id fun ⟨h1, A, n, c, hl, ho, hp⟩ => ⟨h1, A, n, c, hl, own_below (own_down ho hB) hb, hp⟩
theorem PutK.ht {T : TypeId} {k i err base : Nat} {ord : List Value → List Value → Int} {x : List Value} {h p : Hs} {L : Nat → List (List Value)} {W : World} (hi : i < 14) (hx : Fits (kOf i) x) (hn : h.n i ≤ 1000) (hh : HT h L W) (H : PutK T k i err (putG ord (L i) x) h p base W) : HT p (setE err L i (putG ord (L i) x)) W := by
 rcases H with ⟨h1, rfl⟩ | ⟨h1, A, n, c, hl, ho, rfl⟩
 · exact fun j hj => by rw [setE_bad h1]; exact hsN_ht W j hj
 · refine fun j hj => ?_
   by_cases h0 : j = i
   · subst h0
     rw [setE_at h1]
     exact ⟨by simpa [Hs.set] using hl, by simp only [Hs.set, if_true]; rw [hl, Pl.putG_len, ← (hh j hi).1]; split <;> omega, (hh j hi).2.2.1.put hx, by simpa [Hs.set] using Rd.of_own ho⟩
   · rw [setE_off h1 L h0]
     simpa [Hs.set, h0] using hh j hj
theorem PutK.caps {T : TypeId} {k i err base : Nat} {l : List (List Value)} {h p : Hs} {W : World} (H : PutK T k i err l h p base W) (hc : Caps h) : Caps p := by
 rcases H with ⟨h1, rfl⟩ | ⟨h1, A, n, c, hl, ho, rfl⟩
 · exact hsN_caps
 · refine fun j hj => ?_
   by_cases h0 : j = i
   · subst h0
     exact ⟨by simpa [Hs.set] using own_cap ho, by simpa [Hs.set] using own_max ho⟩
   · simpa [Hs.set, h0] using hc j hj
theorem PutK.apart {T : TypeId} {k i err base g : Nat} {l : List (List Value)} {h p : Hs} {W : World} (H : PutK T k i err l h p base W) (hg : g < base) (ha : Apart g h) : Apart g p := by
 rcases H with ⟨h1, rfl⟩ | ⟨h1, A, n, c, hl, ho, rfl⟩
 · exact hsN_apart g
 · refine fun j hj q hq => ?_
   by_cases h0 : j = i
   · subst h0
     exact Nat.lt_of_lt_of_le hg (own_block ho (p := q) (by simpa [Hs.set] using hq))
   · exact ha j hj q (by simpa [Hs.set, h0] using hq)
theorem range_cells {w : World} {b : Nat} {cs : List Value} {t : TypeId} (h : w.heap[b]? = some (.cells cs.toArray t (0, 0))) : w.rangeAt b 0 cs := fun i v hv => by rw [cell_of_block h, List.getElem?_toArray, Nat.zero_add]; exact hv
end Go.Proofs.YtlkmccmbpnbgbaaGreat

namespace Go.Proofs.YtlkmccmbpnbgbaaGreat
set_option linter.unusedVariables false
open Go.RowKit
open Pl (putG)

/-- No list of a house that has anything lies in block g. -/
def Off (g : Nat) (a : Hs) (L : Nat → List (List Value)) : Prop := ∀ i, i < 14 → L i ≠ [] → ∀ p, a.A i = some p → p.block ≠ g
theorem HT.setRowOff {a : Hs} {L : Nat → List (List Value)} {W : World} {g : Nat} (h : HT a L W) (ha : Off g a L) (cs : Array Value) : HT a L (W.setRow g cs) := fun i hi => by
 obtain ⟨h1, h2, h3, h4⟩ := h i hi
 refine ⟨h1, h2, h3, fun hx => ?_⟩
 obtain ⟨b, off, hA, hb, hc⟩ := h4 hx
 have hne : L i ≠ [] := fun e => by rw [e] at hx; exact absurd hx (by simp)
 have hgb : b ≠ g := ha i hi hne _ hA
 exact ⟨b, off, hA, by simpa using hb, fun j u hu => (World.cell?_of_block (setRow_other W g b cs hgb)).trans (hc j u hu)⟩
theorem kOf_pos {i : Nat} (hi : i < 14) : 1 ≤ (kOf i).length := by
 match i, hi with
 | 0, _ | 1, _ | 2, _ | 3, _ | 4, _ | 5, _ | 6, _ | 7, _ | 8, _ | 9, _ | 10, _ | 11, _ | 12, _ | 13, _ => decide
/-- A house that was there before the block was made. -/
theorem HT.offge {a : Hs} {L : Nat → List (List Value)} {w : World} {g : Nat} (h : HT a L w) (hg : w.heap.size ≤ g) : Off g a L := fun i hi hne p hp => by
 obtain ⟨_, _, h3, h4⟩ := h i hi
 have hpos : 0 < (L i).flatten.length := by
  rw [flat_length h3.len]
  exact Nat.mul_pos (List.length_pos_iff.2 hne) (kOf_pos hi)
 obtain ⟨b, off, hA, hb, _⟩ := h4 hpos
 rw [hA] at hp
 injection hp with hp
 subst hp
 have : b < w.heap.size := hb
 show b ≠ g
 omega
theorem Off.nil (g : Nat) (a : Hs) : Off g a (fun _ => []) := fun i hi h => absurd rfl h
theorem PutK.off {T : TypeId} {k i err base g : Nat} {l : List (List Value)} {h p : Hs} {L : Nat → List (List Value)} {W : World} (H : PutK T k i err l h p base W) (hg : g < base) (ha : Off g h L) : Off g p (setE err L i l) := by
 rcases H with ⟨h1, rfl⟩ | ⟨h1, A, n, c, hl, ho, rfl⟩
 · exact fun j hj hne => absurd (setE_bad h1 L i j l) hne
 · refine fun j hj hne q hq => ?_
   by_cases h0 : j = i
   · subst h0
     have := own_block ho (p := q) (by simpa [Hs.set] using hq)
     omega
   · rw [setE_off h1 L h0] at hne
     exact ha j hj hne q (by simpa [Hs.set, h0] using hq)
/-- A house in its box, the box at the first block. -/
structure HBox (w : World) (a : Hs) (L : Nat → List (List Value)) (W : World) : Prop where
 ht : HT a L W
 caps : Caps a
 off : Off w.heap.size a L
 box : W.heap[w.heap.size]? = some (.cells a.cells 37 (0, 0))
 bel : Below w.heap.size w W
 sz : w.heap.size + 1 ≤ W.heap.size
theorem HBox.below {w W W' : World} {a : Hs} {L : Nat → List (List Value)} (h : HBox w a L W) (hb : Below W.heap.size W W') : HBox w a L W' :=
 ⟨h.ht.below hb, h.caps, h.off, (hb.block _ (lt_of_block h.box)).trans h.box, h.bel.trans (hb.mono h.bel.size), Nat.le_trans h.sz hb.size⟩
theorem HBox.store {w W : World} {a p : Hs} {L L' : Nat → List (List Value)} (h : HBox w a L W) (ht : HT p L' W) (hc : Caps p) (ho : Off w.heap.size p L') : HBox w p L' (W.setRow w.heap.size p.cells) :=
 ⟨ht.setRowOff ho _, hc, ho, setRow_heap _ _ _ _ _ _ h.box, setRow_below h.bel (Nat.le_refl _) _, by simpa using h.sz⟩
/-- A list is put in its place, in the house's box: block g. -/
theorem HT.setList {h : Hs} {L : Nat → List (List Value)} {W : World} {g i n c : Nat} {A : Option Addr} {l : List (List Value)} {o' : Nat} (hh : HT h L W) (ho : Off g h L) (hi : i < 14) (hl : Things (kOf i) l) (hn : n = l.length) (hn6 : n ≤ 1000000) (hr : Rd W W.heap.size A l.flatten) (hg : ∀ p, A = some p → p.block ≠ g) (v : Value) : HT (h.set i A n c) (setE 0 L i l) (W.setCell ⟨g, o', none⟩ v) := fun j hj => by
 have hcell : ∀ (b o : Nat) (u : Value), b ≠ g → W.cell? ⟨b, o, none⟩ = some u → (W.setCell ⟨g, o', none⟩ v).cell? ⟨b, o, none⟩ = some u := fun b o u hb hu => (World.cell?_of_block (block_setCell_other hb v)).trans hu
 by_cases h0 : j = i
 · subst h0
   rw [setE_at rfl]
   refine ⟨by simpa [Hs.set] using hn, by simpa [Hs.set] using hn6, hl, fun hx => ?_⟩
   obtain ⟨b, off, hA, hb, hc⟩ := hr hx
   exact ⟨b, off, by simpa [Hs.set] using hA, by simpa using hb, fun q u hu => hcell _ _ _ (hg _ hA) (hc q u hu)⟩
 · rw [setE_off rfl L h0]
   obtain ⟨h1, h2, h3, h4⟩ := hh j hj
   refine ⟨by simpa [Hs.set, h0] using h1, by simpa [Hs.set, h0] using h2, h3, fun hx => ?_⟩
   obtain ⟨b, off, hA, hb, hc⟩ := h4 hx
   have hne : L j ≠ [] := fun e => by rw [e] at hx; exact absurd hx (by simp)
   exact ⟨b, off, by simpa [Hs.set, h0] using hA, by simpa using hb, fun q u hu => hcell _ _ _ (ho j hj hne _ hA) (hc q u hu)⟩
theorem HT.setCellOff {a : Hs} {L : Nat → List (List Value)} {W : World} {g o' : Nat} (h : HT a L W) (ha : Off g a L) (v : Value) : HT a L (W.setCell ⟨g, o', none⟩ v) := fun i hi => by
 obtain ⟨h1, h2, h3, h4⟩ := h i hi
 refine ⟨h1, h2, h3, fun hx => ?_⟩
 obtain ⟨b, off, hA, hb, hc⟩ := h4 hx
 have hne : L i ≠ [] := fun e => by rw [e] at hx; exact absurd hx (by simp)
 have hgb : b ≠ g := ha i hi hne _ hA
 exact ⟨b, off, hA, by simpa using hb, fun j u hu => (World.cell?_of_block (block_setCell_other hgb v)).trans (hc j u hu)⟩
theorem PutK.htl {T : TypeId} {k i err base : Nat} {l : List (List Value)} {h p : Hs} {L : Nat → List (List Value)} {W : World} (hi : i < 14) (hl : Things (kOf i) l) (hn : l.length ≤ 1000000) (hh : HT h L W) (H : PutK T k i err l h p base W) : HT p (setE err L i l) W := by
 rcases H with ⟨h1, rfl⟩ | ⟨h1, A, n, c, hln, ho, rfl⟩
 · exact fun j hj => by rw [setE_bad h1]; exact hsN_ht W j hj
 · refine fun j hj => ?_
   by_cases h0 : j = i
   · subst h0
     rw [setE_at h1]
     exact ⟨by simpa [Hs.set] using hln, by simp only [Hs.set, if_true]; omega, hl, by simpa [Hs.set] using Rd.of_own ho⟩
   · rw [setE_off h1 L h0]
     simpa [Hs.set, h0] using hh j hj
/-- All that such a call leaves. -/
theorem PutP.hb {T : TypeId} {k i err : Nat} {l : List (List Value)} {h : Hs} {L : Nat → List (List Value)} {w w' : World} {e : Ending} (hi : i < 14) (hl : Things (kOf i) l) (hn : l.length ≤ 1000000) (hh : HT h L w) (H : PutP T k i err l h w e w') :
 ∃ p : Hs, e = .returned (.tuple #[.agg p.cells, .int .i64 (err : Nat)]) ∧ HT p (setE err L i l) w' ∧ Below w.heap.size w w' ∧ p.z = zE err h.z ∧ ∀ g, Off g h L → g < w.heap.size → Off g p (setE err L i l) := by
 obtain ⟨hb, p, he, hk⟩ := H.k
 refine ⟨p, he, hk.htl hi hl hn (hh.below hb), hb, ?_, fun g ho hg => hk.off hg ho⟩
 rcases hk with ⟨h1, rfl⟩ | ⟨h1, A, n, c, _, _, rfl⟩
 · unfold zE; rw [if_neg h1]; rfl
 · unfold zE; rw [if_pos h1]; rfl
/-- A list that was put says no more room than it has. -/
theorem PutP.caps {T : TypeId} {k i err : Nat} {l : List (List Value)} {h : Hs} {w w' : World} {e : Ending} {p : Hs} (H : PutP T k i err l h w e w') (he : e = .returned (.tuple #[.agg p.cells, .int .i64 (err : Nat)])) (hi : i < 14) (hc : h.n i ≤ h.c i ∧ h.c i ≤ 9223372036854775807) : p.n i ≤ p.c i ∧ p.c i ≤ 9223372036854775807 := by
 have hinj : ∀ q : Hs, e = .returned (.tuple #[.agg q.cells, .int .i64 (err : Nat)]) → p.cells = q.cells := fun q h2 => by
  rw [he] at h2
  injection h2 with h2
  injection h2 with h2
  have := congrArg (fun a : Array Value => a[0]?) h2
  simp only [List.getElem?_toArray, List.getElem?_cons_zero, Option.some.injEq, Value.agg.injEq] at this
  exact this
 have key : ∀ q : Hs, p.cells = q.cells → p.n i = q.n i ∧ p.c i = q.c i := fun q hq => by
  have := congrArg (fun a : Array Value => a[i]?) hq
  match i, hi with
  | 0, _ | 1, _ | 2, _ | 3, _ | 4, _ | 5, _ | 6, _ | 7, _ | 8, _ | 9, _ | 10, _ | 11, _ | 12, _ | 13, _ =>
   simp only [Hs.cells, List.getElem?_toArray, List.getElem?_cons_zero, List.getElem?_cons_succ, Option.some.injEq, Value.slice.injEq] at this
   exact this.2
 obtain ⟨_, ⟨h1, h2⟩ | ⟨h1, A, n, c, hl, ho, h2⟩⟩ := H
 · have h3 : e = .returned (.tuple #[.agg hsN.cells, .int .i64 (err : Nat)]) := h2
   obtain ⟨a, b⟩ := key hsN (hinj hsN h3)
   rw [a, b]; exact hsN_caps i hi
 · have h3 : e = .returned (.tuple #[.agg (h.set i A n c).cells, .int .i64 (err : Nat)]) := by rw [h2, h1]; rfl
   obtain ⟨a, b⟩ := key _ (hinj _ h3)
   rw [a, b]
   exact ⟨by simpa [Hs.set] using own_cap ho, by simpa [Hs.set] using own_max ho⟩
theorem range_part {W : World} {b o : Nat} {cs pre xs post : List Value} {t : TypeId} (h : W.heap[b]? = some (.cells cs.toArray t (0, 0))) (hc : cs = pre ++ xs ++ post := by rfl) (ho : o = pre.length := by rfl) : W.rangeAt b o xs := fun i v hv => by
 rw [cell_of_block h, List.getElem?_toArray, hc, ho, List.append_assoc, List.getElem?_append_right (Nat.le_add_right _ _), Nat.add_sub_cancel_left, List.getElem?_append_left (List.getElem?_eq_some_iff.1 hv).1]
 exact hv
/-- Another box is filled. -/
theorem HBox.other {w W : World} {a : Hs} {L : Nat → List (List Value)} {g : Nat} (h : HBox w a L W) (hg : w.heap.size < g) (ho : Off g a L) (cs : Array Value) : HBox w a L (W.setRow g cs) :=
 ⟨h.ht.setRowOff ho _, h.caps, h.off, (setRow_other W g w.heap.size cs (by omega)).trans h.box, setRow_below h.bel (by omega) _, by simpa using h.sz⟩
end Go.Proofs.YtlkmccmbpnbgbaaGreat

namespace Go.Proofs.YtlkmccmbpnbgbaaGreat
set_option linter.unusedVariables false
open Go.RowKit
open Pl (putG)

/-- The lists of the house that is handed back. -/
def setX (err : Nat) (M : Nat → List (List Value)) : Nat → List (List Value) := fun j => if err = 0 then M j else []
theorem setX_ok {err : Nat} (h : err = 0) (M : Nat → List (List Value)) : setX err M = M := by funext j; unfold setX; rw [if_pos h]
theorem setX_bad {err : Nat} (h : err ≠ 0) (M : Nat → List (List Value)) : setX err M = fun _ => [] := by funext j; unfold setX; rw [if_neg h]
/-- A call that hands back a house with the lists M, or what is wrong. -/
def HouseP (err : Nat) (M : Nat → List (List Value)) (h : Hs) (L : Nat → List (List Value)) (w : World) (e : Ending) (w' : World) : Prop :=
 Below w.heap.size w w' ∧ ∃ p : Hs, e = .returned (.tuple #[.agg p.cells, .int .i64 (err : Nat)]) ∧ HT p (setX err M) w' ∧ p.z = zE err h.z ∧ (Caps h → Caps p) ∧ ∀ g, Off g h L → g < w.heap.size → Off g p (setX err M)
theorem setE_setX (err : Nat) (L : Nat → List (List Value)) (i : Nat) (l : List (List Value)) : setX err (setE 0 L i l) = setE err L i l := by
 funext j
 unfold setX setE
 by_cases h : err = 0
 · rw [if_pos h, if_pos h, if_pos rfl]
 · rw [if_neg h, if_neg h]
/-- One list was put. -/
theorem PutP.house {T : TypeId} {k i err : Nat} {l : List (List Value)} {h : Hs} {L : Nat → List (List Value)} {w w' : World} {e : Ending} (hi : i < 14) (hl : Things (kOf i) l) (hn : l.length ≤ 1000000) (hh : HT h L w) (H : PutP T k i err l h w e w') : HouseP err (setE 0 L i l) h L w e w' := by
 obtain ⟨hb, p, he, hk⟩ := H.k
 refine ⟨hb, p, he, ?_, ?_, fun hc => hk.caps hc, fun g ho hg => ?_⟩
 · rw [setE_setX]; exact hk.htl hi hl hn (hh.below hb)
 · rcases hk with ⟨h1, rfl⟩ | ⟨h1, A, n, c, _, _, rfl⟩
   · unfold zE; rw [if_neg h1]; rfl
   · unfold zE; rw [if_pos h1]; rfl
 · rw [setE_setX]; exact hk.off hg ho
/-- Nothing but what is wrong. -/
theorem HouseP.bad {err : Nat} {M : Nat → List (List Value)} {h : Hs} {L : Nat → List (List Value)} {w w' : World} (he : err ≠ 0) (hb : Below w.heap.size w w') : HouseP err M h L w (.returned (.tuple #[.agg Hs.zero, .int .i64 (err : Nat)])) w' :=
 ⟨hb, hsN, rfl, by rw [setX_bad he]; exact hsN_ht w', by unfold zE; rw [if_neg he]; rfl, fun _ => hsN_caps, fun g _ _ => by rw [setX_bad he]; exact Off.nil g _⟩
end Go.Proofs.YtlkmccmbpnbgbaaGreat
