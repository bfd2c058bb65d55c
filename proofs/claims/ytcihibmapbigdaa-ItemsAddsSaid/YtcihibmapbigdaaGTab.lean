/-
  FUNCTION VALUES of things: orders and predicates.
-/
import Derived.Test.YtcihibmapbigdaaHRow
import Derived.Test.YtcihibmapbigdaaHLent
import Derived.Test.YtcihibmapbigdaaGPlain
import Derived.Defers
import Derived.Recover
import Derived.Laws.Pointers
import Derived.Deep.LoopGhost
namespace Go.Proofs.Ytcihibmapbigdaa
set_option linter.unusedVariables false
open Go.RowKit
open Pl (firstG firstG_none firstG_some findG overG putG)

/-- A function value that answers f of a thing, in every world behind w. -/
def TellsF (ks : List CK) (w : World) (K : Nat) (cap : Array Value) (f : List Value → Bool) : Prop :=
  (∀ (args : Array Value) (W : World), (callFunc K args).run Try.prog W = .ok (.enter K args) W) ∧
  ∀ W, Below w.heap.size w W → ∀ e, Fits ks e → Calls Try.prog K (#[.agg e.toArray] ++ cap) W fun r W' => r = .returned (.bool (f e)) ∧ Below W.heap.size W W'
theorem TellsF.later {ks : List CK} {w w' : World} {K : Nat} {cap : Array Value} {f : List Value → Bool} (h : TellsF ks w K cap f) (hb : Below w.heap.size w w') : TellsF ks w' K cap f :=
  ⟨h.1, fun W hW => h.2 W (hb.trans (hW.mono hb.size))⟩
/-- A function value that orders things, in every world behind w. -/
def TellsO (ks : List CK) (w : World) (K : Nat) (cap : Array Value) (ord : List Value → List Value → Int) : Prop :=
  (∀ (args : Array Value) (W : World), (callFunc K args).run Try.prog W = .ok (.enter K args) W) ∧
  ∀ W, Below w.heap.size w W → ∀ a b, Fits ks a → Fits ks b → Calls Try.prog K (#[.agg a.toArray, .agg b.toArray] ++ cap) W fun r W' => r = .returned (.int .i64 (ord a b)) ∧ Below W.heap.size W W'
theorem TellsO.later {ks : List CK} {w w' : World} {K : Nat} {cap : Array Value} {ord : List Value → List Value → Int} (h : TellsO ks w K cap ord) (hb : Below w.heap.size w w') : TellsO ks w' K cap ord :=
  ⟨h.1, fun W hW => h.2 W (hb.trans (hW.mono hb.size))⟩
/-- A place, 0 where there is none. -/
def plc (o : Option Nat) : Nat := o.getD 0
abbrev firstV (o : Option Nat) : Value := .tuple #[.int .i64 (plc o : Int), .bool o.isSome]
theorem firstV_some (i : Nat) : firstV (some i) = .tuple #[.int .i64 (i : Int), .bool true] := rfl
theorem firstV_none : firstV none = .tuple #[.int .i64 0, .bool false] := rfl
theorem own_down {w : World} {B B' size n : Nat} {e : TypeId} {v : Value} {xs : List Value} (h : w.ownsRow B e size v n xs) (hB : B' ≤ B) : w.ownsRow B' e size v n xs := by
  refine ⟨h.1, h.2.imp id fun ⟨g, cap, cur, hv, hb, hr⟩ => ⟨g, cap, cur, hv, by omega, hr⟩⟩
theorem own_to {w : World} {B B' size n n' c : Nat} {e : TypeId} {A : Option Addr} {xs : List Value} (h : w.ownsRow B e size (.slice A n c) n xs) (hn : n = n') (hB : B' ≤ B) : w.ownsRow B' e size (.slice A n' c) n' xs := by
  subst hn; exact own_down h hB
theorem flat_take {sz : Nat} {L : List (List Value)} (h : ∀ e ∈ L, e.length = sz) (k : Nat) : (L.take k).flatten = L.flatten.take (k * sz) := by
  induction L generalizing k with
  | nil => simp
  | cons e L ih =>
    have he := h e (List.mem_cons_self ..)
    cases k with
    | zero => simp
    | succ k =>
      rw [List.take_succ_cons, List.flatten_cons, List.flatten_cons, ih (fun e' he' => h e' (List.mem_cons_of_mem _ he')) k, List.take_append, he, show (k + 1) * sz - sz = k * sz from by rw [Nat.succ_mul]; omega]
      rw [List.take_of_length_le (show e.length ≤ (k + 1) * sz from by rw [he, Nat.succ_mul]; omega)]
theorem flat_drop {sz : Nat} {L : List (List Value)} (h : ∀ e ∈ L, e.length = sz) (k : Nat) : (L.drop k).flatten = L.flatten.drop (k * sz) := by
  induction L generalizing k with
  | nil => simp
  | cons e L ih =>
    have he := h e (List.mem_cons_self ..)
    cases k with
    | zero => simp
    | succ k =>
      rw [List.drop_succ_cons, List.flatten_cons, ih (fun e' he' => h e' (List.mem_cons_of_mem _ he')) k, List.drop_append, he, show (k + 1) * sz - sz = k * sz from by rw [Nat.succ_mul]; omega]
      rw [List.drop_of_length_le (show e.length ≤ (k + 1) * sz from by rw [he, Nat.succ_mul]; omega), List.nil_append]
theorem Rd.tkT {ks : List CK} {w : World} {B : Nat} {A : Option Addr} {L : List (List Value)} (h : Rd w B A L.flatten) (k : Nat) : Rd w B A (L.take k).flatten := by
  have : L.flatten = (L.take k).flatten ++ (L.drop k).flatten := by rw [← List.flatten_append, List.take_append_drop]
  rw [this] at h
  exact h.take
theorem Things.take {ks : List CK} {L : List (List Value)} (h : Things ks L) (k : Nat) : Things ks (L.take k) := fun e he => h e (List.mem_of_mem_take he)
theorem Things.drop {ks : List CK} {L : List (List Value)} (h : Things ks L) (k : Nat) : Things ks (L.drop k) := fun e he => h e (List.mem_of_mem_drop he)
theorem Things.app {ks : List CK} {L X : List (List Value)} (h : Things ks L) (k : Things ks X) : Things ks (L ++ X) := fun e he => (List.mem_append.1 he).elim (h e) (k e)
theorem Things.one {ks : List CK} {x : List Value} (h : Fits ks x) : Things ks [x] := fun e he => by rw [List.mem_singleton] at he; subst he; exact h
theorem Things.put {ks : List CK} {ord : List Value → List Value → Int} {L : List (List Value)} {x : List Value} (h : Things ks L) (hx : Fits ks x) : Things ks (putG ord L x) := fun e he => (Pl.putG_mem he).elim (fun e' => e' ▸ hx) (h e)
theorem row_one (w : World) (x : List Value) (t : TypeId) : Rd (w.alloc (.cells x.toArray t)) (w.heap.size + 1) (some ⟨w.heap.size, 0, none⟩) [x].flatten := by
  rw [show [x].flatten = x from by simp]; exact rd_one w x t
end Go.Proofs.Ytcihibmapbigdaa
