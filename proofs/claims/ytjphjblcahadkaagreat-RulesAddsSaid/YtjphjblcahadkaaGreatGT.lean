/-
  FUNCTION VALUES of things: orders and predicates.
  WORDS of a table's boxes. (By wip/tools/port9.py.)
  A THING STORED into a row of the call's own.
  CONTRACTS of the table's functions, for things of one kind. (By wip/tools/gen_table.py.)
  CONTRACTS of the table's functions, for things of one kind. (By wip/tools/gen_table.py.)
  CONTRACTS of the table's functions, for things of one kind. (By wip/tools/gen_table.py.)
  CONTRACTS of the table's functions, for things of one kind. (By wip/tools/gen_table.py.)
  (By wip/tools/merge.py.)
-/
import Derived.Test.YtjphjblcahadkaaGreatHHouse
import Derived.Test.YtjphjblcahadkaaGreatGPlain
import Derived.Defers
import Derived.Recover
import Derived.Laws.Pointers
import Derived.Deep.LoopGhost
namespace Go.Proofs.YtjphjblcahadkaaGreat
set_option linter.unusedVariables false
open Go.RowKit
open Pl (firstG firstG_none firstG_some findG overG putG)

/-- A function value that answers f of a thing, in every world behind w. -/
def TellsF (ks : List CK) (w : World) (K : Nat) (cap : Array Value) (f : List Value → Bool) : Prop :=
  (∀ (args : Array Value) (W : World), (callFunc K args).run Tryz.prog W = .ok (.enter K args) W) ∧
  ∀ W, Below w.heap.size w W → ∀ e, Fits ks e → Calls Tryz.prog K (#[.agg e.toArray] ++ cap) W fun r W' => r = .returned (.bool (f e)) ∧ Below W.heap.size W W'
theorem TellsF.later {ks : List CK} {w w' : World} {K : Nat} {cap : Array Value} {f : List Value → Bool} (h : TellsF ks w K cap f) (hb : Below w.heap.size w w') : TellsF ks w' K cap f :=
  ⟨h.1, fun W hW => h.2 W (hb.trans (hW.mono hb.size))⟩
/-- A function value that orders things, in every world behind w. -/
def TellsO (ks : List CK) (w : World) (K : Nat) (cap : Array Value) (ord : List Value → List Value → Int) : Prop :=
  (∀ (args : Array Value) (W : World), (callFunc K args).run Tryz.prog W = .ok (.enter K args) W) ∧
  ∀ W, Below w.heap.size w W → ∀ a b, Fits ks a → Fits ks b → Calls Tryz.prog K (#[.agg a.toArray, .agg b.toArray] ++ cap) W fun r W' => r = .returned (.int .i64 (ord a b)) ∧ Below W.heap.size W W'
theorem TellsO.later {ks : List CK} {w w' : World} {K : Nat} {cap : Array Value} {ord : List Value → List Value → Int} (h : TellsO ks w K cap ord) (hb : Below w.heap.size w w') : TellsO ks w' K cap ord :=
  ⟨h.1, fun W hW => h.2 W (hb.trans (hW.mono hb.size))⟩
/-- A place, 0 where there is none. -/
def plc (o : Option Nat) : Nat := o.getD 0
abbrev firstV (o : Option Nat) : Value := .tuple #[.int .i64 (plc o : Int), .bool o.isSome]
theorem firstV_some (i : Nat) : firstV (some i) = .tuple #[.int .i64 (i : Int), .bool true] := rfl
theorem firstV_none : firstV none = .tuple #[.int .i64 0, .bool false] := rfl
theorem own_down {w : World} {B B' size n : Nat} {e : TypeId} {v : Value} {xs : List Value} (h : w.ownsRow B e size v n xs) (hB : B' ≤ B) : w.ownsRow B' e size v n xs := by
  refine ⟨h.1, h.2.imp id fun ⟨g, cap, cur, hv, hb, hr⟩ => ⟨g, cap, cur, hv, by omega, hr⟩⟩
theorem own_to {w : World} {B B' size n n' c : Nat} {e : TypeId} {A : Option Addr} {xs : List Value} (h : w.ownsRow B e size (.slice A n c) n xs) (hn : n = n') (hB : B' ≤ B) : w.ownsRow B' e size (.slice A n' c) n' xs := by
  subst hn; exact own_down h hB
theorem flat_take {sz : Nat} {L : List (List Value)} (h : ∀ e ∈ L, e.length = sz) (k : Nat) : (L.take k).flatten = L.flatten.take (k * sz) := by
  induction L generalizing k with
  | nil => simp
  | cons e L ih =>
    have he := h e (List.mem_cons_self ..)
    cases k with
    | zero => simp
    | succ k =>
      rw [List.take_succ_cons, List.flatten_cons, List.flatten_cons, ih (fun e' he' => h e' (List.mem_cons_of_mem _ he')) k, List.take_append, he, show (k + 1) * sz - sz = k * sz from by rw [Nat.succ_mul]; omega]
      rw [List.take_of_length_le (show e.length ≤ (k + 1) * sz from by rw [he, Nat.succ_mul]; omega)]
theorem flat_drop {sz : Nat} {L : List (List Value)} (h : ∀ e ∈ L, e.length = sz) (k : Nat) : (L.drop k).flatten = L.flatten.drop (k * sz) := by
  induction L generalizing k with
  | nil => simp
  | cons e L ih =>
    have he := h e (List.mem_cons_self ..)
    cases k with
    | zero => simp
    | succ k =>
      rw [List.drop_succ_cons, List.flatten_cons, ih (fun e' he' => h e' (List.mem_cons_of_mem _ he')) k, List.drop_append, he, show (k + 1) * sz - sz = k * sz from by rw [Nat.succ_mul]; omega]
      rw [List.drop_of_length_le (show e.length ≤ (k + 1) * sz from by rw [he, Nat.succ_mul]; omega), List.nil_append]
theorem Rd.tkT {ks : List CK} {w : World} {B : Nat} {A : Option Addr} {L : List (List Value)} (h : Rd w B A L.flatten) (k : Nat) : Rd w B A (L.take k).flatten := by
  have : L.flatten = (L.take k).flatten ++ (L.drop k).flatten := by rw [← List.flatten_append, List.take_append_drop]
  rw [this] at h
  exact h.take
theorem Things.take {ks : List CK} {L : List (List Value)} (h : Things ks L) (k : Nat) : Things ks (L.take k) := fun e he => h e (List.mem_of_mem_take he)
theorem Things.drop {ks : List CK} {L : List (List Value)} (h : Things ks L) (k : Nat) : Things ks (L.drop k) := fun e he => h e (List.mem_of_mem_drop he)
theorem Things.app {ks : List CK} {L X : List (List Value)} (h : Things ks L) (k : Things ks X) : Things ks (L ++ X) := fun e he => (List.mem_append.1 he).elim (h e) (k e)
theorem Things.one {ks : List CK} {x : List Value} (h : Fits ks x) : Things ks [x] := fun e he => by rw [List.mem_singleton] at he; subst he; exact h
theorem Things.put {ks : List CK} {ord : List Value → List Value → Int} {L : List (List Value)} {x : List Value} (h : Things ks L) (hx : Fits ks x) : Things ks (putG ord L x) := fun e he => (Pl.putG_mem he).elim (fun e' => e' ▸ hx) (h e)
theorem row_one (w : World) (x : List Value) (t : TypeId) : Rd (w.alloc (.cells x.toArray t)) (w.heap.size + 1) (some ⟨w.heap.size, 0, none⟩) [x].flatten := by
  rw [show [x].flatten = x from by simp]; exact rd_one w x t
end Go.Proofs.YtjphjblcahadkaaGreat

namespace Go.Proofs.YtjphjblcahadkaaGreat
set_option linter.unusedVariables false
open Go.RowKit

abbrev tabW (w : World) (K : Nat) (cap : Array Value) (x : List Value) (T T2 : TypeId) : World := (w.alloc (.cells #[.func (.func K) #[] cap] T)).alloc (.cells x.toArray T2)
theorem tabW_below (w : World) (K : Nat) (cap : Array Value) (x : List Value) (T T2 : TypeId) : Below w.heap.size w (tabW w K cap x T T2) := ((Below.refl _ _).alloc (Nat.le_refl _) _).alloc (by simp) _
theorem tabW_cell {w w1 : World} {K : Nat} {cap : Array Value} {x : List Value} {T T2 : TypeId} (hb : Below (w.heap.size + 2) (tabW w K cap x T T2) w1) : w1.cell? ⟨w.heap.size, 0, none⟩ = some (.func (.func K) #[] cap) := (hb.cell (p := ⟨w.heap.size, 0, none⟩) (by simp)).trans (by simp [go_sem])
theorem tabW_row {w w1 : World} {K : Nat} {cap : Array Value} {x : List Value} {T T2 : TypeId} (hb : Below (w.heap.size + 2) (tabW w K cap x T T2) w1) : w1.heap[w.heap.size + 1]? = some (.cells x.toArray T2 (0, 0)) := (hb.block _ (by omega)).trans (by
  have := heap_alloc_new (w.alloc (.cells #[.func (.func K) #[] cap] T)) (.cells x.toArray T2)
  simpa using this)
end Go.Proofs.YtjphjblcahadkaaGreat

namespace Go.Proofs.YtjphjblcahadkaaGreat
set_option linter.unusedVariables false
open Go.RowKit

/-- Values laid one behind the other from place o on. -/
def setL (xs : List Value) : Nat → List Value → List Value
  | _, [] => xs
  | o, v :: vs => setL (xs.set o v) (o + 1) vs
theorem setL_eq : ∀ (vs xs : List Value) (o : Nat), o + vs.length ≤ xs.length → setL xs o vs = xs.take o ++ vs ++ xs.drop (o + vs.length)
  | [], xs, o, _ => by simp [setL]
  | v :: vs, xs, o, h => by
    simp only [List.length_cons] at h
    unfold setL
    rw [setL_eq vs (xs.set o v) (o + 1) (by rw [List.length_set]; omega)]
    have h1 : (xs.set o v).take (o + 1) = xs.take o ++ [v] := by
      rw [List.set_eq_take_append_cons_drop, if_pos (by omega), List.take_append]
      simp only [List.length_take, List.take_take]
      rw [show o + 1 - min o xs.length = 1 from by omega, show min (o + 1) o = o from by omega]
      simp
    have h2 : (xs.set o v).drop (o + 1 + vs.length) = xs.drop (o + (v :: vs).length) := by
      rw [List.drop_set_of_lt (by omega)]
      simp only [List.length_cons]
      rw [show o + 1 + vs.length = o + (vs.length + 1) from by omega]
    rw [h1, h2]
    simp
theorem set_flatten {sz : Nat} {L : List (List Value)} (h : ∀ e ∈ L, e.length = sz) {x : List Value} (hx : x.length = sz) {i : Nat} (hi : i < L.length) : (L.set i x).flatten = setL L.flatten (i * sz) x := by
  have hl := flat_length h
  have hs : (i + 1) * sz ≤ L.length * sz := Nat.mul_le_mul_right sz hi
  rw [Nat.succ_mul] at hs
  rw [setL_eq _ _ _ (by rw [hl, hx]; exact hs), hx, ← Nat.succ_mul, ← flat_take h, ← flat_drop h]
  rw [List.set_eq_take_append_cons_drop, if_pos hi]
  simp
theorem own_cells {B g n c sz : Nat} {e : TypeId} (hg : B ≤ g) : ∀ (vs : List Value) (w : World) (o : Nat) (xs : List Value), w.ownsRow B e sz (.slice (some ⟨g, 0, none⟩) n c) n xs →
    (w.setCells g o vs).ownsRow B e sz (.slice (some ⟨g, 0, none⟩) n c) n (setL xs o vs) ∧ Below B w (w.setCells g o vs)
  | [], w, o, xs, h => ⟨h, Below.refl _ _⟩
  | v :: vs, w, o, xs, h => by
    have h1 := h.stored o v
    have h2 := own_cells hg vs _ (o + 1) _ h1.1
    exact ⟨h2.1, ((Below.refl B w).setCell (p := ⟨g, o, none⟩) hg v).trans h2.2⟩
theorem own_thing {w : World} {B g n c sz : Nat} {e : TypeId} {L : List (List Value)} (hown : w.ownsRow B e sz (.slice (some ⟨g, 0, none⟩) n c) n L.flatten) (hg : B ≤ g) (hL : ∀ e ∈ L, e.length = sz) {x : List Value} (hx : x.length = sz) {i : Nat} (hi : i < L.length) :
    (w.setCells g (i * sz) x).ownsRow B e sz (.slice (some ⟨g, 0, none⟩) n c) n (L.set i x).flatten ∧ Below B w (w.setCells g (i * sz) x) := by
  rw [set_flatten hL hx hi]
  exact own_cells hg x w (i * sz) _ hown
theorem own_there {w : World} {B g n c sz : Nat} {e : TypeId} {L : List (List Value)} (hown : w.ownsRow B e sz (.slice (some ⟨g, 0, none⟩) n c) n L.flatten) (hL : ∀ e ∈ L, e.length = sz) (hn : n = L.length) {i : Nat} (hi : i < n) : w.there g (i * sz) sz := fun j hj => by
  have hs : (i + 1) * sz ≤ n * sz := Nat.mul_le_mul_right sz hi
  rw [Nat.succ_mul] at hs
  have hl : L.flatten.length = n * sz := by rw [flat_length hL, hn]
  rw [hown.cellAt (i * sz + j) (by omega), List.getElem?_eq_getElem (by omega)]
  exact ⟨rfl, hown.frozenAt _⟩
end Go.Proofs.YtjphjblcahadkaaGreat

namespace Go.Proofs.YtjphjblcahadkaaGreat
set_option linter.unusedVariables false
open Go.RowKit
open Pl (firstG firstG_none firstG_some findG overG putG)

set_option maxRecDepth 100000 in
theorem find1Item (bp bq K : Nat) (cap : Array Value) (ord : List Value → List Value → Int) (x s : List Value) (w : World) (hp : w.cell? ⟨bp, 0, none⟩ = some (.func (.func K) #[] cap)) (hq : w.heap[bq]? = some (.cells x.toArray 59 (0, 0))) (lp : bp < w.heap.size) (hO : TellsO kItem w K cap ord) (hx : Fits kItem x) (hs : Fits kItem s) :
    Calls Tryz.prog 93 #[.agg s.toArray, .pointer (some ⟨bp, 0, none⟩), .pointer (some ⟨bq, 0, none⟩)] w fun e w' => e = .returned (.bool (ord s x == 0)) ∧ Below w.heap.size w w' := by
  have hent := hO.1
  have HT := Lib.hid hO.2
  have hu := Tryz.underlying59
  have HSZ : Hid (∀ y, Fits kItem y → (Tryz.prog.info? 59).map (·.size) = some y.toArray.size) := Lib.hid (fun y hy => by rw [show (Tryz.prog.info? 59).map (·.size) = some 14 from by kernel_rfl, List.size_toArray, hy.length]; rfl)
  have HQ : Hid ((w.alloc (.cells s.toArray 59)).heap[bq]? = some (.cells x.toArray 59 (0, 0))) := Lib.hid ((((Below.refl w.heap.size w).alloc (Nat.le_refl _) _).block _ (lt_of_block hq)).trans hq)
  have HS : Hid ((w.alloc (.cells s.toArray 59)).heap[w.heap.size]? = some (.cells s.toArray 59 (0, 0))) := Lib.hid (heap_alloc_new _ _)
  have HX := Lib.hid hx
  have HE := Lib.hid hs
  clear hO hq hx hs
  go_enter Tryz.func93, Tryz.ntmps93
  go_wp2_with (first
    | (refine wpList_load_row rfl 59 (.tmp 3) rfl w.heap.size rfl _ _ _ _ HS.out hu rfl (HSZ.out _ HE.out) ?_)
    | (refine wpList_load_row rfl 59 (.tmp 2) rfl bq rfl _ _ _ _ HQ.out hu rfl (HSZ.out _ HX.out) ?_)
    | fail)
  refine (HT.out _ ((Below.refl _ w).alloc (Nat.le_refl _) _) s x HE.out HX.out).mono ?_
  rintro e w1 ⟨rfl, hb⟩
  have B1 := Lib.hid (((Below.refl _ w).alloc (Nat.le_refl _) (.cells s.toArray 59)).trans (hb.mono (by simp)))
  clear hb
  go_wp2_with fail
  go_ret
  exact ⟨rfl, B1.out⟩


set_option maxRecDepth 100000 in
theorem holdsIdleItem (p : Addr) (w : World) :
    CallsD Tryz.prog 117 #[.pointer (some p)] .returning w fun e u' w' => e = .returned (.tuple #[]) ∧ u' = .returning ∧ w' = w := by
  refine callsD_of_wpS Tryz.func117 rfl fun c₀ cs hu => ?_
  apply wpS_seq
  apply wpS_region
  simp [wpOpsS, go_sem, recoverD, hu, Tryz.ntmps117, Exit.thenS]
  refine wpS_cond (t := false) (by simp [Act.eval, Array.replicate]) ?_
  simp only [Bool.false_eq_true, if_false]
  refine wpS_of_wp (wp_skip ?_)
  cases c₀
  simp_all [bodyPostS, results, Tryz.results117]

set_option maxRecDepth 100000 in
theorem holdsItem (K : Nat) (cap : Array Value) (f : List Value → Bool) (s : List Value) (w : World) (h : TellsF kItem w K cap f) (hs : Fits kItem s) :
    Calls Tryz.prog 106 #[.func (.func K) #[] cap, .agg s.toArray] w fun e w' => e = .returned (.bool (f s)) ∧ Below w.heap.size w w' := by
  have hent := h.1
  have HT := Lib.hid h.2
  have hu := Tryz.underlying59
  have HSZ : Hid (∀ y, Fits kItem y → (Tryz.prog.info? 59).map (·.size) = some y.toArray.size) := Lib.hid (fun y hy => by rw [show (Tryz.prog.info? 59).map (·.size) = some 14 from by kernel_rfl, List.size_toArray, hy.length]; rfl)
  have HS : Hid (((w.alloc (.cells s.toArray 59)).alloc (.cells #[.bool false] 4)).heap[w.heap.size]? = some (.cells s.toArray 59 (0, 0))) := Lib.hid ((Below.heap_alloc _ _ _ (by simp)).trans (heap_alloc_new _ _))
  have HE := Lib.hid hs
  clear h hs
  have hmf : ∀ (fn : Fn) (first cap : Array Value) (w : World), (Instr.makeFunc fn first cap).run Tryz.prog w = .ok (.func fn first cap) w := fun _ _ _ _ => rfl
  go_enter_defers Tryz.func106, Tryz.ntmps106
  go_wp2_with (first
    | (refine wpList_load_row rfl 59 (.tmp 3) rfl w.heap.size rfl _ _ _ _ HS.out hu rfl (HSZ.out _ HE.out) ?_)
    | fail)
  refine (HT.out _ (((Below.refl _ w).alloc (Nat.le_refl _) _).alloc (by simp) _) s HE.out).mono ?_
  rintro e w1 ⟨rfl, hb⟩
  have hc : w1.cell? ⟨w.heap.size + 1, 0, none⟩ = some (.bool false) := (hb.cell (p := ⟨w.heap.size + 1, 0, none⟩) (by simp)).trans (by simp [go_sem])
  have hf : w1.frozen? ⟨w.heap.size + 1, 0, none⟩ = false := (hb.frozen (p := ⟨w.heap.size + 1, 0, none⟩) (by simp)).trans (by simp [go_sem])
  have B1 := Lib.hid ((((Below.refl _ w).alloc (Nat.le_refl _) (.cells s.toArray 59)).alloc (by simp) (.cells #[.bool false] 4)).trans (hb.mono (by simp; omega)))
  have hsz : w.heap.size + 1 < w1.heap.size := by have := hb.size; simp at this; omega
  clear hb
  go_wp2_with fail
  refine leaves_cons (f := 117) (args := #[.pointer (some ⟨w.heap.size + 1, 0, none⟩)]) (by simp) (by simp [go_sem]) ?_
  refine (holdsIdleItem ⟨w.heap.size + 1, 0, none⟩ _).mono ?_
  rintro e u' w'' ⟨rfl, rfl, rfl⟩
  have hs := World.cell?_setCell_same w1 ⟨w.heap.size + 1, 0, none⟩ (.bool (f s)) hc
  simp [Leaves, settle, results, Tryz.results106, go_sem, hs]
  exact B1.out.setCell (by simp) _
end Go.Proofs.YtjphjblcahadkaaGreat

namespace Go.Proofs.YtjphjblcahadkaaGreat
set_option linter.unusedVariables false
open Go.RowKit
open Pl (firstG firstG_none firstG_some findG overG putG)

set_option maxRecDepth 100000 in
theorem find1Zone (bp bq K : Nat) (cap : Array Value) (ord : List Value → List Value → Int) (x s : List Value) (w : World) (hp : w.cell? ⟨bp, 0, none⟩ = some (.func (.func K) #[] cap)) (hq : w.heap[bq]? = some (.cells x.toArray 65 (0, 0))) (lp : bp < w.heap.size) (hO : TellsO kZone w K cap ord) (hx : Fits kZone x) (hs : Fits kZone s) :
    Calls Tryz.prog 121 #[.agg s.toArray, .pointer (some ⟨bp, 0, none⟩), .pointer (some ⟨bq, 0, none⟩)] w fun e w' => e = .returned (.bool (ord s x == 0)) ∧ Below w.heap.size w w' := by
  have hent := hO.1
  have HT := Lib.hid hO.2
  have hu := Tryz.underlying65
  have HSZ : Hid (∀ y, Fits kZone y → (Tryz.prog.info? 65).map (·.size) = some y.toArray.size) := Lib.hid (fun y hy => by rw [show (Tryz.prog.info? 65).map (·.size) = some 2 from by kernel_rfl, List.size_toArray, hy.length]; rfl)
  have HQ : Hid ((w.alloc (.cells s.toArray 65)).heap[bq]? = some (.cells x.toArray 65 (0, 0))) := Lib.hid ((((Below.refl w.heap.size w).alloc (Nat.le_refl _) _).block _ (lt_of_block hq)).trans hq)
  have HS : Hid ((w.alloc (.cells s.toArray 65)).heap[w.heap.size]? = some (.cells s.toArray 65 (0, 0))) := Lib.hid (heap_alloc_new _ _)
  have HX := Lib.hid hx
  have HE := Lib.hid hs
  clear hO hq hx hs
  go_enter Tryz.func121, Tryz.ntmps121
  go_wp2_with (first
    | (refine wpList_load_row rfl 65 (.tmp 3) rfl w.heap.size rfl _ _ _ _ HS.out hu rfl (HSZ.out _ HE.out) ?_)
    | (refine wpList_load_row rfl 65 (.tmp 2) rfl bq rfl _ _ _ _ HQ.out hu rfl (HSZ.out _ HX.out) ?_)
    | fail)
  refine (HT.out _ ((Below.refl _ w).alloc (Nat.le_refl _) _) s x HE.out HX.out).mono ?_
  rintro e w1 ⟨rfl, hb⟩
  have B1 := Lib.hid (((Below.refl _ w).alloc (Nat.le_refl _) (.cells s.toArray 65)).trans (hb.mono (by simp)))
  clear hb
  go_wp2_with fail
  go_ret
  exact ⟨rfl, B1.out⟩


set_option maxRecDepth 100000 in
theorem holdsIdleZone (p : Addr) (w : World) :
    CallsD Tryz.prog 126 #[.pointer (some p)] .returning w fun e u' w' => e = .returned (.tuple #[]) ∧ u' = .returning ∧ w' = w := by
  refine callsD_of_wpS Tryz.func126 rfl fun c₀ cs hu => ?_
  apply wpS_seq
  apply wpS_region
  simp [wpOpsS, go_sem, recoverD, hu, Tryz.ntmps126, Exit.thenS]
  refine wpS_cond (t := false) (by simp [Act.eval, Array.replicate]) ?_
  simp only [Bool.false_eq_true, if_false]
  refine wpS_of_wp (wp_skip ?_)
  cases c₀
  simp_all [bodyPostS, results, Tryz.results126]

set_option maxRecDepth 100000 in
theorem holdsZone (K : Nat) (cap : Array Value) (f : List Value → Bool) (s : List Value) (w : World) (h : TellsF kZone w K cap f) (hs : Fits kZone s) :
    Calls Tryz.prog 124 #[.func (.func K) #[] cap, .agg s.toArray] w fun e w' => e = .returned (.bool (f s)) ∧ Below w.heap.size w w' := by
  have hent := h.1
  have HT := Lib.hid h.2
  have hu := Tryz.underlying65
  have HSZ : Hid (∀ y, Fits kZone y → (Tryz.prog.info? 65).map (·.size) = some y.toArray.size) := Lib.hid (fun y hy => by rw [show (Tryz.prog.info? 65).map (·.size) = some 2 from by kernel_rfl, List.size_toArray, hy.length]; rfl)
  have HS : Hid (((w.alloc (.cells s.toArray 65)).alloc (.cells #[.bool false] 4)).heap[w.heap.size]? = some (.cells s.toArray 65 (0, 0))) := Lib.hid ((Below.heap_alloc _ _ _ (by simp)).trans (heap_alloc_new _ _))
  have HE := Lib.hid hs
  clear h hs
  have hmf : ∀ (fn : Fn) (first cap : Array Value) (w : World), (Instr.makeFunc fn first cap).run Tryz.prog w = .ok (.func fn first cap) w := fun _ _ _ _ => rfl
  go_enter_defers Tryz.func124, Tryz.ntmps124
  go_wp2_with (first
    | (refine wpList_load_row rfl 65 (.tmp 3) rfl w.heap.size rfl _ _ _ _ HS.out hu rfl (HSZ.out _ HE.out) ?_)
    | fail)
  refine (HT.out _ (((Below.refl _ w).alloc (Nat.le_refl _) _).alloc (by simp) _) s HE.out).mono ?_
  rintro e w1 ⟨rfl, hb⟩
  have hc : w1.cell? ⟨w.heap.size + 1, 0, none⟩ = some (.bool false) := (hb.cell (p := ⟨w.heap.size + 1, 0, none⟩) (by simp)).trans (by simp [go_sem])
  have hf : w1.frozen? ⟨w.heap.size + 1, 0, none⟩ = false := (hb.frozen (p := ⟨w.heap.size + 1, 0, none⟩) (by simp)).trans (by simp [go_sem])
  have B1 := Lib.hid ((((Below.refl _ w).alloc (Nat.le_refl _) (.cells s.toArray 65)).alloc (by simp) (.cells #[.bool false] 4)).trans (hb.mono (by simp; omega)))
  have hsz : w.heap.size + 1 < w1.heap.size := by have := hb.size; simp at this; omega
  clear hb
  go_wp2_with fail
  refine leaves_cons (f := 126) (args := #[.pointer (some ⟨w.heap.size + 1, 0, none⟩)]) (by simp) (by simp [go_sem]) ?_
  refine (holdsIdleZone ⟨w.heap.size + 1, 0, none⟩ _).mono ?_
  rintro e u' w'' ⟨rfl, rfl, rfl⟩
  have hs := World.cell?_setCell_same w1 ⟨w.heap.size + 1, 0, none⟩ (.bool (f s)) hc
  simp [Leaves, settle, results, Tryz.results124, go_sem, hs]
  exact B1.out.setCell (by simp) _
end Go.Proofs.YtjphjblcahadkaaGreat

namespace Go.Proofs.YtjphjblcahadkaaGreat
set_option linter.unusedVariables false
open Go.RowKit
open Pl (firstG firstG_none firstG_some findG overG putG)

set_option maxRecDepth 100000 in
theorem find1Bin (bp bq K : Nat) (cap : Array Value) (ord : List Value → List Value → Int) (x s : List Value) (w : World) (hp : w.cell? ⟨bp, 0, none⟩ = some (.func (.func K) #[] cap)) (hq : w.heap[bq]? = some (.cells x.toArray 68 (0, 0))) (lp : bp < w.heap.size) (hO : TellsO kBin w K cap ord) (hx : Fits kBin x) (hs : Fits kBin s) :
    Calls Tryz.prog 116 #[.agg s.toArray, .pointer (some ⟨bp, 0, none⟩), .pointer (some ⟨bq, 0, none⟩)] w fun e w' => e = .returned (.bool (ord s x == 0)) ∧ Below w.heap.size w w' := by
  have hent := hO.1
  have HT := Lib.hid hO.2
  have hu := Tryz.underlying68
  have HSZ : Hid (∀ y, Fits kBin y → (Tryz.prog.info? 68).map (·.size) = some y.toArray.size) := Lib.hid (fun y hy => by rw [show (Tryz.prog.info? 68).map (·.size) = some 8 from by kernel_rfl, List.size_toArray, hy.length]; rfl)
  have HQ : Hid ((w.alloc (.cells s.toArray 68)).heap[bq]? = some (.cells x.toArray 68 (0, 0))) := Lib.hid ((((Below.refl w.heap.size w).alloc (Nat.le_refl _) _).block _ (lt_of_block hq)).trans hq)
  have HS : Hid ((w.alloc (.cells s.toArray 68)).heap[w.heap.size]? = some (.cells s.toArray 68 (0, 0))) := Lib.hid (heap_alloc_new _ _)
  have HX := Lib.hid hx
  have HE := Lib.hid hs
  clear hO hq hx hs
  go_enter Tryz.func116, Tryz.ntmps116
  go_wp2_with (first
    | (refine wpList_load_row rfl 68 (.tmp 3) rfl w.heap.size rfl _ _ _ _ HS.out hu rfl (HSZ.out _ HE.out) ?_)
    | (refine wpList_load_row rfl 68 (.tmp 2) rfl bq rfl _ _ _ _ HQ.out hu rfl (HSZ.out _ HX.out) ?_)
    | fail)
  refine (HT.out _ ((Below.refl _ w).alloc (Nat.le_refl _) _) s x HE.out HX.out).mono ?_
  rintro e w1 ⟨rfl, hb⟩
  have B1 := Lib.hid (((Below.refl _ w).alloc (Nat.le_refl _) (.cells s.toArray 68)).trans (hb.mono (by simp)))
  clear hb
  go_wp2_with fail
  go_ret
  exact ⟨rfl, B1.out⟩


set_option maxRecDepth 100000 in
theorem holdsIdleBin (p : Addr) (w : World) :
    CallsD Tryz.prog 109 #[.pointer (some p)] .returning w fun e u' w' => e = .returned (.tuple #[]) ∧ u' = .returning ∧ w' = w := by
  refine callsD_of_wpS Tryz.func109 rfl fun c₀ cs hu => ?_
  apply wpS_seq
  apply wpS_region
  simp [wpOpsS, go_sem, recoverD, hu, Tryz.ntmps109, Exit.thenS]
  refine wpS_cond (t := false) (by simp [Act.eval, Array.replicate]) ?_
  simp only [Bool.false_eq_true, if_false]
  refine wpS_of_wp (wp_skip ?_)
  cases c₀
  simp_all [bodyPostS, results, Tryz.results109]

set_option maxRecDepth 100000 in
theorem holdsBin (K : Nat) (cap : Array Value) (f : List Value → Bool) (s : List Value) (w : World) (h : TellsF kBin w K cap f) (hs : Fits kBin s) :
    Calls Tryz.prog 96 #[.func (.func K) #[] cap, .agg s.toArray] w fun e w' => e = .returned (.bool (f s)) ∧ Below w.heap.size w w' := by
  have hent := h.1
  have HT := Lib.hid h.2
  have hu := Tryz.underlying68
  have HSZ : Hid (∀ y, Fits kBin y → (Tryz.prog.info? 68).map (·.size) = some y.toArray.size) := Lib.hid (fun y hy => by rw [show (Tryz.prog.info? 68).map (·.size) = some 8 from by kernel_rfl, List.size_toArray, hy.length]; rfl)
  have HS : Hid (((w.alloc (.cells s.toArray 68)).alloc (.cells #[.bool false] 4)).heap[w.heap.size]? = some (.cells s.toArray 68 (0, 0))) := Lib.hid ((Below.heap_alloc _ _ _ (by simp)).trans (heap_alloc_new _ _))
  have HE := Lib.hid hs
  clear h hs
  have hmf : ∀ (fn : Fn) (first cap : Array Value) (w : World), (Instr.makeFunc fn first cap).run Tryz.prog w = .ok (.func fn first cap) w := fun _ _ _ _ => rfl
  go_enter_defers Tryz.func96, Tryz.ntmps96
  go_wp2_with (first
    | (refine wpList_load_row rfl 68 (.tmp 3) rfl w.heap.size rfl _ _ _ _ HS.out hu rfl (HSZ.out _ HE.out) ?_)
    | fail)
  refine (HT.out _ (((Below.refl _ w).alloc (Nat.le_refl _) _).alloc (by simp) _) s HE.out).mono ?_
  rintro e w1 ⟨rfl, hb⟩
  have hc : w1.cell? ⟨w.heap.size + 1, 0, none⟩ = some (.bool false) := (hb.cell (p := ⟨w.heap.size + 1, 0, none⟩) (by simp)).trans (by simp [go_sem])
  have hf : w1.frozen? ⟨w.heap.size + 1, 0, none⟩ = false := (hb.frozen (p := ⟨w.heap.size + 1, 0, none⟩) (by simp)).trans (by simp [go_sem])
  have B1 := Lib.hid ((((Below.refl _ w).alloc (Nat.le_refl _) (.cells s.toArray 68)).alloc (by simp) (.cells #[.bool false] 4)).trans (hb.mono (by simp; omega)))
  have hsz : w.heap.size + 1 < w1.heap.size := by have := hb.size; simp at this; omega
  clear hb
  go_wp2_with fail
  refine leaves_cons (f := 109) (args := #[.pointer (some ⟨w.heap.size + 1, 0, none⟩)]) (by simp) (by simp [go_sem]) ?_
  refine (holdsIdleBin ⟨w.heap.size + 1, 0, none⟩ _).mono ?_
  rintro e u' w'' ⟨rfl, rfl, rfl⟩
  have hs := World.cell?_setCell_same w1 ⟨w.heap.size + 1, 0, none⟩ (.bool (f s)) hc
  simp [Leaves, settle, results, Tryz.results96, go_sem, hs]
  exact B1.out.setCell (by simp) _
end Go.Proofs.YtjphjblcahadkaaGreat

namespace Go.Proofs.YtjphjblcahadkaaGreat
set_option linter.unusedVariables false
open Go.RowKit
open Pl (firstG firstG_none firstG_some findG overG putG)

set_option maxRecDepth 100000 in
theorem find1Rule (bp bq K : Nat) (cap : Array Value) (ord : List Value → List Value → Int) (x s : List Value) (w : World) (hp : w.cell? ⟨bp, 0, none⟩ = some (.func (.func K) #[] cap)) (hq : w.heap[bq]? = some (.cells x.toArray 39 (0, 0))) (lp : bp < w.heap.size) (hO : TellsO kRule w K cap ord) (hx : Fits kRule x) (hs : Fits kRule s) :
    Calls Tryz.prog 87 #[.agg s.toArray, .pointer (some ⟨bp, 0, none⟩), .pointer (some ⟨bq, 0, none⟩)] w fun e w' => e = .returned (.bool (ord s x == 0)) ∧ Below w.heap.size w w' := by
  have hent := hO.1
  have HT := Lib.hid hO.2
  have hu := Tryz.underlying39
  have HSZ : Hid (∀ y, Fits kRule y → (Tryz.prog.info? 39).map (·.size) = some y.toArray.size) := Lib.hid (fun y hy => by rw [show (Tryz.prog.info? 39).map (·.size) = some 3 from by kernel_rfl, List.size_toArray, hy.length]; rfl)
  have HQ : Hid ((w.alloc (.cells s.toArray 39)).heap[bq]? = some (.cells x.toArray 39 (0, 0))) := Lib.hid ((((Below.refl w.heap.size w).alloc (Nat.le_refl _) _).block _ (lt_of_block hq)).trans hq)
  have HS : Hid ((w.alloc (.cells s.toArray 39)).heap[w.heap.size]? = some (.cells s.toArray 39 (0, 0))) := Lib.hid (heap_alloc_new _ _)
  have HX := Lib.hid hx
  have HE := Lib.hid hs
  clear hO hq hx hs
  go_enter Tryz.func87, Tryz.ntmps87
  go_wp2_with (first
    | (refine wpList_load_row rfl 39 (.tmp 3) rfl w.heap.size rfl _ _ _ _ HS.out hu rfl (HSZ.out _ HE.out) ?_)
    | (refine wpList_load_row rfl 39 (.tmp 2) rfl bq rfl _ _ _ _ HQ.out hu rfl (HSZ.out _ HX.out) ?_)
    | fail)
  refine (HT.out _ ((Below.refl _ w).alloc (Nat.le_refl _) _) s x HE.out HX.out).mono ?_
  rintro e w1 ⟨rfl, hb⟩
  have B1 := Lib.hid (((Below.refl _ w).alloc (Nat.le_refl _) (.cells s.toArray 39)).trans (hb.mono (by simp)))
  clear hb
  go_wp2_with fail
  go_ret
  exact ⟨rfl, B1.out⟩

set_option maxRecDepth 100000 in
theorem put1Rule (bp bq K : Nat) (cap : Array Value) (ord : List Value → List Value → Int) (x s : List Value) (w : World) (hp : w.cell? ⟨bp, 0, none⟩ = some (.func (.func K) #[] cap)) (hq : w.heap[bq]? = some (.cells x.toArray 39 (0, 0))) (lp : bp < w.heap.size) (hO : TellsO kRule w K cap ord) (hx : Fits kRule x) (hs : Fits kRule s) :
    Calls Tryz.prog 63 #[.agg s.toArray, .pointer (some ⟨bp, 0, none⟩), .pointer (some ⟨bq, 0, none⟩)] w fun e w' => e = .returned (.bool (decide (0 < ord s x))) ∧ Below w.heap.size w w' := by
  have hent := hO.1
  have HT := Lib.hid hO.2
  have hu := Tryz.underlying39
  have HSZ : Hid (∀ y, Fits kRule y → (Tryz.prog.info? 39).map (·.size) = some y.toArray.size) := Lib.hid (fun y hy => by rw [show (Tryz.prog.info? 39).map (·.size) = some 3 from by kernel_rfl, List.size_toArray, hy.length]; rfl)
  have HQ : Hid ((w.alloc (.cells s.toArray 39)).heap[bq]? = some (.cells x.toArray 39 (0, 0))) := Lib.hid ((((Below.refl w.heap.size w).alloc (Nat.le_refl _) _).block _ (lt_of_block hq)).trans hq)
  have HS : Hid ((w.alloc (.cells s.toArray 39)).heap[w.heap.size]? = some (.cells s.toArray 39 (0, 0))) := Lib.hid (heap_alloc_new _ _)
  have HX := Lib.hid hx
  have HE := Lib.hid hs
  clear hO hq hx hs
  go_enter Tryz.func63, Tryz.ntmps63
  go_wp2_with (first
    | (refine wpList_load_row rfl 39 (.tmp 3) rfl w.heap.size rfl _ _ _ _ HS.out hu rfl (HSZ.out _ HE.out) ?_)
    | (refine wpList_load_row rfl 39 (.tmp 2) rfl bq rfl _ _ _ _ HQ.out hu rfl (HSZ.out _ HX.out) ?_)
    | fail)
  refine (HT.out _ ((Below.refl _ w).alloc (Nat.le_refl _) _) s x HE.out HX.out).mono ?_
  rintro e w1 ⟨rfl, hb⟩
  have B1 := Lib.hid (((Below.refl _ w).alloc (Nat.le_refl _) (.cells s.toArray 39)).trans (hb.mono (by simp)))
  clear hb
  go_wp2_with fail
  go_ret
  exact ⟨rfl, B1.out⟩

set_option maxRecDepth 100000 in
theorem holdsIdleRule (p : Addr) (w : World) :
    CallsD Tryz.prog 105 #[.pointer (some p)] .returning w fun e u' w' => e = .returned (.tuple #[]) ∧ u' = .returning ∧ w' = w := by
  refine callsD_of_wpS Tryz.func105 rfl fun c₀ cs hu => ?_
  apply wpS_seq
  apply wpS_region
  simp [wpOpsS, go_sem, recoverD, hu, Tryz.ntmps105, Exit.thenS]
  refine wpS_cond (t := false) (by simp [Act.eval, Array.replicate]) ?_
  simp only [Bool.false_eq_true, if_false]
  refine wpS_of_wp (wp_skip ?_)
  cases c₀
  simp_all [bodyPostS, results, Tryz.results105]

set_option maxRecDepth 100000 in
theorem holdsRule (K : Nat) (cap : Array Value) (f : List Value → Bool) (s : List Value) (w : World) (h : TellsF kRule w K cap f) (hs : Fits kRule s) :
    Calls Tryz.prog 89 #[.func (.func K) #[] cap, .agg s.toArray] w fun e w' => e = .returned (.bool (f s)) ∧ Below w.heap.size w w' := by
  have hent := h.1
  have HT := Lib.hid h.2
  have hu := Tryz.underlying39
  have HSZ : Hid (∀ y, Fits kRule y → (Tryz.prog.info? 39).map (·.size) = some y.toArray.size) := Lib.hid (fun y hy => by rw [show (Tryz.prog.info? 39).map (·.size) = some 3 from by kernel_rfl, List.size_toArray, hy.length]; rfl)
  have HS : Hid (((w.alloc (.cells s.toArray 39)).alloc (.cells #[.bool false] 4)).heap[w.heap.size]? = some (.cells s.toArray 39 (0, 0))) := Lib.hid ((Below.heap_alloc _ _ _ (by simp)).trans (heap_alloc_new _ _))
  have HE := Lib.hid hs
  clear h hs
  have hmf : ∀ (fn : Fn) (first cap : Array Value) (w : World), (Instr.makeFunc fn first cap).run Tryz.prog w = .ok (.func fn first cap) w := fun _ _ _ _ => rfl
  go_enter_defers Tryz.func89, Tryz.ntmps89
  go_wp2_with (first
    | (refine wpList_load_row rfl 39 (.tmp 3) rfl w.heap.size rfl _ _ _ _ HS.out hu rfl (HSZ.out _ HE.out) ?_)
    | fail)
  refine (HT.out _ (((Below.refl _ w).alloc (Nat.le_refl _) _).alloc (by simp) _) s HE.out).mono ?_
  rintro e w1 ⟨rfl, hb⟩
  have hc : w1.cell? ⟨w.heap.size + 1, 0, none⟩ = some (.bool false) := (hb.cell (p := ⟨w.heap.size + 1, 0, none⟩) (by simp)).trans (by simp [go_sem])
  have hf : w1.frozen? ⟨w.heap.size + 1, 0, none⟩ = false := (hb.frozen (p := ⟨w.heap.size + 1, 0, none⟩) (by simp)).trans (by simp [go_sem])
  have B1 := Lib.hid ((((Below.refl _ w).alloc (Nat.le_refl _) (.cells s.toArray 39)).alloc (by simp) (.cells #[.bool false] 4)).trans (hb.mono (by simp; omega)))
  have hsz : w.heap.size + 1 < w1.heap.size := by have := hb.size; simp at this; omega
  clear hb
  go_wp2_with fail
  refine leaves_cons (f := 105) (args := #[.pointer (some ⟨w.heap.size + 1, 0, none⟩)]) (by simp) (by simp [go_sem]) ?_
  refine (holdsIdleRule ⟨w.heap.size + 1, 0, none⟩ _).mono ?_
  rintro e u' w'' ⟨rfl, rfl, rfl⟩
  have hs := World.cell?_setCell_same w1 ⟨w.heap.size + 1, 0, none⟩ (.bool (f s)) hc
  simp [Leaves, settle, results, Tryz.results89, go_sem, hs]
  exact B1.out.setCell (by simp) _
end Go.Proofs.YtjphjblcahadkaaGreat
