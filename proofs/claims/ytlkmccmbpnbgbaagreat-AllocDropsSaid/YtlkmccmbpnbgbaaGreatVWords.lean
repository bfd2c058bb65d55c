/-
 WORDS of a sort in place: an order as a function value; things of a row in memory, two of which change places. (By wip/tools/gen_wsort.py.)
-/
import Derived.Test.YtlkmccmbpnbgbaaGreatNPl
import Derived.Test.YtlkmccmbpnbgbaaGreatGT
import Derived.Test.YtlkmccmbpnbgbaaGreatHAppK
namespace Go.Proofs.YtlkmccmbpnbgbaaGreat
set_option linter.unusedVariables false
open Go.RowKit

/-- A function value that orders things, in every world. -/
def TellsC (ks : List CK) (K : Nat) (ord : List Value → List Value → Int) : Prop :=
 (∀ (args : Array Value) (W : World), (callFunc K args).run Tryz.prog W = .ok (.enter K args) W) ∧
 ∀ W a b, Fits ks a → Fits ks b → Calls Tryz.prog K #[.agg a.toArray, .agg b.toArray] W fun r W' => r = .returned (.int .i64 (ord a b)) ∧ Below W.heap.size W W'
/-- By that order, is a thing less than another one? -/
def lessO (ord : List Value → List Value → Int) (a b : List Value) : Bool := decide (ord a b < 0)
theorem lessO_int (ord : List Value → List Value → Int) (a b : List Value) {z : Int} (h : ord a b = z) : decide (z < 0) = lessO ord a b := by rw [← h]; rfl
theorem row_at {ks : List CK} {w : World} {B T sz g n c p : Nat} {M : List (List Value)} {x : List Value} (ho : w.ownsRow B T sz (.slice (some ⟨g, 0, none⟩) n c) n M.flatten) (hM : Things ks M) (hs : ks.length = sz) (hn : n = M.length) (hpx : M[p]? = some x) : w.rangeAt g (p * sz) x := by
 obtain ⟨hp, hx⟩ := List.getElem?_eq_some_iff.1 hpx
 clear hpx
 subst hx hs hn
 intro i u hu
 have hi : i < ks.length := by
  have := (List.getElem?_eq_some_iff.1 hu).1
  rw [hM.len _ (List.getElem_mem hp)] at this
  exact this
 have hl := flat_length hM.len
 have hm : (p + 1) * ks.length ≤ M.length * ks.length := Nat.mul_le_mul_right _ hp
 rw [Nat.succ_mul] at hm
 show w.cell? ⟨g, p * ks.length + i, none⟩ = some u
 rw [ho.cellAt (p * ks.length + i) (by omega)]
 exact (flat_at hM.len p i hp hi).trans hu
theorem things_set {ks : List CK} {M : List (List Value)} {x : List Value} (h : Things ks M) (hx : Fits ks x) (p : Nat) : Things ks (M.set p x) := fun e he => by
 rcases List.mem_or_eq_of_mem_set he with h1 | h1
 · exact h e h1
 · exact h1 ▸ hx
theorem things_perm {ks : List CK} {L M : List (List Value)} (h : Things ks L) (hp : M.Perm L) : Things ks M := fun e he => h e (hp.mem_iff.1 he)
/-- Two things of a row change places. -/
theorem row_swap {ks : List CK} {w : World} {B T sz g n c p q : Nat} {M : List (List Value)} {x y : List Value} (ho : w.ownsRow B T sz (.slice (some ⟨g, 0, none⟩) n c) n M.flatten) (hg : B ≤ g) (hM : Things ks M) (hs : ks.length = sz) (hn : n = M.length) (hpx : M[p]? = some x) (hqy : M[q]? = some y) :
 w.rangeAt g (p * sz) x ∧ w.rangeAt g (q * sz) y ∧ w.there g (p * sz) sz ∧ (w.setCells g (p * sz) y).there g (q * sz) sz ∧
 ((w.setCells g (p * sz) y).setCells g (q * sz) x).ownsRow B T sz (.slice (some ⟨g, 0, none⟩) n c) n ((M.set p y).set q x).flatten ∧ Below B w ((w.setCells g (p * sz) y).setCells g (q * sz) x) := by
 obtain ⟨hp, hx⟩ := List.getElem?_eq_some_iff.1 hpx
 obtain ⟨hq, hy⟩ := List.getElem?_eq_some_iff.1 hqy
 have fx : Fits ks x := hx ▸ hM _ (List.getElem_mem hp)
 have fy : Fits ks y := hy ▸ hM _ (List.getElem_mem hq)
 have hMl : ∀ e ∈ M, e.length = sz := fun e he => by rw [hM.len e he, hs]
 have h1 := own_thing ho hg hMl (by rw [fy.length, hs] : y.length = sz) hp
 have hM1 := things_set hM fy p
 have hM1l : ∀ e ∈ M.set p y, e.length = sz := fun e he => by rw [hM1.len e he, hs]
 have h2 := own_thing h1.1 hg hM1l (by rw [fx.length, hs] : x.length = sz) (by rw [List.length_set]; exact hq : q < (M.set p y).length)
 exact ⟨row_at ho hM hs hn hpx, row_at ho hM hs hn hqy, own_there ho hMl hn (by omega), own_there h1.1 hM1l (by rw [List.length_set]; exact hn) (by omega), h2.1, h1.2.trans h2.2⟩
theorem own_ge {w : World} {B T sz n c g : Nat} {xs : List Value} (h : w.ownsRow B T sz (.slice (some ⟨g, 0, none⟩) n c) n xs) : B ≤ g := by
 obtain ⟨_, h | ⟨g', cap, cur, hv, hg, hh, hr⟩⟩ := h
 · exact absurd h.1 (by simp)
 · injection hv with h1; injection h1 with h1; injection h1 with h1; subst h1; exact hg
theorem some_at {M : List (List Value)} {p : Nat} {x : List Value} (h : ∃ hp : p < M.length, M[p] = x) : M[p]? = some x := List.getElem?_eq_some_iff.2 h
theorem at_lt {M : List (List Value)} {p : Nat} {x : List Value} (h : M[p]? = some x) : p < M.length := (List.getElem?_eq_some_iff.1 h).1
theorem at_fits {ks : List CK} {M : List (List Value)} {p : Nat} {x : List Value} (h : Things ks M) (hp : M[p]? = some x) : Fits ks x := h x (List.mem_of_getElem? hp)
end Go.Proofs.YtlkmccmbpnbgbaaGreat
