/-
  CONTRACTS of the order of pairs, and of the closures that ask it.
-/
import Derived.Test.YtcpfhmipjpbhnaaRows
import Derived.Test.YtcpfhmipjpbhnaaTPlain
import Derived.WalkKit
import Derived.Lib.Hide
import Derived.Defers
import Derived.Recover
import Derived.Laws.Pointers
namespace Go.Proofs.Ytcpfhmipjpbhnaa
open Go.RowKit

/-- A pair by value. -/
abbrev pv (s : ByteArray) (n : Int) : Value := .agg #[.string s, .int .i64 n]

set_option maxRecDepth 100000 in
theorem order_any (s1 s2 : ByteArray) (n1 n2 : Int) (w : World) :
    Calls Try.prog 22 #[pv s1 n1, pv s2 n2] w fun e w' => e = .returned (.int .i64 (Pl.cmp s1 s2)) ∧ Below w.heap.size w w' := by
  have b1 : Below w.heap.size w ((w.alloc (.cells #[.string s1, .int .i64 n1] 24)).alloc (.cells #[.string s2, .int .i64 n2] 24)) :=
    ((Below.refl _ _).alloc (Nat.le_refl _) _).alloc (by simp) _
  by_cases h : Op.bytesLess s1.toList s2.toList = true
  · have e1 : Pl.cmp s1 s2 = -1 := by unfold Pl.cmp Pl.lt; rw [if_pos h]
    have E1 := Lib.hid e1
    have B1 := Lib.hid b1
    clear e1 b1
    go_enter Try.func22, Try.ntmps22
    go_wp2
    go_ret
    exact ⟨by rw [E1.out]; rfl, B1.out⟩
  · by_cases k : (s1.toList == s2.toList) = true
    · have e1 : Pl.cmp s1 s2 = 0 := by unfold Pl.cmp Pl.lt Pl.eqv; rw [if_neg h, if_pos k]
      have h' : Op.bytesLess s1.toList s2.toList = false := by simpa using h
      have E1 := Lib.hid e1
      have B1 := Lib.hid b1
      clear e1 b1 h
      go_enter Try.func22, Try.ntmps22
      go_wp2
      go_ret
      exact ⟨by rw [E1.out]; rfl, B1.out⟩
    · have e1 : Pl.cmp s1 s2 = 1 := by unfold Pl.cmp Pl.lt Pl.eqv; rw [if_neg h, if_neg k]
      have h' : Op.bytesLess s1.toList s2.toList = false := by simpa using h
      have k' : (s1.toList == s2.toList) = false := by simpa using k
      have E1 := Lib.hid e1
      have B1 := Lib.hid b1
      clear e1 b1 h k
      go_enter Try.func22, Try.ntmps22
      go_wp2
      go_ret
      exact ⟨by rw [E1.out]; rfl, B1.out⟩

/-- The boxed table of pairs. -/
abbrev tf : Value := .func (.func 22) #[] #[]

theorem store_func (P : Program) (w : World) (a : Addr) (m : Mode) (f : Fn) (x y : Array Value) : (store a (.func f x y) m).run P w = stored P w a (.func f x y) m := run_store P w a _ m rfl
attribute [local go_sem] store_func

theorem pairs_any (w : World) : Calls Try.prog 9 #[] w fun e w' => e = .returned (.agg #[tf]) ∧ Below w.heap.size w w' := by
  go_enter Try.func9, Try.ntmps9
  go_wp2
  refine bodyPost_ret (v := .agg #[tf]) ?_ rfl ⟨rfl, ?_⟩
  · simp [results, Try.results9, go_sem]
  · exact (Below.refl _ _).alloc (Nat.le_refl _) _

set_option maxRecDepth 100000 in
theorem find1_any (bp bq : Nat) (xs s : ByteArray) (xn n : Int) (w : World) (hp : w.cell? ⟨bp, 0, none⟩ = some tf) (hq0 : w.cell? ⟨bq, 0, none⟩ = some (.string xs)) (hq1 : w.cell? ⟨bq, 1, none⟩ = some (.int .i64 xn)) (lp : bp < w.heap.size) (lq : bq < w.heap.size) :
    Calls Try.prog 24 #[pv s n, .pointer (some ⟨bp, 0, none⟩), .pointer (some ⟨bq, 0, none⟩)] w fun e w' => e = .returned (.bool (Pl.eqv s xs)) ∧ Below w.heap.size w w' := by
  have hc := Lib.hid (Pl.cmp_zero s xs)
  go_enter Try.func24, Try.ntmps24
  go_wp2_with fail
  refine (order_any s xs n xn _).mono ?_
  rintro e w1 ⟨rfl, hb⟩
  have B1 := Lib.hid (((Below.refl _ w).alloc (Nat.le_refl _) (.cells #[.string s, .int .i64 n] 24)).trans (hb.mono (by simp)))
  clear hb
  go_wp2_with fail
  go_ret
  exact ⟨by rw [← hc.out]; rfl, B1.out⟩

set_option maxRecDepth 100000 in
theorem put1_any (bp bq : Nat) (xs s : ByteArray) (xn n : Int) (w : World) (hp : w.cell? ⟨bp, 0, none⟩ = some tf) (hq0 : w.cell? ⟨bq, 0, none⟩ = some (.string xs)) (hq1 : w.cell? ⟨bq, 1, none⟩ = some (.int .i64 xn)) (lp : bp < w.heap.size) (lq : bq < w.heap.size) :
    Calls Try.prog 26 #[pv s n, .pointer (some ⟨bp, 0, none⟩), .pointer (some ⟨bq, 0, none⟩)] w fun e w' => e = .returned (.bool (Pl.lt xs s)) ∧ Below w.heap.size w w' := by
  have hc := Lib.hid (Pl.cmp_pos s xs)
  go_enter Try.func26, Try.ntmps26
  go_wp2_with fail
  refine (order_any s xs n xn _).mono ?_
  rintro e w1 ⟨rfl, hb⟩
  have B1 := Lib.hid (((Below.refl _ w).alloc (Nat.le_refl _) (.cells #[.string s, .int .i64 n] 24)).trans (hb.mono (by simp)))
  clear hb
  go_wp2_with fail
  go_ret
  exact ⟨by rw [← hc.out]; rfl, B1.out⟩

set_option maxRecDepth 100000 in
theorem doesf_any (bq : Nat) (s : ByteArray) (xn n : Int) (w : World) (hq1 : w.cell? ⟨bq, 1, none⟩ = some (.int .i64 xn)) (lq : bq < w.heap.size) :
    Calls Try.prog 16 #[pv s n, .pointer (some ⟨bq, 0, none⟩)] w fun e w' => e = .returned (.bool (decide (xn ≤ n))) ∧ Below w.heap.size w w' := by
  go_enter Try.func16, Try.ntmps16
  go_wp2_with fail
  go_ret
  exact ⟨rfl, ((Below.refl _ w).alloc (Nat.le_refl _) _)⟩

set_option maxRecDepth 100000 in
theorem awakef_any (s : ByteArray) (n : Int) (w : World) :
    Calls Try.prog 29 #[pv s n] w fun e w' => e = .returned (.bool (n == 1)) ∧ Below w.heap.size w w' := by
  go_enter Try.func29, Try.ntmps29
  go_wp2_with fail
  go_ret
  exact ⟨rfl, ((Below.refl _ w).alloc (Nat.le_refl _) _)⟩

/-- A function value of pairs that answers f, in every world behind w. -/
def Tells (w : World) (K : Nat) (cap : Array Value) (f : ByteArray → Int → Bool) : Prop :=
  (∀ (args : Array Value) (W : World), (callFunc K args).run Try.prog W = .ok (.enter K args) W) ∧
  ∀ W, Below w.heap.size w W → ∀ s n, Calls Try.prog K (#[pv s n] ++ cap) W fun e W' => e = .returned (.bool (f s n)) ∧ Below W.heap.size W W'

theorem Tells.later {w w' : World} {K : Nat} {cap : Array Value} {f : ByteArray → Int → Bool} (h : Tells w K cap f) (hb : Below w.heap.size w w') : Tells w' K cap f :=
  ⟨h.1, fun W hW s n => h.2 W (hb.trans (hW.mono hb.size)) s n⟩

set_option maxRecDepth 100000 in
theorem holds_idle (p : Addr) (w : World) :
    CallsD Try.prog 30 #[.pointer (some p)] .returning w fun e u' w' => e = .returned (.tuple #[]) ∧ u' = .returning ∧ w' = w := by
  refine callsD_of_wpS Try.func30 rfl fun c₀ cs hu => ?_
  apply wpS_seq
  apply wpS_region
  simp [wpOpsS, go_sem, recoverD, hu, Try.ntmps30, Exit.thenS]
  refine wpS_cond (t := false) (by simp [Act.eval, Array.replicate]) ?_
  simp only [Bool.false_eq_true, if_false]
  refine wpS_of_wp (wp_skip ?_)
  cases c₀
  simp_all [bodyPostS, results, Try.results30]

set_option maxRecDepth 100000 in
theorem holds_any (K : Nat) (cap : Array Value) (f : ByteArray → Int → Bool) (s : ByteArray) (n : Int) (w : World) (h : Tells w K cap f) :
    Calls Try.prog 27 #[.func (.func K) #[] cap, pv s n] w fun e w' => e = .returned (.bool (f s n)) ∧ Below w.heap.size w w' := by
  have hent := h.1
  have HT := Lib.hid h.2
  clear h
  have hmf : ∀ (fn : Fn) (first cap : Array Value) (w : World), (Instr.makeFunc fn first cap).run Try.prog w = .ok (.func fn first cap) w := fun _ _ _ _ => rfl
  go_enter_defers Try.func27, Try.ntmps27
  go_wp2_with fail
  refine (HT.out _ (((Below.refl _ w).alloc (Nat.le_refl _) _).alloc (by simp) _) s n).mono ?_
  rintro e w1 ⟨rfl, hb⟩
  have hc : w1.cell? ⟨w.heap.size + 1, 0, none⟩ = some (.bool false) := (hb.cell (p := ⟨w.heap.size + 1, 0, none⟩) (by simp)).trans (by simp [go_sem])
  have hf : w1.frozen? ⟨w.heap.size + 1, 0, none⟩ = false := (hb.frozen (p := ⟨w.heap.size + 1, 0, none⟩) (by simp)).trans (by simp [go_sem])
  have B1 := Lib.hid ((((Below.refl _ w).alloc (Nat.le_refl _) _).alloc (by simp) _).trans (hb.mono (by simp; omega)))
  have hsz : w.heap.size + 1 < w1.heap.size := by have := hb.size; simp at this; omega
  clear hb
  go_wp2_with fail
  refine leaves_cons (f := 30) (args := #[.pointer (some ⟨w.heap.size + 1, 0, none⟩)]) (by simp) (by simp [go_sem]) ?_
  refine (holds_idle ⟨w.heap.size + 1, 0, none⟩ _).mono ?_
  rintro e u' w'' ⟨rfl, rfl, rfl⟩
  have hs := World.cell?_setCell_same w1 ⟨w.heap.size + 1, 0, none⟩ (.bool (f s n)) hc
  simp [Leaves, settle, results, Try.results27, go_sem, hs]
  exact B1.out.setCell (by simp) _
end Go.Proofs.Ytcpfhmipjpbhnaa
