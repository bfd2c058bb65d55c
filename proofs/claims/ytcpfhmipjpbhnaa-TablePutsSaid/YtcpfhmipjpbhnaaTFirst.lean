/-
  CONTRACTS of first, Find.
-/
import Derived.Test.YtcpfhmipjpbhnaaTOrder
import Derived.Test.YtcpfhmipjpbhnaaTRead
import Derived.Deep.LoopGhost
namespace Go.Proofs.Ytcpfhmipjpbhnaa
open Go.RowKit
open Pl (firstO firstO_none firstO_some findO overO)

/-- A place, 0 where there is none. -/
def plc (o : Option Nat) : Nat := o.getD 0
abbrev firstV (o : Option Nat) : Value := .tuple #[.int .i64 (plc o : Int), .bool o.isSome]
theorem firstV_some (i : Nat) : firstV (some i) = .tuple #[.int .i64 (i : Int), .bool true] := rfl
theorem firstV_none : firstV none = .tuple #[.int .i64 0, .bool false] := rfl

set_option maxRecDepth 100000 in
set_option maxHeartbeats 800000 in
theorem first_any (A : Option Addr) (n c K : Nat) (cap : Array Value) (f : ByteArray → Int → Bool) (l : List Pl.Pr) (w : World) (hn : n = l.length) (hn63 : n ≤ 140737488355328)
    (hr : Rd w w.heap.size A (pc l)) (hT : Tells w K cap f) :
    Calls Try.prog 23 #[.slice A n c, .func (.func K) #[] cap] w fun e w' => e = .returned (firstV (firstO f l)) ∧ Below w.heap.size w w' := by
  have HN := Lib.hid hn
  have HR := Lib.hid hr
  have HT := Lib.hid hT
  clear hn hr hT
  go_enter Try.func23, Try.ntmps23
  go_wp2_with fail
  go_loopw [10] (fun i wr => ∃ k : Nat, k ≤ n ∧ i = .int .i64 (k : Int) ∧ Hid (∀ j (hj : j < l.length), j < k → f l[j].1 l[j].2 = false) ∧ Hid (Below w.heap.size w wr)) (fun i _ => n - (intOf i).toNat)
  case atStart => exact ⟨0, by omega, rfl, Lib.hid (fun j hj h => by omega), Lib.hid (Below.refl _ _)⟩
  case round =>
    obtain ⟨k, hk, rfl, hno, hbel⟩ := hrel
    by_cases hlt : k < n
    · have hl : k < l.length := by rw [← HN.out]; exact hlt
      obtain ⟨b, off, rfl, hb, hc⟩ := HR.out.pair hl
      have hc0 := (hbel.out.cell (p := ⟨b, off + k * 2, none⟩) hb).trans (hc k hl).1
      have hc1 := (hbel.out.cell (p := ⟨b, off + k * 2 + 1, none⟩) hb).trans (hc k hl).2
      have hlb : b < wr.heap.size := Nat.lt_of_lt_of_le hb hbel.out.size
      clear hc
      generalize hp : l[k] = p at hc0 hc1
      obtain ⟨s, z⟩ := p
      have HP := Lib.hid hp
      clear hp
      by_cases hf : f s z = true
      · have HF := Lib.hid hf
        have hV : firstV (firstO f l) = .tuple #[.int .i64 (k : Int), .bool true] := by
          rw [firstO_some hl (fun j hj hjk => hno.out j hj hjk) (by rw [HP.out]; exact hf)]; rfl
        have HV := Lib.hid hV
        clear hf hV
        go_wp2_with fail
        refine (holds_any K cap f s z _ (HT.out.later (hbel.out.alloc hbel.out.size _))).mono ?_
        rintro e w1 ⟨rfl, hb1⟩
        have B1 := Lib.hid ((hbel.out.alloc hbel.out.size _).trans (hb1.mono (by have := hbel.out.size; simp; omega)))
        clear hb1
        have hf := HF.out
        go_wp2_with fail
        go_ret2
        exact ⟨by rw [HV.out]; rfl, B1.out⟩
      · have hf' : f s z = false := by simpa using hf
        have HF := Lib.hid hf'
        clear hf hf'
        have hno' : ∀ j (hj : j < l.length), j < k + 1 → f l[j].1 l[j].2 = false := fun j hj hjk => by
          by_cases e : j = k
          · subst e; rw [HP.out]; exact HF.out
          · exact hno.out j hj (by omega)
        have HNO := Lib.hid hno'
        clear hno'
        go_wp2_with fail
        refine (holds_any K cap f s z _ (HT.out.later (hbel.out.alloc hbel.out.size _))).mono ?_
        rintro e w1 ⟨rfl, hb1⟩
        have B1 := Lib.hid ((hbel.out.alloc hbel.out.size _).trans (hb1.mono (by have := hbel.out.size; simp; omega)))
        clear hb1
        have hf := HF.out
        go_wp2_with fail
        go_roundw
        case rel => exact ⟨k + 1, by omega, by go_num, HNO, B1⟩
        case measure => simp [intOf]; omega
    · have hV : firstV (firstO f l) = .tuple #[.int .i64 0, .bool false] := by
        rw [firstO_none (fun j hj => hno.out j hj (by have := HN.out; omega))]; rfl
      have HV := Lib.hid hV
      clear hV
      go_wp2_with fail
      go_ret2
      exact ⟨by rw [HV.out]; rfl, hbel.out⟩

/-- A place's world where a table is boxed, and a pair. -/
theorem tells_find (w w1 : World) (xs : ByteArray) (xn : Int) (hb : Below (w.heap.size + 2) (((w.alloc (.cells #[tf] 28)).alloc (.cells #[.string xs, .int .i64 xn] 24))) w1) :
    Tells w1 24 #[.pointer (some ⟨w.heap.size, 0, none⟩), .pointer (some ⟨w.heap.size + 1, 0, none⟩)] (fun s _ => Pl.eqv s xs) := by
  refine ⟨fun args W => by kernel_rfl, fun W hW s n => ?_⟩
  have hsz := hb.size
  have h2 : w.heap.size + 2 ≤ w1.heap.size := by simpa using hsz
  have hB := hb.trans (hW.mono h2)
  exact find1_any _ _ xs s xn n W ((hB.cell (p := ⟨w.heap.size, 0, none⟩) (by simp)).trans (by simp [go_sem])) ((hB.cell (p := ⟨w.heap.size + 1, 0, none⟩) (by simp)).trans (by simp [go_sem]))
    ((hB.cell (p := ⟨w.heap.size + 1, 1, none⟩) (by simp)).trans (by simp [go_sem])) (by have := hW.size; omega) (by have := hW.size; omega)

theorem tells_put (w w1 : World) (xs : ByteArray) (xn : Int) (hb : Below (w.heap.size + 2) (((w.alloc (.cells #[tf] 28)).alloc (.cells #[.string xs, .int .i64 xn] 24))) w1) :
    Tells w1 26 #[.pointer (some ⟨w.heap.size, 0, none⟩), .pointer (some ⟨w.heap.size + 1, 0, none⟩)] (fun s _ => Pl.lt xs s) := by
  refine ⟨fun args W => by kernel_rfl, fun W hW s n => ?_⟩
  have hsz := hb.size
  have h2 : w.heap.size + 2 ≤ w1.heap.size := by simpa using hsz
  have hB := hb.trans (hW.mono h2)
  exact put1_any _ _ xs s xn n W ((hB.cell (p := ⟨w.heap.size, 0, none⟩) (by simp)).trans (by simp [go_sem])) ((hB.cell (p := ⟨w.heap.size + 1, 0, none⟩) (by simp)).trans (by simp [go_sem]))
    ((hB.cell (p := ⟨w.heap.size + 1, 1, none⟩) (by simp)).trans (by simp [go_sem])) (by have := hW.size; omega) (by have := hW.size; omega)

set_option maxRecDepth 100000 in
theorem find_any (A : Option Addr) (n c : Nat) (xs : ByteArray) (xn : Int) (l : List Pl.Pr) (w : World) (hn : n = l.length) (hn63 : n ≤ 140737488355328) (hr : Rd w w.heap.size A (pc l)) :
    Calls Try.prog 10 #[.agg #[tf], .slice A n c, pv xs xn] w fun e w' => e = .returned (firstV (findO l xs)) ∧ Below w.heap.size w w' := by
  have hmf : ∀ (fn : Fn) (first cap : Array Value) (w : World), (Instr.makeFunc fn first cap).run Try.prog w = .ok (.func fn first cap) w := fun _ _ _ _ => rfl
  have HN := Lib.hid hn
  have HR := Lib.hid hr
  clear hn hr
  go_enter Try.func10, Try.ntmps10
  go_wp2_with fail
  have hB : Below w.heap.size w ((w.alloc (.cells #[tf] 28)).alloc (.cells #[.string xs, .int .i64 xn] 24)) := ((Below.refl _ _).alloc (Nat.le_refl _) _).alloc (by simp) _
  have HB := Lib.hid hB
  clear hB
  refine (first_any A n c 24 _ (fun s _ => Pl.eqv s xs) l _ HN.out hn63 ((HR.out.below HB.out).mono (by simp; omega)) (tells_find w _ xs xn (Below.refl _ _))).mono ?_
  rintro e w1 ⟨rfl, hb⟩
  have B1 := Lib.hid (HB.out.trans (hb.mono (by simp; omega)))
  clear hb
  go_wp2_with fail
  go_ret2
  exact ⟨rfl, B1.out⟩
end Go.Proofs.Ytcpfhmipjpbhnaa
