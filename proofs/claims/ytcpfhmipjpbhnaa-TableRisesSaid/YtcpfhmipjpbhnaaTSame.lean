/-
  CONTRACTS of same, and of the reference's Find and Rises.
-/
import Derived.Test.YtcpfhmipjpbhnaaTSplice
import Derived.Deep.QuietTactic
import Derived.BigQuiet
import Derived.Laws.StructEq
namespace Go.Proofs.Ytcpfhmipjpbhnaa
open Go.RowKit
open Pl (risesL risesL_true risesL_false)

theorem below_drewN {B : Nat} {a w : World} (h : Below B a w) (n : Nat) : Below B a (w.drewN n) := ⟨h.os, h.tape, h.output, h.size, h.block⟩

def samePr (p q : Pl.Pr) : Bool := decide (p = q)
theorem neq_pair (s1 s2 : ByteArray) (n1 n2 : Int) (W : World) : (binOp .neq 24 (.agg #[.string s1, .int .i64 n1]) (.agg #[.string s2, .int .i64 n2])).run Try.prog W = .ok (.bool (!samePr (s1, n1) (s2, n2))) W := by
  have he : samePr (s1, n1) (s2, n2) = (s1.toList == s2.toList && n1 == n2) := by
    unfold samePr
    have h1 := Pl.eqv_iff s1 s2
    unfold Pl.eqv at h1
    rw [Bool.eq_iff_iff]
    simp only [decide_eq_true_eq, Prod.mk.injEq, Bool.and_eq_true, h1, beq_iff_eq]
  rw [he]
  simp [go_sem]
  by_cases h1 : s1.toList = s2.toList <;> by_cases h2 : n1 = n2 <;> simp [h1, h2]

set_option maxRecDepth 100000 in
set_option maxHeartbeats 800000 in
theorem same_any (A A2 : Option Addr) (n c m c2 : Nat) (l x : List Pl.Pr) (w : World) (hn : n = l.length) (hm : m = x.length) (hn63 : n ≤ 140737488355328) (hm63 : m ≤ 140737488355328)
    (hr : Rd w w.heap.size A (pc l)) (hr2 : Rd w w.heap.size A2 (pc x)) :
    Calls Try.prog 17 #[.slice A n c, .slice A2 m c2] w fun e w' => e = .returned (.bool (decide (l = x))) ∧ ∃ k, w' = w.drewN k := by
  by_cases hnm : n = m
  · subst hnm
    have HN := Lib.hid hn
    have HM := Lib.hid hm
    have HR := Lib.hid hr
    have HR2 := Lib.hid hr2
    clear hn hr hr2 hm
    go_enter Try.func17, Try.ntmps17
    go_wp2_with fail
    go_loopw [5] (fun i wr => ∃ k : Nat, k ≤ n ∧ i = .int .i64 (k : Int) ∧ Hid (l.take k = x.take k) ∧ Hid (∃ q, wr = w.drewN q)) (fun i _ => n - (intOf i).toNat)
    case atStart => exact ⟨0, by omega, rfl, Lib.hid rfl, Lib.hid ⟨0, rfl⟩⟩
    case round =>
      obtain ⟨k, hk, rfl, hE, hq⟩ := hrel
      obtain ⟨q, hq⟩ := hq.out
      subst hq
      by_cases hlt : k < n
      · have hl : k < l.length := by rw [← HN.out]; exact hlt
        have hx : k < x.length := by rw [← HM.out]; exact hlt
        obtain ⟨b, off, rfl, hb, hc⟩ := HR.out.pair hl
        obtain ⟨b2, off2, rfl, hb2, hc2⟩ := HR2.out.pair hx
        have hc0 := (hc k hl).1
        have hc1 := (hc k hl).2
        have hd0 := (hc2 k hx).1
        have hd1 := (hc2 k hx).2
        clear hc hc2
        have h1 : (0 : Int) ≤ (k : Int) := by omega
        have h2 : (k : Int) < (n : Int) := by omega
        have hne := neq_pair
        have hEE : ∀ p r, l[k] = p → x[k] = r → (l.take (k + 1) = x.take (k + 1) ↔ p = r) := by
          rintro p r rfl rfl
          rw [List.take_succ_eq_append_getElem hl, List.take_succ_eq_append_getElem hx, hE.out]
          exact ⟨fun h => by have := List.append_cancel_left h; injection this, fun h => by rw [h]⟩
        have hNE : l[k] ≠ x[k] → l ≠ x := by
          rintro h rfl
          exact h rfl
        generalize hp : l[k] = p at hc0 hc1 hNE
        generalize hr : x[k] = r at hd0 hd1 hNE
        have hE2 := hEE p r hp hr
        clear hEE hp hr
        obtain ⟨s1, n1⟩ := p
        obtain ⟨s2, n2⟩ := r
        by_cases hs : samePr (s1, n1) (s2, n2) = true
        · have HE2 := Lib.hid (hE2.2 (by simpa [samePr] using hs))
          clear hE2 hNE
          go_wp2_with fail
          go_quiet (fail)
          go_wp2_with fail
          go_roundw
          case rel => exact ⟨k + 1, by omega, by go_num, HE2, Lib.hid ⟨_, rfl⟩⟩
          case measure => simp [intOf]; omega
        · have hs' : samePr (s1, n1) (s2, n2) = false := by simpa using hs
          have HNE := Lib.hid (show decide (l = x) = false from decide_eq_false (hNE (by simpa [samePr] using hs)))
          clear hE2 hNE hs
          go_wp2_with fail
          go_quiet (fail)
          go_wp2_with fail
          go_ret
          exact ⟨by rw [HNE.out]; rfl, _, World.drewN_drewN _ _ _⟩
      · have hl : l.take k = l := List.take_of_length_le (by rw [← HN.out]; omega)
        have hx : x.take k = x := List.take_of_length_le (by rw [← HM.out]; omega)
        have HE2 := Lib.hid (show decide (l = x) = true from decide_eq_true (by have := hE.out; rw [hl, hx] at this; exact this))
        clear hl hx
        go_wp2_with fail
        go_ret
        exact ⟨by rw [HE2.out]; rfl, _, rfl⟩
  · have HNE := Lib.hid (show decide (l = x) = false from decide_eq_false (by rintro rfl; omega))
    have hb : ((n : Int) != (m : Int)) = true := by rw [bne_iff_ne]; omega
    clear hn hm hr hr2
    go_enter Try.func17, Try.ntmps17
    go_wp2_with fail
    go_ret
    exact ⟨by rw [HNE.out]; rfl, 0, rfl⟩

set_option maxRecDepth 100000 in
set_option maxHeartbeats 800000 in
theorem refFind_any (A : Option Addr) (n c : Nat) (xs : ByteArray) (xn : Int) (l : List Pl.Pr) (w : World) (hn : n = l.length) (hn63 : n ≤ 140737488355328) (hr : Rd w w.heap.size A (pc l)) :
    Calls Try.prog 11 #[.slice A n c, pv xs xn] w fun e w' => e = .returned (firstV (Pl.findO l xs)) ∧ Below w.heap.size w w' := by
  have HN := Lib.hid hn
  have HR := Lib.hid hr
  clear hn hr
  go_enter Try.func11, Try.ntmps11
  go_wp2_with fail
  have B0 := Lib.hid ((Below.refl _ w).alloc (Nat.le_refl _) (.cells #[.string xs, .int .i64 xn] 24))
  go_loopw [6] (fun i wr => ∃ k : Nat, k ≤ n ∧ i = .int .i64 (k : Int) ∧ Hid (∀ j (hj : j < l.length), j < k → Pl.eqv l[j].1 xs = false) ∧ Hid (∃ q, wr = (w.alloc (.cells #[.string xs, .int .i64 xn] 24)).drewN q)) (fun i _ => n - (intOf i).toNat)
  case atStart => exact ⟨0, by omega, rfl, Lib.hid (fun j hj h => by omega), Lib.hid ⟨0, rfl⟩⟩
  case round =>
    obtain ⟨k, hk, rfl, hno, hq⟩ := hrel
    obtain ⟨q, hq⟩ := hq.out
    subst hq
    by_cases hlt : k < n
    · have hl : k < l.length := by rw [← HN.out]; exact hlt
      obtain ⟨b, off, rfl, hb, hc⟩ := HR.out.pair hl
      have hc0 := (B0.out.cell (p := ⟨b, off + k * 2, none⟩) hb).trans (hc k hl).1
      clear hc
      generalize hp : l[k] = p at hc0
      obtain ⟨s, z⟩ := p
      have HP := Lib.hid hp
      clear hp
      have h1 : (0 : Int) ≤ (k : Int) := by omega
      have h2 : (k : Int) < (n : Int) := by omega
      by_cases hf : (s.toList == xs.toList) = true
      · have HV := Lib.hid (show firstV (Pl.findO l xs) = .tuple #[.int .i64 (k : Int), .bool true] from by
          unfold Pl.findO
          rw [Pl.firstO_some hl (fun j hj hjk => hno.out j hj hjk) (by rw [HP.out]; exact hf)]; rfl)
        go_wp2_with fail
        go_quiet (fail)
        go_wp2_with fail
        go_ret2
        exact ⟨by rw [HV.out]; rfl, below_drewN (below_drewN B0.out _) _⟩
      · have hf' : (s.toList == xs.toList) = false := by simpa using hf
        have HNO := Lib.hid (show ∀ j (hj : j < l.length), j < k + 1 → Pl.eqv l[j].1 xs = false from fun j hj hjk => by
          by_cases e : j = k
          · subst e; rw [HP.out]; exact hf'
          · exact hno.out j hj (by omega))
        clear hf
        go_wp2_with fail
        go_quiet (fail)
        go_wp2_with fail
        go_roundw
        case rel => exact ⟨k + 1, by omega, by go_num, HNO, Lib.hid ⟨_, rfl⟩⟩
        case measure => simp [intOf]; omega
    · have HV := Lib.hid (show firstV (Pl.findO l xs) = .tuple #[.int .i64 0, .bool false] from by
        unfold Pl.findO
        rw [Pl.firstO_none (fun j hj => hno.out j hj (by have := HN.out; omega))]; rfl)
      go_wp2_with fail
      go_ret2
      exact ⟨by rw [HV.out]; rfl, below_drewN B0.out _⟩

set_option maxRecDepth 100000 in
set_option maxHeartbeats 800000 in
theorem refRises_any (A : Option Addr) (n c : Nat) (l : List Pl.Pr) (w : World) (hn : n = l.length) (hn63 : n ≤ 140737488355328) (hr : Rd w w.heap.size A (pc l)) :
    Calls Try.prog 20 #[.slice A n c] w fun e w' => e = .returned (.bool (risesL l)) ∧ Below w.heap.size w w' := by
  have HN := Lib.hid hn
  have HR := Lib.hid hr
  clear hn hr
  go_enter Try.func20, Try.ntmps20
  go_wp2_with fail
  go_loopw [3] (fun i wr => ∃ k : Nat, k ≤ n ∧ i = .int .i64 ((k : Int) + 1) ∧ Hid (∀ j, (hj : j + 1 < l.length) → j < k → Pl.lt l[j].1 l[j + 1].1 = true) ∧ Hid (∃ q, wr = w.drewN q)) (fun i _ => n + 1 - (intOf i).toNat)
  case atStart => exact ⟨0, by omega, rfl, Lib.hid (fun j hj h => by omega), Lib.hid ⟨0, rfl⟩⟩
  case round =>
    obtain ⟨k, hk, rfl, hno, hq⟩ := hrel
    obtain ⟨q, hq⟩ := hq.out
    subst hq
    by_cases hlt : k + 1 < n
    · have hl1 : k + 1 < l.length := by rw [← HN.out]; exact hlt
      have hl : k < l.length := by omega
      obtain ⟨b, off, rfl, hb, hc⟩ := HR.out.pair hl
      have hc0 := (hc k hl).1
      have hc1 := (hc (k + 1) hl1).1
      clear hc
      have hno1 := hno.out
      have hstep : Pl.lt l[k].1 l[k + 1].1 = true → ∀ j, (hj : j + 1 < l.length) → j < k + 1 → Pl.lt l[j].1 l[j + 1].1 = true := fun h j hj hjk => by
        by_cases e : j = k
        · subst e; exact h
        · exact hno1 j hj (by omega)
      have hbad : Pl.lt l[k].1 l[k + 1].1 = false → risesL l = false := risesL_false hl1
      generalize l[k].1 = s1 at hc0 hstep hbad
      generalize l[k + 1].1 = s2 at hc1 hstep hbad
      have h1 : (0 : Int) ≤ (k : Int) + 1 := by omega
      have h2 : (k : Int) + 1 < (n : Int) := by omega
      have h3 : (0 : Int) ≤ (k : Int) := by omega
      have h4 : (k : Int) < (n : Int) := by omega
      by_cases hf : Op.bytesLess s1.toList s2.toList = true
      · have HS := Lib.hid (hstep hf)
        clear hstep hbad hno1
        go_wp2_with fail
        go_quiet (fail)
        go_wp2_with fail
        go_roundw
        case rel => exact ⟨k + 1, by omega, by go_num, HS, Lib.hid ⟨_, rfl⟩⟩
        case measure => simp [intOf]; omega
      · have hf' : Op.bytesLess s1.toList s2.toList = false := by simpa using hf
        have HS := Lib.hid (hbad hf')
        clear hstep hbad hno1 hf
        go_wp2_with fail
        go_quiet (fail)
        go_wp2_with fail
        go_ret
        exact ⟨by rw [HS.out]; rfl, below_drewN (below_drewN (Below.refl _ _) _) _⟩
    · have HS := Lib.hid (show risesL l = true from risesL_true fun j hj => hno.out j hj (by have := HN.out; omega))
      go_wp2_with fail
      go_ret
      exact ⟨by rw [HS.out]; rfl, below_drewN (Below.refl _ _) _⟩
end Go.Proofs.Ytcpfhmipjpbhnaa
