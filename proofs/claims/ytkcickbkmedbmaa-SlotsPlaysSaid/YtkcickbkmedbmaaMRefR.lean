/-
  CONTRACTS of the reference's Read, Size, Remove.
-/
import Derived.Test.YtkcickbkmedbmaaMRefW
namespace Go.Proofs.Ytkcickbkmedbmaa
open Go.RowKit Go.Maps

/-- One sector's cells in a row that is a block of its own. -/
theorem row_sec {w : World} {l : List Sec} {A : Option Addr} {m c k : Nat} (h : w.ownsRow 0 72 3 (.slice A m c) m (sc l)) (hm : m = l.length) (hk : k < l.length) :
    ∃ g, A = some ⟨g, 0, none⟩ ∧ g < w.heap.size ∧ w.cell? ⟨g, k * 3, none⟩ = some (.int .i64 l[k].file) ∧ w.cell? ⟨g, k * 3 + 1, none⟩ = some (.int .i64 l[k].at_) ∧ w.cell? ⟨g, k * 3 + 2, none⟩ = some (.string l[k].data) := by
  obtain ⟨g, cur, hA, _, hgb, _⟩ := row_block h (by omega)
  obtain ⟨b, off, hA', _, hc⟩ := (Rd.of_own h).sec hk
  rw [hA] at hA'
  injection hA' with hA'
  injection hA' with e1 e2
  subst e1 e2
  obtain ⟨q0, q1, q2⟩ := hc k hk
  simp only [Nat.zero_add] at q0 q1 q2
  exact ⟨g, hA, lt_of_block hgb, q0, q1, q2⟩

set_option maxRecDepth 100000 in
set_option maxHeartbeats 1600000 in
theorem rreadX (Y : Nat → Prop) (br n : Nat) (s : St) (x a : Int) (w : World) (h : RM w Y br n s) (hn : n ≤ 1000000) :
    Calls Try.prog 45 #[.pointer (some ⟨br, 0, none⟩), .int .i64 x, .int .i64 a] w fun e w' => e = .returned (.tuple #[.string (readF s x a).1, .int .i64 (readF s x a).2]) ∧ w = w' := by
  obtain ⟨l, A, m, c, left, hr, _⟩ := h
  have HR := Lib.hid hr
  obtain ⟨c0, _, _, c3, _, _, _, _, _, _⟩ := hr.ms.cl
  cases hoff : s.off with
  | true =>
    rw [hoff] at c3
    have HW := Lib.hid (show readF s x a = (⟨#[]⟩, 40) from by simp [readF, hoff])
    clear hr hoff c0
    go_enter Try.func45, Try.ntmps45
    go_wp2_with fail
    go_ret2
    exact ⟨by rw [HW.out]; rfl, rfl⟩
  | false =>
    rw [hoff] at c3
    cases hv : isF x && isS a with
    | false =>
      have HW := Lib.hid (show readF s x a = (⟨#[]⟩, 42) from by simp [readF, hoff, hv])
      have HX := Lib.hid hv
      clear hr hoff hv c0
      go_enter Try.func45, Try.ntmps45
      go_wp2_with (first
        | (go_at_call 36; (with_reducible refine (right_any _ _ _).mono ?_); rw [HX.out]; rintro e w' ⟨rfl, rfl⟩)
        | fail)
      go_ret2
      exact ⟨by rw [HW.out]; rfl, rfl⟩
    | true =>
      have HX := Lib.hid hv
      have HNO := Lib.hid (show findR l x a = none → readF s x a = (⟨#[]⟩, 41) from fun hf => by
        unfold readF; rw [hoff, hv, ← hr.says, hf]; rfl)
      have HYES := Lib.hid (show ∀ d, findR l x a = some d → readF s x a = (d, 0) from fun d hf => by
        unfold readF; rw [hoff, hv, ← hr.says, hf]; rfl)
      have HROW := Lib.hid hr.row
      have HM := Lib.hid hr.len
      have hm63 : m ≤ 1000000 := by have := hr.max; omega
      clear hr hoff hv
      go_enter Try.func45, Try.ntmps45
      go_wp2_with (first
        | (go_at_call 36; (with_reducible refine (right_any _ _ _).mono ?_); rw [HX.out]; rintro e w' ⟨rfl, rfl⟩)
        | fail)
      go_loop [8] (fun i => ∃ k : Nat, k ≤ m ∧ i = .int .i64 (k : Int) ∧ Hid (∀ j (hj : j < l.length), j < k → hit x a l[j] = false)) (fun i => m - (RowKit.intOf i).toNat)
      case atStart => exact ⟨0, by omega, rfl, Lib.hid (fun j hj h => by omega)⟩
      case round =>
        obtain ⟨k, hk, rfl, HB⟩ := hrel
        by_cases hlt : k < m
        · have hkl : k < l.length := by rw [← HM.out]; exact hlt
          obtain ⟨g, hA, _, q0, q1, q2⟩ := row_sec HROW.out HM.out hkl
          have h1 : (0 : Int) ≤ (k : Int) := by omega
          have h2 : (k : Int) < (m : Int) := by omega
          have HHIT := Lib.hid (show hit x a l[k] = (l[k].file == x && l[k].at_ == a) from rfl)
          have HNX := Lib.hid (show hit x a l[k] = false → ∀ j (hj : j < l.length), j < k + 1 → hit x a l[j] = false from fun hf j hj hjk => by
            by_cases e : j = k
            · subst e; exact hf
            · exact HB.out j hj (by omega))
          have HFS := Lib.hid (show hit x a l[k] = true → findR l x a = some l[k].data from fun hh => findR_at hkl HB.out hh)
          subst hA
          generalize l[k] = sk at q0 q1 q2 HHIT HNX HFS
          by_cases hf : (sk.file == x) = true
          · by_cases hat : (sk.at_ == a) = true
            · have HH := Lib.hid (HYES.out _ (HFS.out (by rw [HHIT.out, hf, hat]; rfl)))
              go_wp2_with fail
              go_ret2
              exact ⟨by rw [HH.out]; rfl, rfl⟩
            · have hat' : (sk.at_ == a) = false := by simpa using hat
              have HNX2 := Lib.hid (HNX.out (by rw [HHIT.out, hat']; simp))
              clear hat
              go_wp2_with fail
              go_round
              case rel => exact ⟨k + 1, by omega, by go_num, HNX2⟩
              case measure => simp [RowKit.intOf]; omega
          · have hf' : (sk.file == x) = false := by simpa using hf
            have HNX2 := Lib.hid (HNX.out (by rw [HHIT.out, hf']; rfl))
            clear hf
            go_wp2_with fail
            go_round
            case rel => exact ⟨k + 1, by omega, by go_num, HNX2⟩
            case measure => simp [RowKit.intOf]; omega
        · obtain rfl : k = m := by omega
          have HH := Lib.hid (HNO.out (findR_none fun s hs => by
            obtain ⟨j, hj, rfl⟩ := List.getElem_of_mem hs
            exact HB.out j hj (by rw [HM.out]; exact hj)))
          go_wp2_with fail
          go_ret2
          exact ⟨by rw [HH.out]; rfl, rfl⟩
end Go.Proofs.Ytkcickbkmedbmaa
