/-
  CONTRACT of ints: are two lists the same?
-/
import Derived.Test.YtfankhahpnlcfaaMRead
import Derived.Deep.QuietTactic
import Derived.BigQuiet
namespace Go.Proofs.Ytfankhahpnlcfaa
open Go.RowKit

set_option maxRecDepth 100000 in
set_option maxHeartbeats 800000 in
theorem ints_any (A A2 : Option Addr) (n c m c2 : Nat) (l x : List Int) (w : World) (hn : n = l.length) (hm : m = x.length) (hn63 : n ≤ 140737488355328) (hm63 : m ≤ 140737488355328)
    (hr : Rd w w.heap.size A (l.map (Value.int .i64))) (hr2 : Rd w w.heap.size A2 (x.map (Value.int .i64))) :
    Calls Try.prog 20 #[.slice A n c, .slice A2 m c2] w fun e w' => e = .returned (.bool (decide (l = x))) ∧ ∃ k, w' = w.drewN k := by
  by_cases hnm : n = m
  · subst hnm
    have HN := Lib.hid hn
    have HM := Lib.hid hm
    have HR := Lib.hid hr
    have HR2 := Lib.hid hr2
    clear hn hr hr2 hm
    go_enter Try.func20, Try.ntmps20
    go_wp2_with fail
    go_loopw [5] (fun i wr => ∃ k : Nat, k ≤ n ∧ i = .int .i64 (k : Int) ∧ Hid (l.take k = x.take k) ∧ Hid (∃ q, wr = w.drewN q)) (fun i _ => n - (RowKit.intOf i).toNat)
    case atStart => exact ⟨0, by omega, rfl, Lib.hid rfl, Lib.hid ⟨0, rfl⟩⟩
    case round =>
      obtain ⟨k, hk, rfl, hE, hq⟩ := hrel
      obtain ⟨q, hq⟩ := hq.out
      subst hq
      by_cases hlt : k < n
      · have hl : k < l.length := by rw [← HN.out]; exact hlt
        have hx : k < x.length := by rw [← HM.out]; exact hlt
        obtain ⟨b, off, rfl, hb, hc⟩ := HR.out.int_at hl
        obtain ⟨b2, off2, rfl, hb2, hc2⟩ := HR2.out.int_at hx
        have hc0 := hc k hl
        have hd0 := hc2 k hx
        clear hc hc2
        have h1 : (0 : Int) ≤ (k : Int) := by omega
        have h2 : (k : Int) < (n : Int) := by omega
        have hEE : ∀ p r, l[k] = p → x[k] = r → (l.take (k + 1) = x.take (k + 1) ↔ p = r) := by
          rintro p r rfl rfl
          rw [List.take_succ_eq_append_getElem hl, List.take_succ_eq_append_getElem hx, hE.out]
          exact ⟨fun h => by have := List.append_cancel_left h; injection this, fun h => by rw [h]⟩
        have hNE : l[k] ≠ x[k] → l ≠ x := by
          rintro h rfl
          exact h rfl
        generalize hp : l[k] = p at hc0 hNE
        generalize hr : x[k] = r at hd0 hNE
        have hE2 := hEE p r hp hr
        clear hEE hp hr
        by_cases hs : p = r
        · subst hs
          have HE2 := Lib.hid (hE2.2 rfl)
          clear hE2 hNE
          go_wp2_with fail
          go_quiet (fail)
          go_wp2_with fail
          go_roundw
          case rel => exact ⟨k + 1, by omega, by go_num, HE2, Lib.hid ⟨_, rfl⟩⟩
          case measure => simp [RowKit.intOf]; omega
        · have HNE := Lib.hid (hNE hs)
          have hpr : (p == r) = false := by simp [hs]
          clear hE2 hNE
          go_wp2_with fail
          go_quiet (fail)
          go_wp2_with fail
          go_ret
          exact ⟨by rw [decide_eq_false HNE.out]; rfl, _, World.drewN_drewN _ _ _⟩
      · obtain rfl : k = n := by omega
        have HL := Lib.hid (show l = x from by have := hE.out; rwa [List.take_of_length_le (by rw [← HN.out]; omega), List.take_of_length_le (by rw [← HM.out]; omega)] at this)
        go_wp2_with fail
        go_ret
        exact ⟨by rw [decide_eq_true HL.out]; rfl, _, rfl⟩
  · have HL := Lib.hid (show l ≠ x from fun h => hnm (by rw [hn, hm, h]))
    have hb : ((n : Int) != (m : Int)) = true := by rw [bne_iff_ne]; omega
    clear hn hm hr hr2
    go_enter Try.func20, Try.ntmps20
    go_wp2_with fail
    go_ret
    exact ⟨by rw [decide_eq_false HL.out]; rfl, 0, rfl⟩
end Go.Proofs.Ytfankhahpnlcfaa
