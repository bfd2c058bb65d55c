/-
  CONTRACT of slices.Equal on texts.
-/
import Derived.Test.YtkcickbkmedbmaaFBase
import Derived.BigQuiet
namespace Go.Proofs.Ytkcickbkmedbmaa.Fm
open Go.RowKit

set_option maxRecDepth 100000 in
set_option maxHeartbeats 1600000 in
theorem equal_any (w : World) (A B : Option Addr) (m m2 cA cB : Nat) (l1 l2 : List ByteArray) (hm : m = l1.length) (hm2 : m2 = l2.length) (hb : m ≤ 4000000) (hb2 : m2 ≤ 4000000) (hA : m ≤ cA) (hB : m2 ≤ cB) (h1 : Rd w w.heap.size A (sc l1)) (h2 : Rd w w.heap.size B (sc l2)) :
    Calls Try.prog 44 #[.slice A m cA, .slice B m2 cB] w fun e w' => e = .returned (.bool (decide (l1 = l2))) ∧ Below w.heap.size w w' := by
  by_cases hmm : m = m2
  · subst hmm
    have HM := Lib.hid hm
    have HM2 := Lib.hid hm2
    have HR1 := Lib.hid h1
    have HR2 := Lib.hid h2
    clear hm hm2 h1 h2 hb2
    go_enter Try.func44, Try.ntmps44
    go_wp2_with fail
    go_loopw [13] (fun i wr => ∃ k : Nat, k ≤ m ∧ i = .int .i64 (k : Int) ∧ Hid (l1.take k = l2.take k) ∧ Hid (Below w.heap.size w wr)) (fun i _ => m - (intOf i).toNat)
    case atStart => exact ⟨0, by omega, rfl, Lib.hid (by simp), Lib.hid (Below.refl _ _)⟩
    case round =>
      obtain ⟨k, hk, rfl, HT, HW⟩ := hrel
      by_cases hlt : k < m
      · have hk1 : k < l1.length := by have := HM.out; omega
        have hk2 : k < l2.length := by have := HM2.out; omega
        obtain ⟨ba, oa, rfl, hba, hca⟩ := HR1.out.str_at hk1
        obtain ⟨bb, ob, rfl, hbb, hcb⟩ := HR2.out.str_at hk2
        have c1 : wr.cell? ⟨ba, oa + k, none⟩ = some (.string l1[k]) := (HW.out.cell (p := ⟨ba, oa + k, none⟩) hba).trans (hca k hk1)
        have c2 : wr.cell? ⟨bb, ob + k, none⟩ = some (.string l2[k]) := (HW.out.cell (p := ⟨bb, ob + k, none⟩) hbb).trans (hcb k hk2)
        have HN : Hid (l1.take (k + 1) = l1.take k ++ [l1[k]] ∧ l2.take (k + 1) = l2.take k ++ [l2[k]]) := Lib.hid ⟨List.take_succ_eq_append_getElem hk1, List.take_succ_eq_append_getElem hk2⟩
        have HG : Hid (l1 = l2 → l1[k] = l2[k]) := Lib.hid (fun h => by subst h; rfl)
        have i1 : (0 : Int) ≤ (k : Int) := by omega
        have i2 : (k : Int) < (m : Int) := by omega
        generalize l1[k] = x at c1 HN HG
        generalize l2[k] = y at c2 HN HG
        clear hca hcb hba hbb hk1 hk2
        by_cases hxy : x = y
        · have qs : (x.toList == y.toList) = true := by rw [hxy]; exact beq_self_eq_true _
          have HXY := Lib.hid hxy
          clear hxy
          go_wp2_with fail
          go_quiet (fail)
          go_wp2_with fail
          go_roundw
          case rel => exact ⟨k + 1, by omega, by go_num, Lib.hid (by rw [HN.out.1, HN.out.2, HT.out, HXY.out]), Lib.hid (below_drewN HW.out _)⟩
          case measure => simp [intOf]; omega
        · have qs : (x.toList == y.toList) = false := by
            rw [beq_eq_false_iff_ne]
            intro h
            rw [ByteArray.toList_eq, ByteArray.toList_eq] at h
            exact hxy (Pl.ba_ext h)
          have HE : Hid (decide (l1 = l2) = false) := Lib.hid (by
            simp only [decide_eq_false_iff_not]
            intro h
            exact hxy (HG.out h))
          clear hxy HG
          go_wp2_with fail
          go_quiet (fail)
          go_wp2_with fail
          go_ret
          exact ⟨by rw [HE.out]; rfl, below_drewN HW.out _⟩
      · obtain rfl : k = m := by omega
        have HE : Hid (decide (l1 = l2) = true) := Lib.hid (by
          have := HT.out
          rw [List.take_of_length_le (by have := HM.out; omega), List.take_of_length_le (by have := HM2.out; omega)] at this
          simp [this])
        go_wp2_with fail
        go_ret
        exact ⟨by rw [HE.out]; rfl, HW.out⟩
  · have HE : Hid (decide (l1 = l2) = false) := Lib.hid (by
      simp only [decide_eq_false_iff_not]
      intro h
      exact hmm (by rw [hm, hm2, h]))
    have hne : ((m : Int) != (m2 : Int)) = true := by simp; omega
    clear hm hm2 h1 h2 hmm
    go_enter Try.func44, Try.ntmps44
    go_wp2_with fail
    go_ret
    exact ⟨by rw [HE.out]; rfl, Below.refl _ _⟩
end Go.Proofs.Ytkcickbkmedbmaa.Fm
