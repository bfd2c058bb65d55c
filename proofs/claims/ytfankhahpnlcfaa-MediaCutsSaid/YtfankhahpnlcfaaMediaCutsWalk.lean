/-
  The walk of MediaCuts.
-/
import Derived.Test.YtfankhahpnlcfaaMAwake
import Derived.Lib.MinMax
namespace Go.Proofs.Ytfankhahpnlcfaa.mediaCuts
open Go.RowKit Go.Maps

/-- Behind k writes, L raw writes having been left. -/
def cutS (L k : Int) : St :=
  { S := fun x a => if x = 5 ∧ 0 ≤ a ∧ a < min k L then some (fullB a false) else none, off := decide (L < k), armed := true, left := L - min k L, writes := min k L }

theorem cut0 (left : Int) : armF St.new left = cutS (max left 0) 0 := by
  have h : min 0 (max left 0) = 0 := by omega
  have h1 : decide (max left 0 < 0) = false := by simp; omega
  unfold cutS armF St.new
  rw [h, h1]
  have e : (fun (_ _ : Int) => (none : Option ByteArray)) = fun x a => if x = 5 ∧ 0 ≤ a ∧ a < (0 : Int) then some (fullB a false) else none := by
    funext x a
    rw [if_neg (by omega)]
  simp [← e]

theorem valid5 {k : Int} (h0 : 0 ≤ k) (h1 : k < 100) : validW 5 k (fullB k false) = true := by
  have h2 : isS k = true := by simp [isS]; omega
  simp [validW, h2, fullB_size]
  decide

theorem cut_write {L k : Int} (hL : 0 ≤ L) (h0 : 0 ≤ k) (h1 : k < 100) : writeF (cutS L k) 5 k (fullB k false) = (if k < L then 0 else 40, cutS L (k + 1)) := by
  unfold writeF
  rw [valid5 h0 h1]
  by_cases hk : k < L
  · rw [if_pos hk]
    have e1 : decide (L < k) = false := by simp; omega
    have e2 : decide (L < k + 1) = false := by simp; omega
    have m1 : min k L = k := by omega
    have m2 : min (k + 1) L = k + 1 := by omega
    have e3 : (L - k == 0) = false := by simp; omega
    have eS : updS (fun x a => if x = 5 ∧ 0 ≤ a ∧ a < k then some (fullB a false) else none) 5 k (fullB k false) = fun x a => if x = 5 ∧ 0 ≤ a ∧ a < k + 1 then some (fullB a false) else none := by
      funext x a
      unfold updS
      by_cases ha : x = 5 ∧ a = k
      · rw [if_pos ha, if_pos (by omega), ha.2]
      · rw [if_neg ha]
        by_cases hb : x = 5 ∧ 0 ≤ a ∧ a < k
        · show (if x = 5 ∧ 0 ≤ a ∧ a < k then some (fullB a false) else none) = _
          rw [if_pos hb, if_pos (by omega)]
        · show (if x = 5 ∧ 0 ≤ a ∧ a < k then some (fullB a false) else none) = _
          rw [if_neg hb, if_neg (by omega)]
    simp only [cutS, spendF, e1, e2, m1, m2, e3, eS]
    simp
    omega
  · rw [if_neg hk]
    by_cases hk2 : k = L
    · subst hk2
      have m2 : min (k + 1) k = k := by omega
      have m1 : min k k = k := by omega
      have e1 : decide (k < k) = false := by simp
      have e2 : decide (k < k + 1) = true := by simp; omega
      simp [cutS, spendF, m1, m2, e2]
    · have m1 : min k L = L := by omega
      have m2 : min (k + 1) L = L := by omega
      have e1 : decide (L < k) = true := by simp; omega
      have e2 : decide (L < k + 1) = true := by simp; omega
      simp [cutS, spendF, m1, m2, e1, e2]

theorem cut_size {L k r : Int} (hL : 0 ≤ L) (h0 : 0 ≤ k) (h : IsSz ((cutS L k).S 5) r) : r = min k L := by
  have hs : ∀ a, (((cutS L k).S 5) a).isSome = true ↔ 0 ≤ a ∧ a < min k L := fun a => by
    show (if (5 : Int) = 5 ∧ 0 ≤ a ∧ a < min k L then some (fullB a false) else none).isSome = true ↔ _
    by_cases ha : (5 : Int) = 5 ∧ 0 ≤ a ∧ a < min k L
    · rw [if_pos ha]; exact ⟨fun _ => ha.2, fun _ => rfl⟩
    · rw [if_neg ha]; exact ⟨fun h => (by cases h), fun h => absurd ⟨rfl, h⟩ ha⟩
  have h1 : min k L ≤ r := by
    by_cases hp : 0 < min k L
    · have := h.up (min k L - 1) ((hs _).2 (by omega)); omega
    · have := h.nn; omega
  rcases h.top with ht | ⟨a, ha, ht⟩
  · omega
  · have := (hs a).1 ha; omega

set_option maxRecDepth 100000 in
set_option maxHeartbeats 3200000 in
theorem walk (writes left : Int) (w : World) (_hw : Wf writes) (hl : Wf left) :
    Calls Try.prog 5 #[.int .i64 writes, .int .i64 left] w fun e w' => e = .returned (.bool true) ∧ Below w.heap.size w w' := by
  obtain ⟨N, hN⟩ : ∃ N, min (max writes 0) 100 = N := ⟨_, rfl⟩
  obtain ⟨L, hL⟩ : ∃ L, max left 0 = L := ⟨_, rfl⟩
  have hN0 : 0 ≤ N := by omega
  have hN1 : N ≤ 100 := by omega
  have hL0 : 0 ≤ L := by omega
  have HL := Lib.hid hL
  have HN := Lib.hid hN
  clear hL hN
  go_enter Try.func5, Try.ntmps5
  go_wp2_with fail
  refine newA.mono ?_
  rintro e w1 ⟨rfl, h1⟩
  have A1 := Lib.hid h1
  clear h1
  go_wp2_with fail
  rw [HN.out]
  refine (armA A1.out left hl).mono ?_
  rw [cut0, HL.out]
  rintro e w2 ⟨rfl, h1⟩
  have A2 := Lib.hid h1
  clear h1
  go_wp2_with fail
  go_loopw [7, 8] (fun d i wr => ∃ k : Nat, (k : Int) ≤ N ∧ i = .int .i64 (k : Int) ∧ (∃ dn : Int, d = .int .i64 dn ∧ Hid (dn = min (k : Int) L)) ∧ Hid (At w wr (w.heap.size + 1) k (cutS L k))) (fun _ i _ => (N - RowKit.intOf i).toNat)
  case atStart => exact ⟨0, by omega, rfl, ⟨0, rfl, Lib.hid (by omega)⟩, A2⟩
  case round =>
    obtain ⟨k, hk, rfl, ⟨dn, rfl, HDN⟩, HA⟩ := hrel
    by_cases hlt : (k : Int) < N
    · go_wp2_with fail
      refine (fullA HA.out (k : Int) false).mono ?_
      rintro e w3 ⟨rfl, h1⟩
      have A3 := Lib.hid h1
      clear h1
      go_wp2_with fail
      refine (writeA A3.out 5 (k : Int) (fullB (k : Int) false) (by omega) (wf_lit (by omega) (by omega)) (wf_lit (by omega) (by omega)) (cut_write hL0 (by omega) (by omega))).mono ?_
      by_cases hkL : (k : Int) < L
      · rw [if_pos hkL]
        rintro e w4 ⟨rfl, h1⟩
        have A4 := Lib.hid h1
        have hdk := HDN.out
        rw [show min (k : Int) L = (k : Int) from by omega] at hdk
        subst hdk
        clear h1
        go_wp2_with fail
        go_roundw
        case rel => exact ⟨k + 1, by omega, by go_num, ⟨(k : Int) + 1, rfl, Lib.hid (by omega)⟩, A4⟩
        case measure => simp [RowKit.intOf]; omega
      · rw [if_neg hkL]
        rintro e w4 ⟨rfl, h1⟩
        have A4 := Lib.hid h1
        have HD2 := Lib.hid (show dn = min ((k : Int) + 1) L from by have := HDN.out; omega)
        clear h1
        go_wp2_with fail
        go_roundw
        case rel => exact ⟨k + 1, by omega, by go_num, ⟨dn, rfl, HD2⟩, A4⟩
        case measure => simp [RowKit.intOf]; omega
    · have hkN : (k : Int) = N := by omega
      have hd0 := HDN.out
      have q1 : (dn == min N (max left 0)) = true := by rw [beq_iff_eq, hd0, hkN, HL.out]
      have q3 : (dn == dn) = true := beq_self_eq_true _
      have HW := Lib.hid (show (cutS L (k : Int)).writes = dn from hd0.symm)
      have HK := Lib.hid hkN
      clear hd0
      go_wp2_with fail
      refine (writesA HA.out).mono ?_
      rw [HW.out]
      rintro e w3 ⟨rfl, rfl⟩
      go_wp2_with fail
      refine (sizeA HA.out 5 (wf_lit (by omega) (by omega))).mono ?_
      rintro e w4 ⟨r, rfl, hz, h1⟩
      have hr := (cut_size hL0 (by omega) hz).trans HDN.out.symm
      subst hr
      have A4 := Lib.hid h1
      clear h1 hz
      go_wp2_with fail
      refine (awake_any _).mono ?_
      rintro e w5 ⟨rfl, hb⟩
      have HB := Lib.hid hb
      clear hb
      go_wp2_with fail
      go_ret
      exact ⟨rfl, A4.out.fst.trans (HB.out.mono A4.out.fst.size)⟩
end Go.Proofs.Ytfankhahpnlcfaa.mediaCuts
