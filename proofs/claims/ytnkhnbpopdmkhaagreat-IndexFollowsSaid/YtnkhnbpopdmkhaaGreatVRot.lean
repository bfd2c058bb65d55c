/-
  CONTRACTS of slices' rotate over things. (By wip/tools/gen_vsort.py.)
-/
import Derived.Test.YtnkhnbpopdmkhaaGreatVSwap
namespace Go.Proofs.YtnkhnbpopdmkhaaGreat
set_option linter.unusedVariables false
open Go.RowKit

theorem rot_perm {P X Y S M P' L R S' : List (List Value)} {i j : Nat} (h : Pl.Rot P X Y S M i j P' L R S') : M.Perm (P ++ (X ++ (Y ++ S))) := by
  have h1 : M.Perm (P' ++ (R ++ (L ++ S'))) := by
    rw [h.lst, ← List.append_assoc L R S', ← List.append_assoc R L S']
    exact List.Perm.append_left _ (List.Perm.append_right _ List.perm_append_comm)
  rw [← h.goal] at h1
  refine h1.trans ?_
  rw [← List.append_assoc Y X S, ← List.append_assoc X Y S]
  exact List.Perm.append_left _ (List.Perm.append_right _ List.perm_append_comm)
set_option maxRecDepth 100000 in
set_option maxHeartbeats 1600000 in
theorem rotastand (B g n c K : Nat) (P X Y S : List (List Value)) (za zm zb : Int) (w : World) (hza : za = (P.length : Int)) (hzm : zm = ((P.length + X.length : Nat) : Int)) (hzb : zb = ((P.length + X.length + Y.length : Nat) : Int)) (hX : 1 ≤ X.length) (hY : 1 ≤ Y.length) (hn : n = (P ++ (X ++ (Y ++ S))).length) (hn6 : n ≤ 100000) (hM : Things kstand (P ++ (X ++ (Y ++ S)))) (ho : w.ownsRow B 112 8 (.slice (some ⟨g, 0, none⟩) n c) n (P ++ (X ++ (Y ++ S))).flatten) (hB : B ≤ w.heap.size) :
    Calls Tryz.prog 83 #[.slice (some ⟨g, 0, none⟩) n c, .int .i64 za, .int .i64 zm, .int .i64 zb, .func (.func K) #[] #[]] w fun e w' => e = .returned (.tuple #[]) ∧ w'.ownsRow B 112 8 (.slice (some ⟨g, 0, none⟩) n c) n (P ++ (Y ++ (X ++ S))).flatten ∧ Below B w w' := by
  have HST := Lib.hid (Pl.Rot.start P X Y S)
  have HLE : Hid (P.length + X.length + Y.length ≤ n) := Lib.hid (by rw [hn]; simp only [List.length_append]; omega)
  have HPM : Hid (∀ M i j P' L R S', Pl.Rot P X Y S M i j P' L R S' → n = M.length ∧ Things kstand M) := Lib.hid (fun M i j P' L R S' h => ⟨by rw [hn]; exact (rot_perm h).length_eq.symm, things_perm hM (rot_perm h)⟩)
  have HO0 := Lib.hid ho
  have HB0 := Lib.hid hB
  obtain ⟨i0, hi0⟩ : ∃ q, X.length = q := ⟨_, rfl⟩
  obtain ⟨j0, hj0⟩ : ∃ q, Y.length = q := ⟨_, rfl⟩
  obtain ⟨a, hpa⟩ : ∃ a, P.length = a := ⟨_, rfl⟩
  obtain ⟨m, hm⟩ : ∃ m, a + i0 = m := ⟨_, rfl⟩
  have HPX : Hid (P.length + X.length = m) := Lib.hid (by rw [hpa, hi0]; exact hm)
  rw [hi0, hj0] at HST
  rw [hi0, hj0, hpa, hm] at HLE
  rw [hi0] at hX hzm hzb
  rw [hj0] at hY hzb
  rw [hpa] at hza hzm hzb
  rw [hm] at hzm hzb
  obtain ⟨b, hb⟩ : ∃ b, m + j0 = b := ⟨_, rfl⟩
  rw [hb] at HLE hzb
  subst hza hzm hzb
  have hle := HLE.out
  have hma : a ≤ m := by omega
  have hmb : m ≤ b := by omega
  have hjb : m + j0 ≤ n := by omega
  have e1 : (m : Int) - (a : Int) = (i0 : Int) := by omega
  have e2 : (b : Int) - (m : Int) = (j0 : Int) := by omega
  clear hb hn hM ho hB hpa hi0 hj0 hm
  go_enter Tryz.func83, Tryz.ntmps83
  go_wp2_with fail
  go_loopw [10, 11] (fun iv jv wr => ∃ (i j : Nat) (M P' L R S' : List (List Value)), 1 ≤ i ∧ 1 ≤ j ∧ i ≤ m ∧ j ≤ n ∧ m + j ≤ n ∧ iv = .int .i64 (i : Int) ∧ jv = .int .i64 (j : Int) ∧ Hid (Pl.Rot P X Y S M i j P' L R S') ∧ Hid (wr.ownsRow B 112 8 (.slice (some ⟨g, 0, none⟩) n c) n (M).flatten) ∧ Hid (Below B w wr)) (fun iv jv _ => (intOf iv).toNat + (intOf jv).toNat)
  case atStart => exact ⟨i0, j0, _, _, _, _, _, hX, hY, by omega, by omega, by omega, by first | rfl | go_num, by first | rfl | go_num, HST, HO0, Lib.hid (Below.refl _ _)⟩
  case round =>
    obtain ⟨i, j, M, P', L, R, S', hi1, hj1, him, hjn, hmj, rfl, rfl, HR, HO, HB⟩ := hrel
    clear hX hY e1 e2
    have hpm : P'.length + i = m := by have := HR.out.mid; rw [HPX.out] at this; exact this
    have HPM' := Lib.hid hpm
    clear hpm
    by_cases heq : i = j
    · skip
      subst heq
      obtain ⟨l1, l2⟩ := HR.out.last
      have HX := Lib.hid HR.out.li
      have HY := Lib.hid HR.out.rj
      have HG := Lib.hid l2
      have hm' := HPM.out _ _ _ _ _ _ _ HR.out
      have hom := HO.out
      rw [l1] at hm' hom
      have HM := Lib.hid hm'
      have HOM := Lib.hid hom
      clear l1 l2 hm' hom
      go_wp2_with fail
      refine (swaprstand B g n c K i P' L [] R S' _ _ _ _ HX.out HY.out (by have := HPM'.out; omega) (by have := HPM'.out; (try simp only [List.length_nil, Nat.add_zero]); first | omega | (have := HQ.out; omega)) (by omega) (HM.out.1) hn6 HM.out.2 HOM.out (Nat.le_trans HB0.out HB.out.size)).mono ?_
      rintro e w1 ⟨rfl, ho1, hb1⟩
      have HO1 := Lib.hid ho1
      have HB1 := Lib.hid (HB.out.trans hb1)
      clear ho1 hb1
      go_wp2_with fail
      go_end0
      exact ⟨rfl, by rw [HG.out]; exact HO1.out, HB1.out⟩
    · skip
      by_cases hlt : j < i
      · skip
        obtain ⟨L1, L2, hL, hL1, hM', hr⟩ := HR.out.left hlt
        have HX := Lib.hid hL1
        have HY := Lib.hid HR.out.rj
        have HQ : Hid (L2.length = i - j) := Lib.hid (by have := HR.out.li; rw [hL, List.length_append] at this; omega)
        have HN := Lib.hid hr
        have hm' := HPM.out _ _ _ _ _ _ _ HR.out
        have hom := HO.out
        rw [hM'] at hm' hom
        have HM := Lib.hid hm'
        have HOM := Lib.hid hom
        clear hL hL1 hM' hr hm' hom
        go_wp2_with fail
        refine (swaprstand B g n c K j P' L1 L2 R S' _ _ _ _ HX.out HY.out (by have := HPM'.out; omega) (by have := HPM'.out; (try simp only [List.length_nil, Nat.add_zero]); first | omega | (have := HQ.out; omega)) (by omega) (HM.out.1) hn6 HM.out.2 HOM.out (Nat.le_trans HB0.out HB.out.size)).mono ?_
        rintro e w1 ⟨rfl, ho1, hb1⟩
        have HO1 := Lib.hid ho1
        have HB1 := Lib.hid (HB.out.trans hb1)
        clear ho1 hb1
        go_wp2_with fail
        go_roundw
        case rel => exact ⟨i - j, j, _, _, _, _, _, by omega, hj1, by omega, hjn, hmj, by go_num, rfl, HN, HO1, HB1⟩
        case measure => simp [intOf]; omega
      · skip
        obtain ⟨R1, R2, hR, hR1, hR2, hM', hr⟩ := HR.out.right (by omega)
        have HX := Lib.hid HR.out.li
        have HY := Lib.hid hR2
        have HQ := Lib.hid hR1
        have HN := Lib.hid hr
        have hm' := HPM.out _ _ _ _ _ _ _ HR.out
        have hom := HO.out
        rw [hM'] at hm' hom
        have HM := Lib.hid hm'
        have HOM := Lib.hid hom
        clear hR hR1 hR2 hM' hr hm' hom
        go_wp2_with fail
        refine (swaprstand B g n c K i P' L R1 R2 S' _ _ _ _ HX.out HY.out (by have := HPM'.out; omega) (by have := HPM'.out; (try simp only [List.length_nil, Nat.add_zero]); first | omega | (have := HQ.out; omega)) (by omega) (HM.out.1) hn6 HM.out.2 HOM.out (Nat.le_trans HB0.out HB.out.size)).mono ?_
        rintro e w1 ⟨rfl, ho1, hb1⟩
        have HO1 := Lib.hid ho1
        have HB1 := Lib.hid (HB.out.trans hb1)
        clear ho1 hb1
        go_wp2_with fail
        go_roundw
        case rel => exact ⟨i, j - i, _, _, _, _, _, hi1, by omega, him, by omega, by omega, rfl, by go_num, HN, HO1, HB1⟩
        case measure => simp [intOf]; omega
end Go.Proofs.YtnkhnbpopdmkhaaGreat
