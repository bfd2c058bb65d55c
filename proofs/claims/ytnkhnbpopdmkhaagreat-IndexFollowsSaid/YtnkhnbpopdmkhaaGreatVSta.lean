/-
  CONTRACTS of slices' stable sort over things. (By wip/tools/gen_vsort.py.)
-/
import Derived.Test.YtnkhnbpopdmkhaaGreatVSym
namespace Go.Proofs.YtnkhnbpopdmkhaaGreat
set_option linter.unusedVariables false
open Go.RowKit

set_option maxRecDepth 100000 in
set_option maxHeartbeats 3200000 in
theorem stabstand (B g n c K : Nat) (ord : List Value → List Value → Int) (L : List (List Value)) (w : World) (hn : n = L.length) (hn6 : n ≤ 4000) (hM : Things kstand L) (hT : TellsC kstand K ord) (hW : Pl.Weak (lessO ord)) (ho : w.ownsRow B 112 8 (.slice (some ⟨g, 0, none⟩) n c) n (L).flatten) (hB : B ≤ w.heap.size) :
    Calls Tryz.prog 42 #[.slice (some ⟨g, 0, none⟩) n c, .int .i64 (n : Int), .func (.func K) #[] #[]] w fun e w' => e = .returned (.tuple #[]) ∧ ∃ C, Pl.Stb (lessO ord) C L ∧ Pl.Srt (lessO ord) C ∧ w'.ownsRow B 112 8 (.slice (some ⟨g, 0, none⟩) n c) n (C).flatten ∧ Below B w w' := by
  have HBW := Lib.hid hB
  have HT := Lib.hid hT
  have HW := Lib.hid hW
  have HPM : Hid (∀ M : List (List Value), Pl.Stb (lessO ord) M L → n = M.length ∧ Things kstand M) := Lib.hid (fun M h => ⟨hn.trans h.length_eq.symm, things_perm hM h.perm⟩)
  have HO0 : Hid (w.ownsRow B 112 8 (.slice (some ⟨g, 0, none⟩) n c) n ([] ++ L).flatten) := Lib.hid ho
  have HN6 := Lib.hid (show n ≤ 100000 by omega)
  have HR0 : Hid (Pl.Runs (lessO ord) 20 ([] : List (List Value))) := Lib.hid (Pl.Runs.nil 20)
  clear hn hM hT hW ho hB
  go_enter Tryz.func42, Tryz.ntmps42
  go_wp2_with fail
  go_loopw [7, 8] (fun av bv wr => ∃ (q : Nat) (X Y : List (List Value)), q ≤ n ∧ av = .int .i64 (q : Int) ∧ bv = .int .i64 ((q : Int) + 20) ∧ Hid (X.length = q) ∧ Hid (∃ k, X.length = k * 20) ∧ Hid (Pl.Stb (lessO ord) (X ++ Y) L) ∧ Hid (Pl.Runs (lessO ord) 20 X) ∧ Hid (wr.ownsRow B 112 8 (.slice (some ⟨g, 0, none⟩) n c) n (X ++ Y).flatten) ∧ Hid (Below B w wr)) (fun av _ _ => n - (intOf av).toNat)
  case atStart => exact ⟨0, [], L, by omega, rfl, rfl, Lib.hid rfl, Lib.hid ⟨0, rfl⟩, Lib.hid (Pl.Stb.refl _ _), HR0, HO0, Lib.hid (Below.refl _ _)⟩
  case round =>
    obtain ⟨q, X, Y, hqn, rfl, rfl, HXL, HXK, HXY, HRX, HO, HB⟩ := hrel
    by_cases hlt : q + 20 ≤ n
    · skip
      obtain ⟨A, Y', hY, hA⟩ := Pl.part_at Y 20 (by have := (HPM.out _ HXY.out).1; have := HXL.out; rw [List.length_append] at *; omega)
      subst hY
      have HA := Lib.hid hA
      have HPX := Lib.hid (HPM.out _ HXY.out)
      clear hA
      have hlt2 : (q : Int) + 20 ≤ (n : Int) := by omega
      go_wp2_with fail
      refine (inserstand B g n c K ord X A Y' _ _ _ (by rw [HXL.out]) (by rw [HXL.out, HA.out]; omega) HPX.out.1 HN6.out HPX.out.2 HT.out HW.out HO.out (Nat.le_trans HBW.out HB.out.size)).mono ?_
      rintro e w1 ⟨rfl, C, hp, hs, ho1, hb1⟩
      have HL1 : Hid (X.length + C.length = q + 20) := Lib.hid (by rw [hp.length_eq, HXL.out, HA.out])
      have HK1 : Hid (∃ k, (X ++ C).length = k * 20) := Lib.hid (by obtain ⟨k, hk⟩ := HXK.out; exact ⟨k + 1, by rw [List.length_append, hp.length_eq, hk, HA.out]; omega⟩)
      have HP1 : Hid (Pl.Stb (lessO ord) ((X ++ C) ++ Y') L) := Lib.hid (by rw [List.append_assoc]; exact (Pl.Stb.append_left X (hp.append_right Y')).trans HXY.out)
      have HR1 : Hid (Pl.Runs (lessO ord) 20 (X ++ C)) := Lib.hid (by obtain ⟨k, hk⟩ := HXK.out; exact HRX.out.snoc hk (by rw [hp.length_eq, HA.out]; omega) hs)
      have HO1 : Hid (w1.ownsRow B 112 8 (.slice (some ⟨g, 0, none⟩) n c) n ((X ++ C) ++ Y').flatten) := Lib.hid (by rw [List.append_assoc]; exact ho1)
      have HB1 := Lib.hid (HB.out.trans hb1)
      clear hp hs ho1 hb1
      go_wp2_with fail
      go_roundw
      case rel => exact ⟨q + 20, X ++ C, Y', hlt, by go_num, by go_num, Lib.hid (by rw [List.length_append]; exact HL1.out), HK1, HP1, HR1, HO1, HB1⟩
      case measure => simp [intOf]; omega
    · skip
      have hlt2 : ¬ (q : Int) + 20 ≤ (n : Int) := by omega
      have HPX := Lib.hid (HPM.out _ HXY.out)
      have HYL : Hid (q + Y.length = n) := Lib.hid (by have h := HPX.out.1; rw [List.length_append, HXL.out] at h; omega)
      have HOE : Hid (wr.ownsRow B 112 8 (.slice (some ⟨g, 0, none⟩) n c) n (X ++ (Y ++ [])).flatten) := Lib.hid (by rw [List.append_nil]; exact HO.out)
      have HPE : Hid (n = (X ++ (Y ++ [])).length ∧ Things kstand (X ++ (Y ++ []))) := Lib.hid (by rw [List.append_nil]; exact HPX.out)
      have hql : n ≤ q + 19 := by omega
      go_wp2_with fail
      refine (inserstand B g n c K ord X Y [] _ _ _ (by rw [HXL.out]) (by rw [HXL.out, HYL.out]) HPE.out.1 HN6.out HPE.out.2 HT.out HW.out HOE.out (Nat.le_trans HBW.out HB.out.size)).mono ?_
      rintro e w1 ⟨rfl, C, hp, hs, ho1, hb1⟩
      have HP1 : Hid (Pl.Stb (lessO ord) (X ++ C) L) := Lib.hid ((Pl.Stb.append_left X hp).trans HXY.out)
      have HR1 : Hid (Pl.Runs (lessO ord) 20 (X ++ C)) := Lib.hid (by obtain ⟨k, hk⟩ := HXK.out; exact HRX.out.snoc hk (by rw [hp.length_eq]; have := HYL.out; omega) hs)
      have HO1 : Hid (w1.ownsRow B 112 8 (.slice (some ⟨g, 0, none⟩) n c) n (X ++ C).flatten) := Lib.hid (by rw [List.append_nil] at ho1; exact ho1)
      have HB1 := Lib.hid (HB.out.trans hb1)
      clear hp hs ho1 hb1 hlt hlt2 hql
      obtain ⟨M1, hM1⟩ : ∃ M, X ++ C = M := ⟨_, rfl⟩
      rw [hM1] at HP1 HR1 HO1
      clear hM1 HXL HXK HXY HRX HO HB HPX HYL HOE HPE
      go_wp2_with fail
      go_loopw [6, 7, 8, 9] (fun sv av bv mv wr => ∃ (s : Nat) (M : List (List Value)), 1 ≤ s ∧ s ≤ 8000 ∧ sv = .int .i64 (s : Int) ∧ Hid (Pl.Stb (lessO ord) M L) ∧ Hid (Pl.Runs (lessO ord) s M) ∧ Hid (wr.ownsRow B 112 8 (.slice (some ⟨g, 0, none⟩) n c) n (M).flatten) ∧ Hid (Below B w wr)) (fun sv _ _ _ _ => n - (intOf sv).toNat)
      case atStart => exact ⟨20, M1, by omega, by omega, rfl, HP1, HR1, HO1, HB1⟩
      case round =>
        obtain ⟨s, M, hs1, hs8, rfl, HPS, HRS, HOS, HBS⟩ := hrel
        clear HO1 HB1 HR1 HP1
        by_cases hlt : s < n
        · skip
          have HRZ : Hid (Pl.Runs (lessO ord) (2 * s) ([] : List (List Value))) := Lib.hid (Pl.Runs.nil _)
          go_wp2_with fail
          go_loopw [7, 8] (fun av bv wr => ∃ (q : Nat) (X Y : List (List Value)), q ≤ n ∧ av = .int .i64 (q : Int) ∧ bv = .int .i64 ((q : Int) + 2 * (s : Int)) ∧ Hid (X.length = q) ∧ Hid (∃ k, X.length = k * (2 * s)) ∧ Hid (Pl.Stb (lessO ord) (X ++ Y) L) ∧ Hid (Pl.Runs (lessO ord) (2 * s) X) ∧ Hid (Pl.Runs (lessO ord) s Y) ∧ Hid (wr.ownsRow B 112 8 (.slice (some ⟨g, 0, none⟩) n c) n (X ++ Y).flatten) ∧ Hid (Below B w wr)) (fun av _ _ => n - (intOf av).toNat)
          case atStart => exact ⟨0, [], M, by omega, rfl, by first | rfl | go_num | simp, Lib.hid rfl, Lib.hid ⟨0, by simp⟩, HPS, HRZ, HRS, HOS, HBS⟩
          case round =>
            obtain ⟨q, X, Y, hqn, rfl, rfl, HXL, HXK, HXY, HRX, HRY, HO, HB⟩ := hrel
            have HPX := Lib.hid (HPM.out _ HXY.out)
            have HYL : Hid (q + Y.length = n) := Lib.hid (by have h := HPX.out.1; rw [List.length_append, HXL.out] at h; omega)
            by_cases hlt2 : q + 2 * s ≤ n
            · skip
              obtain ⟨A, Y1, hY, hA⟩ := Pl.part_at Y s (by have := HYL.out; omega)
              subst hY
              obtain ⟨D, Y', hY, hD⟩ := Pl.part_at Y1 s (by have h := HYL.out; rw [List.length_append] at h; omega)
              subst hY
              have HA := Lib.hid hA
              have HD := Lib.hid hD
              have HSA := Lib.hid (HRY.out.first hA)
              have HRY1 := Lib.hid (HRY.out.rest hA)
              have HSD := Lib.hid (HRY1.out.first hD)
              have HRY2 := Lib.hid (HRY1.out.rest hD)
              clear hA hD
              have hlt3 : (q : Int) + 2 * (s : Int) ≤ (n : Int) := by omega
              go_wp2_with fail
              refine (symmstand B g n c K ord HN6.out HT.out HW.out (2 * s) X A D Y' _ _ _ _ (by rw [HA.out, HD.out]; omega) (by rw [HXL.out]) (by rw [HXL.out, HA.out]; omega) (by rw [HXL.out, HA.out, HD.out]; omega) (by rw [HA.out]; exact hs1) (by rw [HD.out]; exact hs1) HPX.out.1 HPX.out.2 HSA.out HSD.out HO.out (Nat.le_trans HBW.out HB.out.size)).mono ?_
              rintro e w2 ⟨rfl, C, hp, hs, ho1, hb1⟩
              have HL1 : Hid (X.length + C.length = q + 2 * s) := Lib.hid (by rw [hp.length_eq, List.length_append, HXL.out, HA.out, HD.out]; omega)
              have HK1 : Hid (∃ k, (X ++ C).length = k * (2 * s)) := Lib.hid (by obtain ⟨k, hk⟩ := HXK.out; exact ⟨k + 1, by rw [List.length_append, hp.length_eq, List.length_append, hk, HA.out, HD.out, Nat.succ_mul k]; omega⟩)
              have HP1 : Hid (Pl.Stb (lessO ord) ((X ++ C) ++ Y') L) := Lib.hid (by have h := (Pl.Stb.append_left X (hp.append_right Y')); rw [List.append_assoc]; refine h.trans ?_; rw [List.append_assoc A]; exact HXY.out)
              have HR1 : Hid (Pl.Runs (lessO ord) (2 * s) (X ++ C)) := Lib.hid (by obtain ⟨k, hk⟩ := HXK.out; exact HRX.out.snoc hk (by rw [hp.length_eq, List.length_append, HA.out, HD.out]; omega) hs)
              have HO1 : Hid (w2.ownsRow B 112 8 (.slice (some ⟨g, 0, none⟩) n c) n ((X ++ C) ++ Y').flatten) := Lib.hid (by rw [List.append_assoc]; exact ho1)
              have HB1 := Lib.hid (HB.out.trans hb1)
              clear hp hs ho1 hb1
              go_wp2_with fail
              go_roundw
              case rel => exact ⟨q + 2 * s, X ++ C, Y', hlt2, by go_num, by go_num, Lib.hid (by rw [List.length_append]; exact HL1.out), HK1, HP1, HR1, HRY2, HO1, HB1⟩
              case measure => simp [intOf]; omega
            · skip
              have hlt3 : ¬ (q : Int) + 2 * (s : Int) ≤ (n : Int) := by omega
              by_cases hlt4 : q + s < n
              · skip
                obtain ⟨A, D, hY, hA⟩ := Pl.part_at Y s (by have := HYL.out; omega)
                subst hY
                have hD : D.length = n - q - s := by have h := HYL.out; rw [List.length_append] at h; omega
                have HA := Lib.hid hA
                have HD := Lib.hid hD
                have HSA := Lib.hid (HRY.out.first hA)
                have HRY1 := Lib.hid (HRY.out.rest hA)
                have HSD := Lib.hid (HRY1.out.all (by rw [hD]; omega))
                clear hA hD
                have hlt5 : (q : Int) + (s : Int) < (n : Int) := by omega
                have HOE : Hid (wr.ownsRow B 112 8 (.slice (some ⟨g, 0, none⟩) n c) n (X ++ (A ++ (D ++ []))).flatten) := Lib.hid (by rw [List.append_nil]; exact HO.out)
                have HPE : Hid (n = (X ++ (A ++ (D ++ []))).length ∧ Things kstand (X ++ (A ++ (D ++ [])))) := Lib.hid (by rw [List.append_nil]; exact HPX.out)
                go_wp2_with fail
                refine (symmstand B g n c K ord HN6.out HT.out HW.out (2 * s) X A D [] _ _ _ _ (by rw [HA.out, HD.out]; omega) (by rw [HXL.out]) (by rw [HXL.out, HA.out]; omega) (by rw [HXL.out, HA.out, HD.out]; omega) (by rw [HA.out]; exact hs1) (by rw [HD.out]; omega) HPE.out.1 HPE.out.2 HSA.out HSD.out HOE.out (Nat.le_trans HBW.out HB.out.size)).mono ?_
                rintro e w2 ⟨rfl, C, hp, hs, ho1, hb1⟩
                have HP1 : Hid (Pl.Stb (lessO ord) (X ++ C) L) := Lib.hid ((Pl.Stb.append_left X hp).trans HXY.out)
                have HR1 : Hid (Pl.Runs (lessO ord) (s * 2) (X ++ C)) := Lib.hid (by rw [Nat.mul_comm s 2]; obtain ⟨k, hk⟩ := HXK.out; exact HRX.out.snoc hk (by rw [hp.length_eq, List.length_append, HA.out, HD.out]; omega) hs)
                have HO1 : Hid (w2.ownsRow B 112 8 (.slice (some ⟨g, 0, none⟩) n c) n (X ++ C).flatten) := Lib.hid (by rw [List.append_nil] at ho1; exact ho1)
                have HB1 := Lib.hid (HB.out.trans hb1)
                clear hp hs ho1 hb1
                go_wp2_with fail
                go_roundw
                case rel => exact ⟨s * 2, X ++ C, by omega, by omega, by go_num, HP1, HR1, HO1, HB1⟩
                case measure => simp [intOf]; omega
              · skip
                have hlt5 : ¬ (q : Int) + (s : Int) < (n : Int) := by omega
                have HR1 : Hid (Pl.Runs (lessO ord) (s * 2) (X ++ Y)) := Lib.hid (by rw [Nat.mul_comm s 2]; obtain ⟨k, hk⟩ := HXK.out; have := HYL.out; exact HRX.out.snoc hk (by omega) (HRY.out.all (by omega)))
                go_wp2_with fail
                go_roundw
                case rel => exact ⟨s * 2, X ++ Y, by omega, by omega, by go_num, HXY, HR1, HO, HB⟩
                case measure => simp [intOf]; omega
        · have HSS := Lib.hid (HRS.out.all (by have := (HPM.out _ HPS.out).1; omega))
          go_wp2_with fail
          go_end0
          exact ⟨rfl, M, HPS.out, HSS.out, HOS.out, HBS.out⟩
set_option maxRecDepth 100000 in
theorem sortstand (B g n c K : Nat) (ord : List Value → List Value → Int) (L : List (List Value)) (w : World) (hn : n = L.length) (hn6 : n ≤ 4000) (hM : Things kstand L) (hT : TellsC kstand K ord) (hW : Pl.Weak (lessO ord)) (ho : w.ownsRow B 112 8 (.slice (some ⟨g, 0, none⟩) n c) n (L).flatten) (hB : B ≤ w.heap.size) :
    Calls Tryz.prog 33 #[.slice (some ⟨g, 0, none⟩) n c, .func (.func K) #[] #[]] w fun e w' => e = .returned (.tuple #[]) ∧ ∃ C, Pl.Stb (lessO ord) C L ∧ Pl.Srt (lessO ord) C ∧ w'.ownsRow B 112 8 (.slice (some ⟨g, 0, none⟩) n c) n (C).flatten ∧ Below B w w' := by
  have HI := Lib.hid (stabstand B g n c K ord L w hn hn6 hM hT hW ho hB)
  clear ho hn hM hT hW
  go_enter Tryz.func33, Tryz.ntmps33
  go_wp2_with fail
  refine HI.out.mono ?_
  rintro e w1 ⟨rfl, C, hp, hs, ho1, hb1⟩
  have HP := Lib.hid (And.intro hp hs)
  have HO := Lib.hid ho1
  have HB := Lib.hid hb1
  clear hp hs ho1 hb1
  go_wp2_with fail
  go_end0
  exact ⟨rfl, C, HP.out.1, HP.out.2, HO.out, HB.out⟩
end Go.Proofs.YtnkhnbpopdmkhaaGreat
