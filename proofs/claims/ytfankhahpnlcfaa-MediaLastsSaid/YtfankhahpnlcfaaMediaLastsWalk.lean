/-
  The walk of MediaLasts.
-/
import Derived.Test.YtfankhahpnlcfaaMJ
namespace Go.Proofs.Ytfankhahpnlcfaa.mediaLasts
open Go.RowKit Go.Maps

set_option maxRecDepth 100000 in
set_option maxHeartbeats 6400000 in
theorem walk (A : Option Addr) (n c : Nat) (l : List Cl6) (w : World) (hn : n = l.length) (hsz : n * 48 ≤ 140737488351232) (hr : Rd w w.heap.size A (oc l)) (hok : ∀ o ∈ l, o.Ok) :
    Calls Try.prog 4 #[.slice A n c] w fun e w' => e = .returned (.bool true) ∧ Below w.heap.size w w' := by
  have HN := Lib.hid hn
  have HR := Lib.hid hr
  have HOK := Lib.hid hok
  have hn63 : n ≤ 140737488355328 := by omega
  have hmm := @run_makeMap Try.prog
  clear hn hr hok hsz
  go_enter Try.func4, Try.ntmps4
  go_wp2_with fail
  refine (newJ w).mono ?_
  rintro e w1 ⟨rfl, h1⟩
  have H0 := Lib.hid h1
  clear h1
  obtain ⟨bw, hbw⟩ : ∃ bw, w1.heap.size = bw := ⟨_, rfl⟩
  rw [hbw] at H0
  go_wp2_with fail
  clear hbw
  generalize w1.alloc (.map #[] 0) = w2 at H0 ⊢
  go_loopw [5] (fun i wr => ∃ k : Nat, k ≤ n ∧ k ≤ 300 ∧ i = .int .i64 (k : Int) ∧ Hid (∃ s g, Inv l s g ∧ J w wr (w.heap.size + 1) bw k k s g [])) (fun i _ => n - (RowKit.intOf i).toNat)
  case atStart => exact ⟨0, by omega, by omega, rfl, Lib.hid ⟨_, _, Inv.new l, H0.out⟩⟩
  case round =>
    obtain ⟨k, hk, hk3, rfl, hJ⟩ := hrel
    obtain ⟨s, g, hI, hJ⟩ := hJ.out
    have HI := Lib.hid hI
    have H := Lib.hid hJ
    clear hI hJ
    by_cases hlt : k < n ∧ k < 300
    · obtain ⟨hlt, hl3⟩ := hlt
      have hkl : k < l.length := by rw [← HN.out]; exact hlt
      obtain ⟨b, off, rfl, hb, hc⟩ := HR.out.call hkl
      have HO := Lib.hid (HOK.out l[k] (List.getElem_mem hkl))
      have HMEM := Lib.hid (List.getElem_mem hkl)
      have hcc := hc k hkl
      clear hc
      generalize l[k] = o at hcc HO HMEM
      obtain ⟨ask, file, at_, byte, odd, num⟩ := o
      simp only at hcc
      obtain ⟨c0, c1, c2, c3, c4, c5⟩ := hcc
      have hB := H.out.fst
      rw [← hB.cell (p := ⟨b, off + k * 6, none⟩) hb] at c0
      rw [← hB.cell (p := ⟨b, off + k * 6 + 1, none⟩) hb] at c1
      rw [← hB.cell (p := ⟨b, off + k * 6 + 2, none⟩) hb] at c2
      rw [← hB.cell (p := ⟨b, off + k * 6 + 3, none⟩) hb] at c3
      rw [← hB.cell (p := ⟨b, off + k * 6 + 4, none⟩) hb] at c4
      rw [← hB.cell (p := ⟨b, off + k * 6 + 5, none⟩) hb] at c5
      clear hB
      have h1 : (0 : Int) ≤ (k : Int) := by omega
      have h2 : (k : Int) < (n : Int) := by omega
      have h3 : (k : Int) < 300 := by omega
      by_cases ha0 : ask = 0
      · subst ha0
        go_wp2_with fail
        have H := Lib.hid (H.out.add (.cells #[.int .i64 0, .int .i64 file, .int .i64 at_, .int .i64 byte, .bool odd, .int .i64 num] 28))
        clear c0 c1 c2 c3 c4 c5
        generalize wr.alloc (.cells #[.int .i64 0, .int .i64 file, .int .i64 at_, .int .i64 byte, .bool odd, .int .i64 num] 28) = w3 at H ⊢
        generalize wr.heap.size = bx at H ⊢
        have q1 : w3.cell? ⟨bx, 1, none⟩ = some (.int .i64 file) := H.out.cell (List.mem_singleton.2 rfl) 1
        have q2 : w3.cell? ⟨bx, 2, none⟩ = some (.int .i64 at_) := H.out.cell (List.mem_singleton.2 rfl) 2
        have q3 : w3.cell? ⟨bx, 3, none⟩ = some (.int .i64 byte) := H.out.cell (List.mem_singleton.2 rfl) 3
        obtain ⟨cw, s', hW⟩ : ∃ cw s', writeF s file at_ (fullB byte false) = (cw, s') := ⟨_, _, rfl⟩
        have HW := Lib.hid hW
        clear hW
        rcases writeF_S HW.out with ⟨rfl, hS, hv⟩ | ⟨hcw, hS⟩
        · have HI2 := Lib.hid (HI.out.write hS hv HMEM.out rfl)
          clear hS hv
          go_region_held3 (fun w' => w'.cell? ⟨bx, 1, none⟩ = some (.int .i64 file) ∧ w'.cell? ⟨bx, 2, none⟩ = some (.int .i64 at_) ∧ w'.cell? ⟨bx, 3, none⟩ = some (.int .i64 byte))
            (first
              | go_keep
              | (exact ⟨H.out.cell (List.mem_singleton.2 rfl) 1, H.out.cell (List.mem_singleton.2 rfl) 2, H.out.cell (List.mem_singleton.2 rfl) 3⟩)
              | (exact ⟨H.out.drew.cell (List.mem_singleton.2 rfl) 1, H.out.drew.cell (List.mem_singleton.2 rfl) 2, H.out.drew.cell (List.mem_singleton.2 rfl) 3⟩))
            (first
              | (go_at_call 10; (with_reducible refine (fullJ (by first | exact H.out | exact H.out.drew) _ _).mono ?_); rintro e w4 ⟨rfl, hj⟩; have H := Lib.hid hj; clear hj)
              | (go_at_call 9; (with_reducible refine (writeJ (by first | exact H.out | exact H.out.drew) (by omega) HO.out.file HO.out.at_ HW.out).mono ?_); rintro e w5 ⟨rfl, hj⟩; have H := Lib.hid hj; clear hj))
          clear q1 q2 q3
          have q1 : w5.cell? ⟨bx, 1, none⟩ = some (.int .i64 file) := H.out.cell (List.mem_singleton.2 rfl) 1
          have q2 : w5.cell? ⟨bx, 2, none⟩ = some (.int .i64 at_) := H.out.cell (List.mem_singleton.2 rfl) 2
          have q3 : w5.cell? ⟨bx, 3, none⟩ = some (.int .i64 byte) := H.out.cell (List.mem_singleton.2 rfl) 3
          go_wp2_with fail
          go_region_held3 (fun w' => w'.cell? ⟨bx, 1, none⟩ = some (.int .i64 file) ∧ w'.cell? ⟨bx, 2, none⟩ = some (.int .i64 at_) ∧ w'.cell? ⟨bx, 3, none⟩ = some (.int .i64 byte))
            (first
              | go_keep
              | (exact ⟨H.out.cell (List.mem_singleton.2 rfl) 1, H.out.cell (List.mem_singleton.2 rfl) 2, H.out.cell (List.mem_singleton.2 rfl) 3⟩)
              | (exact ⟨H.out.drew.cell (List.mem_singleton.2 rfl) 1, H.out.drew.cell (List.mem_singleton.2 rfl) 2, H.out.drew.cell (List.mem_singleton.2 rfl) 3⟩)
              | (exact ⟨H7.out.cell (List.mem_singleton.2 rfl) 1, H7.out.cell (List.mem_singleton.2 rfl) 2, H7.out.cell (List.mem_singleton.2 rfl) 3⟩))
            (first
              | (go_at_call 10; (with_reducible refine (fullJ (by first | exact H.out | exact H.out.drew) _ _).mono ?_); rintro e w6 ⟨rfl, hj⟩; obtain ⟨w7, hup, hj7⟩ := storeJ hj (by omega) HO.out.file HO.out.at_ (fullB byte false); have H := Lib.hid hj; have H7 := Lib.hid hj7; clear hj hj7))
          clear q1 q2 q3 hup
          go_wp2_with fail
          go_roundw
          case rel => exact ⟨k + 1, by omega, by omega, by go_num, Lib.hid ⟨_, _, HI2.out, H7.out.bare⟩⟩
          case measure => simp [RowKit.intOf]; omega
        · have hc0 : (cw == 0) = false := by simp [hcw]
          have HI2 := Lib.hid (HI.out.other hS)
          clear hS hcw
          go_region_held3 (fun w' => w'.cell? ⟨bx, 1, none⟩ = some (.int .i64 file) ∧ w'.cell? ⟨bx, 2, none⟩ = some (.int .i64 at_) ∧ w'.cell? ⟨bx, 3, none⟩ = some (.int .i64 byte))
            (first
              | go_keep
              | (exact ⟨H.out.cell (List.mem_singleton.2 rfl) 1, H.out.cell (List.mem_singleton.2 rfl) 2, H.out.cell (List.mem_singleton.2 rfl) 3⟩)
              | (exact ⟨H.out.drew.cell (List.mem_singleton.2 rfl) 1, H.out.drew.cell (List.mem_singleton.2 rfl) 2, H.out.drew.cell (List.mem_singleton.2 rfl) 3⟩))
            (first
              | (go_at_call 10; (with_reducible refine (fullJ (by first | exact H.out | exact H.out.drew) _ _).mono ?_); rintro e w4 ⟨rfl, hj⟩; have H := Lib.hid hj; clear hj)
              | (go_at_call 9; (with_reducible refine (writeJ (by first | exact H.out | exact H.out.drew) (by omega) HO.out.file HO.out.at_ HW.out).mono ?_); rintro e w5 ⟨rfl, hj⟩; have H := Lib.hid hj; clear hj))
          clear q1 q2 q3
          go_wp2_with fail
          go_roundw
          case rel => exact ⟨k + 1, by omega, by omega, by go_num, Lib.hid ⟨_, _, HI2.out, (H.out.bare).mono (Nat.le_refl _) (Nat.le_succ _)⟩⟩
          case measure => simp [RowKit.intOf]; omega
      · by_cases ha1 : ask = 1
        · subst ha1
          go_wp2_with fail
          have H := Lib.hid (H.out.add (.cells #[.int .i64 1, .int .i64 file, .int .i64 at_, .int .i64 byte, .bool odd, .int .i64 num] 28))
          clear c0 c1 c2 c3 c4 c5
          generalize wr.alloc (.cells #[.int .i64 1, .int .i64 file, .int .i64 at_, .int .i64 byte, .bool odd, .int .i64 num] 28) = w3 at H ⊢
          generalize wr.heap.size = bx at H ⊢
          obtain ⟨cw, s', hW⟩ : ∃ cw s', removeF s file = (cw, s') := ⟨_, _, rfl⟩
          have HW := Lib.hid hW
          clear hW
          refine (removeJ H.out (by omega) HO.out.file HW.out).mono ?_
          rcases removeF_S HW.out with ⟨rfl, hS⟩ | ⟨hcw, hS⟩
          · have HI2 := Lib.hid (fun (j : Nat) (hj : j = l.length) => HI.out.remove hS hj)
            clear hS
            rintro e w4 ⟨rfl, hj⟩
            have H := Lib.hid hj
            clear hj
            go_wp2_with fail
            go_loopw [7] (fun q wj => ∃ i : Nat, i ≤ n ∧ q = .int .i64 (i : Int) ∧ Hid (J w wj (w.heap.size + 1) bw (k + 1) k s' (delG g file l i) [(bx, (.cells #[.int .i64 1, .int .i64 file, .int .i64 at_, .int .i64 byte, .bool odd, .int .i64 num] 28))])) (fun q _ => n - (RowKit.intOf q).toNat)
            case atStart => exact ⟨0, by omega, rfl, by rw [delG_zero]; exact H⟩
            case round =>
              obtain ⟨i, hi, rfl, HJ⟩ := hrel
              by_cases hin : i < n
              · have hil : i < l.length := by rw [← HN.out]; exact hin
                have hc2 := (HR.out.call hil)
                obtain ⟨b', off', e', hb', hci⟩ := hc2
                obtain ⟨_, _, c2, _⟩ := hci i hil
                injection e' with e'
                injection e' with e1 e2
                subst e1
                subst e2
                have HAT := Lib.hid (HOK.out l[i] (List.getElem_mem hil)).at_
                have HDG := Lib.hid (delG_succ g file l hil)
                rw [← HJ.out.fst.cell (p := ⟨b, off + i * 6 + 2, none⟩) hb] at c2
                generalize l[i].at_ = ai at c2 HAT HDG
                have q1 : wr.cell? ⟨bx, 1, none⟩ = some (.int .i64 file) := HJ.out.cell (List.mem_singleton.2 rfl) 1
                obtain ⟨wd, hdel, hjd⟩ := dropJ HJ.out.drew HO.out.file HAT.out
                rw [HDG.out] at hjd
                have HD := Lib.hid hjd
                have g1 : (0 : Int) ≤ (i : Int) := by omega
                have g2 : (i : Int) < (n : Int) := by omega
                clear hjd hci
                go_wp2_with fail
                go_region_held3 (fun w' => w'.cell? ⟨bx, 1, none⟩ = some (.int .i64 file) ∧ w'.cell? ⟨b, off + i * 6 + 2, none⟩ = some (.int .i64 ai))
                  (first
                    | go_keep
                    | (exact ⟨HD.out.cell (List.mem_singleton.2 rfl) 1, (HD.out.fst.cell (p := ⟨b, off + i * 6 + 2, none⟩) hb).trans ((HJ.out.fst.cell (p := ⟨b, off + i * 6 + 2, none⟩) hb).symm.trans c2)⟩))
                  (fail)
                clear c2 q1 hdel
                go_wp2_with fail
                go_roundw
                case rel => exact ⟨i + 1, by omega, by go_num, HD⟩
                case measure => simp [RowKit.intOf]; omega
              · obtain rfl : i = n := by omega
                have HI3 := Lib.hid (HI2.out i HN.out)
                go_wp2_with fail
                go_roundw
                case rel => exact ⟨k + 1, by omega, by omega, by go_num, Lib.hid ⟨_, _, HI3.out, (HJ.out.bare).mono (Nat.le_refl _) (Nat.le_succ _)⟩⟩
                case measure => simp [RowKit.intOf]; omega
          · have hc0 : (cw == 0) = false := by simp [hcw]
            have HI2 := Lib.hid (HI.out.other hS)
            clear hS hcw
            rintro e w4 ⟨rfl, hj⟩
            have H := Lib.hid hj
            clear hj
            go_wp2_with fail
            go_roundw
            case rel => exact ⟨k + 1, by omega, by omega, by go_num, Lib.hid ⟨_, _, HI2.out, (H.out.bare).mono (Nat.le_refl _) (Nat.le_succ _)⟩⟩
            case measure => simp [RowKit.intOf]; omega
        · by_cases ha3 : ask = 3
          · subst ha3
            go_wp2_with fail
            have H := Lib.hid (H.out.add (.cells #[.int .i64 3, .int .i64 file, .int .i64 at_, .int .i64 byte, .bool odd, .int .i64 num] 28))
            clear c0 c1 c2 c3 c4 c5
            generalize wr.alloc (.cells #[.int .i64 3, .int .i64 file, .int .i64 at_, .int .i64 byte, .bool odd, .int .i64 num] 28) = w3 at H ⊢
            generalize wr.heap.size = bx at H ⊢
            refine (armJ H.out HO.out.num).mono ?_
            rintro e w4 ⟨rfl, hj⟩
            have H := Lib.hid hj
            have HI2 := Lib.hid (HI.out.arm num)
            clear hj
            go_wp2_with fail
            go_roundw
            case rel => exact ⟨k + 1, by omega, by omega, by go_num, Lib.hid ⟨_, _, HI2.out, (H.out.bare).mono (Nat.le_succ _) (Nat.le_succ _)⟩⟩
            case measure => simp [RowKit.intOf]; omega
          · by_cases ha4 : ask = 4
            · subst ha4
              go_wp2_with fail
              have H := Lib.hid (H.out.add (.cells #[.int .i64 4, .int .i64 file, .int .i64 at_, .int .i64 byte, .bool odd, .int .i64 num] 28))
              clear c0 c1 c2 c3 c4 c5
              generalize wr.alloc (.cells #[.int .i64 4, .int .i64 file, .int .i64 at_, .int .i64 byte, .bool odd, .int .i64 num] 28) = w3 at H ⊢
              generalize wr.heap.size = bx at H ⊢
              refine (onJ H.out).mono ?_
              rintro e w4 ⟨rfl, hj⟩
              have H := Lib.hid hj
              have HI2 := Lib.hid (HI.out.on)
              clear hj
              go_wp2_with fail
              go_roundw
              case rel => exact ⟨k + 1, by omega, by omega, by go_num, Lib.hid ⟨_, _, HI2.out, (H.out.bare).mono (Nat.le_succ _) (Nat.le_succ _)⟩⟩
              case measure => simp [RowKit.intOf]; omega
            · have e0 : (ask == 0) = false := by simp [ha0]
              have e1 : (ask == 1) = false := by simp [ha1]
              have e3 : (ask == 3) = false := by simp [ha3]
              have e4 : (ask == 4) = false := by simp [ha4]
              clear ha0 ha1 ha3 ha4
              go_wp2_with fail
              have H := Lib.hid (H.out.add (.cells #[.int .i64 ask, .int .i64 file, .int .i64 at_, .int .i64 byte, .bool odd, .int .i64 num] 28)).bare
              go_roundw
              case rel => exact ⟨k + 1, by omega, by omega, by go_num, Lib.hid ⟨_, _, HI.out, H.out.mono (Nat.le_succ _) (Nat.le_succ _)⟩⟩
              case measure => simp [RowKit.intOf]; omega
    · have hx : (¬ k < n ∧ k ≤ 300) ∨ (k < n ∧ k = 300) := by omega
      have HIO := Lib.hid HI.out.on
      clear hlt
      rcases hx with ⟨hx, hx2⟩ | ⟨hx, rfl⟩
      all_goals
        go_wp2_with fail
        refine (onJ H.out).mono ?_
        rintro e w4 ⟨rfl, hj⟩
        have H := Lib.hid hj
        clear hj
        go_wp2_with fail
        go_loopw [8] (fun q wr3 => ∃ j : Nat, j ≤ n ∧ j ≤ 300 ∧ q = .int .i64 (j : Int) ∧ Hid (∃ N, N ≤ 300 ∧ J w wr3 (w.heap.size + 1) bw N N (onF s) g [])) (fun q _ => n - (RowKit.intOf q).toNat)
        case atStart => exact ⟨0, by omega, by omega, rfl, Lib.hid ⟨_, by omega, H.out⟩⟩
        case round =>
          obtain ⟨j, hj, hj3, rfl, HJ⟩ := hrel
          obtain ⟨N, hN3, hJ⟩ := HJ.out
          have H := Lib.hid hJ
          clear hJ
          by_cases hlt : j < n ∧ j < 300
          · obtain ⟨hlt, hl3⟩ := hlt
            have hkl : j < l.length := by rw [← HN.out]; exact hlt
            obtain ⟨b, off, rfl, hb, hc⟩ := HR.out.call hkl
            have HO := Lib.hid (HOK.out l[j] (List.getElem_mem hkl))
            obtain ⟨_, c1, c2, _⟩ := hc j hkl
            have HF := Lib.hid HO.out.file
            have HAT := Lib.hid HO.out.at_
            clear hc HO
            rw [← H.out.fst.cell (p := ⟨b, off + j * 6 + 1, none⟩) hb] at c1
            rw [← H.out.fst.cell (p := ⟨b, off + j * 6 + 2, none⟩) hb] at c2
            generalize l[j].file = file at c1 HF
            generalize l[j].at_ = at_ at c2 HAT
            have h1 : (0 : Int) ≤ (j : Int) := by omega
            have h2 : (j : Int) < (n : Int) := by omega
            have h3 : (j : Int) < 300 := by omega
            have n1 := World.new_ne wr _ c1
            have n2 := World.new_ne wr _ c2
            go_wp2_with fail
            go_region_held3 (fun w' => w'.cell? ⟨b, off + j * 6 + 1, none⟩ = some (.int .i64 file) ∧ w'.cell? ⟨b, off + j * 6 + 2, none⟩ = some (.int .i64 at_))
              (go_keep)
              (fail)
            have H := Lib.hid (H.out.add (.cells #[.int .i64 file, .int .i64 at_] 45)).drew
            clear c1 c2 n1 n2
            generalize (wr.alloc (.cells #[.int .i64 file, .int .i64 at_] 45)).drew = w5 at H ⊢
            generalize wr.heap.size = bx at H ⊢
            have q0 : w5.cell? ⟨bx, 0, none⟩ = some (.int .i64 file) := H.out.cell (List.mem_singleton.2 rfl) 0
            have q1 : w5.cell? ⟨bx, 1, none⟩ = some (.int .i64 at_) := H.out.cell (List.mem_singleton.2 rfl) 1
            have hlk := lookJ H.out HF.out HAT.out
            have hsm : g file at_ = (onF s).S file at_ := HI.out.same file at_ HF.out HAT.out
            cases hg : g file at_ with
            | none =>
              rw [hg] at hlk hsm
              simp only [Option.getD_none, Option.isSome_none] at hlk
              have hrd : readF (onF s) file at_ = (⟨#[]⟩, 41) ∨ readF (onF s) file at_ = (⟨#[]⟩, 42) := by
                unfold readF
                rw [← hsm]
                show (if false = true then _ else if (!(isF file && isS at_)) = true then _ else _) = _ ∨ (if false = true then _ else if (!(isF file && isS at_)) = true then _ else _) = _
                cases isF file && isS at_
                · exact .inr rfl
                · exact .inl rfl
              have HRD := Lib.hid hrd
              clear hg hsm hrd
              rcases HRD.out with hrd | hrd
              all_goals
                have HR2 := Lib.hid hrd
                clear hrd
                go_wp2_with fail
                refine (readJ H.out HF.out HAT.out HR2.out).mono ?_
                rintro e w6 ⟨rfl, hj⟩
                have H := Lib.hid hj.bare
                clear hj q0 q1 hlk
                go_wp2_with fail
                go_roundw
                case rel => exact ⟨j + 1, by omega, by omega, by go_num, Lib.hid ⟨N, hN3, H.out⟩⟩
                case measure => simp [RowKit.intOf]; omega
            | some d =>
              rw [hg] at hlk hsm
              simp only [Option.getD_some, Option.isSome_some] at hlk
              have hok := HI.out.size file at_ d hsm.symm
              have HR2 : Hid (readF (onF s) file at_ = (d, 0)) := by
                have e1 : isF file = true := by simp [isF]; exact hok.1
                have e2 : isS at_ = true := by simp [isS]; exact hok.2
                show readF (onF s) file at_ = (d, 0)
                unfold readF
                rw [← hsm, e1, e2]
                rfl
              have q7 : (d.toList == d.toList) = true := beq_self_eq_true _
              clear hg hsm hok
              go_wp2_with fail
              refine (readJ H.out HF.out HAT.out HR2.out).mono ?_
              rintro e w6 ⟨rfl, hj⟩
              have H := Lib.hid hj.bare
              clear hj q0 q1 hlk
              go_wp2_with fail
              go_roundw
              case rel => exact ⟨j + 1, by omega, by omega, by go_num, Lib.hid ⟨N, hN3, H.out⟩⟩
              case measure => simp [RowKit.intOf]; omega
          · have hy : (¬ j < n ∧ j ≤ 300) ∨ (j < n ∧ j = 300) := by omega
            clear hlt
            rcases hy with ⟨hy, hy2⟩ | ⟨hy, rfl⟩
            all_goals
              first
              | (exfalso; omega)
              | (go_wp2_with fail
                 refine (awake_any _).mono ?_
                 rintro e w6 ⟨rfl, hb⟩
                 have HB := Lib.hid (H.out.fst.trans (hb.mono H.out.fst.size))
                 clear hb
                 go_wp2_with fail
                 go_ret
                 exact ⟨rfl, HB.out⟩)
end Go.Proofs.Ytfankhahpnlcfaa.mediaLasts
