/-
  The walk of MediaPlays (by wip/tools/gen_plays.py).
-/
import Derived.Test.YtfankhahpnlcfaaMK
import Derived.Deep.RegionHeld3
namespace Go.Proofs.Ytfankhahpnlcfaa.mediaPlays
open Go.RowKit Go.Maps

set_option maxRecDepth 100000 in
set_option maxHeartbeats 16000000 in
theorem walk (A : Option Addr) (n c : Nat) (l : List Cl6) (w : World) (hn : n = l.length) (hsz : n * 48 ≤ 140737488351232) (hr : Rd w w.heap.size A (oc l)) (hok : ∀ o ∈ l, o.Ok) :
    Calls Try.prog 3 #[.slice A n c] w fun e w' => e = .returned (.bool true) ∧ Below w.heap.size w w' := by
  have HN := Lib.hid hn
  have HR := Lib.hid hr
  have HOK := Lib.hid hok
  have hn63 : n ≤ 140737488355328 := by omega
  clear hn hr hok hsz
  go_enter Try.func3, Try.ntmps3
  go_wp2_with fail
  refine (newX w).mono ?_
  rintro e w1 ⟨X, rfl, hm, hX, hb⟩
  have H1 := Lib.hid (And.intro hm (And.intro hX hb))
  clear hm hX hb
  go_wp2_with fail
  refine (rnewX w1).mono ?_
  rintro e w2 ⟨Y, rfl, hm, hY, hb⟩
  have H0 := Lib.hid (newK H1.out.1 H1.out.2.1 H1.out.2.2 hm hY hb)
  clear hm hY hb
  generalize w1.heap.size = br at H0 ⊢
  go_wp2_with fail
  go_loopw [5] (fun i wr => ∃ k : Nat, k ≤ n ∧ k ≤ 500 ∧ i = .int .i64 (k : Int) ∧ Hid (∃ s, K w wr (w.heap.size + 1) br k s k s [])) (fun i _ => n - (RowKit.intOf i).toNat)
  case atStart => exact ⟨0, by omega, by omega, rfl, Lib.hid ⟨_, H0.out⟩⟩
  case round =>
    obtain ⟨k, hk, hk5, rfl, hJ⟩ := hrel
    obtain ⟨s, hJ⟩ := hJ.out
    have H := Lib.hid hJ
    clear hJ
    by_cases hlt : k < n ∧ k < 500
    · obtain ⟨hlt, hl5⟩ := hlt
      have hkl : k < l.length := by rw [← HN.out]; exact hlt
      obtain ⟨b, off, rfl, hb, hc⟩ := HR.out.call hkl
      have HO := Lib.hid (HOK.out l[k] (List.getElem_mem hkl))
      have hcc := hc k hkl
      clear hc
      generalize l[k] = o at hcc HO
      obtain ⟨ask, file, at_, byte, odd, num⟩ := o
      simp only at hcc
      obtain ⟨c0, c1, c2, c3, c4, c5⟩ := hcc
      have hB := H.out.fst
      rw [← hB.cell (p := ⟨b, off + k * 6, none⟩) hb] at c0
      rw [← hB.cell (p := ⟨b, off + k * 6 + 1, none⟩) hb] at c1
      rw [← hB.cell (p := ⟨b, off + k * 6 + 2, none⟩) hb] at c2
      rw [← hB.cell (p := ⟨b, off + k * 6 + 3, none⟩) hb] at c3
      rw [← hB.cell (p := ⟨b, off + k * 6 + 4, none⟩) hb] at c4
      rw [← hB.cell (p := ⟨b, off + k * 6 + 5, none⟩) hb] at c5
      clear hB
      have h1 : (0 : Int) ≤ (k : Int) := by omega
      have h2 : (k : Int) < (n : Int) := by omega
      have h3 : (k : Int) < 500 := by omega
      by_cases ha0 : ask = 0
      · subst ha0
        go_wp2_with fail
        have H := Lib.hid (H.out.add (.cells #[.int .i64 0, .int .i64 file, .int .i64 at_, .int .i64 byte, .bool odd, .int .i64 num] 28))
        clear c0 c1 c2 c3 c4 c5
        generalize wr.alloc (.cells #[.int .i64 0, .int .i64 file, .int .i64 at_, .int .i64 byte, .bool odd, .int .i64 num] 28) = w3 at H ⊢
        generalize wr.heap.size = bx at H ⊢
        have q1 : w3.cell? ⟨bx, 1, none⟩ = some (.int .i64 file) := H.out.cell (List.mem_singleton.2 rfl) 1
        have q2 : w3.cell? ⟨bx, 2, none⟩ = some (.int .i64 at_) := H.out.cell (List.mem_singleton.2 rfl) 2
        have q3 : w3.cell? ⟨bx, 3, none⟩ = some (.int .i64 byte) := H.out.cell (List.mem_singleton.2 rfl) 3
        have q4 : w3.cell? ⟨bx, 4, none⟩ = some (.bool odd) := H.out.cell (List.mem_singleton.2 rfl) 4
        obtain ⟨cw, s', hW⟩ : ∃ cw s', writeF s file at_ (fullB byte odd) = (cw, s') := ⟨_, _, rfl⟩
        have HW := Lib.hid hW
        clear hW
        have qc : (cw != cw) = false := by simp
        go_region_held3 (fun w' => w'.cell? ⟨bx, 1, none⟩ = some (.int .i64 file) ∧ w'.cell? ⟨bx, 2, none⟩ = some (.int .i64 at_) ∧ w'.cell? ⟨bx, 3, none⟩ = some (.int .i64 byte) ∧ w'.cell? ⟨bx, 4, none⟩ = some (.bool odd))
          (first
            | go_keep
            | (exact ⟨H.out.cell (List.mem_singleton.2 rfl) 1, H.out.cell (List.mem_singleton.2 rfl) 2, H.out.cell (List.mem_singleton.2 rfl) 3, H.out.cell (List.mem_singleton.2 rfl) 4⟩)
            | (exact ⟨H.out.drew.cell (List.mem_singleton.2 rfl) 1, H.out.drew.cell (List.mem_singleton.2 rfl) 2, H.out.drew.cell (List.mem_singleton.2 rfl) 3, H.out.drew.cell (List.mem_singleton.2 rfl) 4⟩))
          (first
            | (go_at_call 10; (with_reducible refine (fullK (by first | exact H.out | exact H.out.drew) _ _).mono ?_); rintro e w4 ⟨rfl, hj⟩; have H := Lib.hid hj; clear hj)
            | (go_at_call 9; (with_reducible refine (writeK (by first | exact H.out | exact H.out.drew) (by omega) HO.out.file HO.out.at_ HW.out).mono ?_); rintro e w5 ⟨rfl, hj⟩; have H := Lib.hid hj; clear hj)
            | (go_at_call 11; (with_reducible refine (rwriteK (by first | exact H.out | exact H.out.drew) (by omega) HW.out).mono ?_); rintro e w6 ⟨rfl, hj⟩; have H := Lib.hid hj; clear hj))
        clear q1 q2 q3 q4 qc
        go_wp2_with fail
        have q1 : w6.cell? ⟨bx, 1, none⟩ = some (.int .i64 file) := H.out.cell (List.mem_singleton.2 rfl) 1
        go_region_held3 (fun w' => w'.cell? ⟨bx, 1, none⟩ = some (.int .i64 file))
          (first
            | go_keep
            | (exact H.out.cell (List.mem_singleton.2 rfl) 1)
            | (exact H.out.drew.cell (List.mem_singleton.2 rfl) 1))
          (first
            | (go_at_call 21; (with_reducible refine (filesK (by first | exact H.out | exact H.out.drew) (by omega)).mono ?_); rintro e wf ⟨A1, n1, cc1, l1, rfl, hl1, hn1, hr1, hm1, hrd1, hj⟩; have H := Lib.hid hj; have HL1 := Lib.hid hl1; have HS1 := Lib.hid (And.intro hr1 hm1); have HRD1 := Lib.hid hrd1; clear hj hl1 hr1 hm1 hrd1)
            | (go_at_call 22; (with_reducible refine (rfilesK (by first | exact H.out | exact H.out.drew) (by omega)).mono ?_); rintro e wg ⟨A2, n2, cc2, l2, rfl, hl2, hn2, hr2, hm2, hrd2, hbl, hj⟩; have H := Lib.hid hj; have HRD1 := Lib.hid ((HRD1.out.below hbl).mono hbl.size); have HL2 := Lib.hid hl2; have HRD2 := Lib.hid hrd2; have HEQ := Lib.hid (files_eq HS1.out.1 hr2 (fun y => (HS1.out.2 y).trans (hm2 y).symm)); clear hj hl2 hr2 hm2 hrd2 hbl)
            | (go_at_call 20; (with_reducible refine (ints_any A1 A2 n1 cc1 n2 cc2 l1 l2 _ HL1.out HL2.out (by omega) (by omega) HRD1.out HRD2.out).mono ?_); rw [decide_eq_true HEQ.out]; rintro e wi ⟨rfl, q, rfl⟩; have H := Lib.hid (H.out.drewN q))
            | (go_at_call 23; (with_reducible refine (sizeK (by first | exact H.out | exact H.out.drew) HO.out.file).mono ?_); rintro e ws ⟨r1, rfl, hz1, hj⟩; have H := Lib.hid hj; have HZ1 := Lib.hid hz1; clear hj hz1)
            | (go_at_call 24; (with_reducible refine (rsizeK (by first | exact H.out | exact H.out.drew) file (by omega)).mono ?_); rintro e wt ⟨⟨r2, rfl, hz2⟩, rfl⟩; obtain rfl := HZ1.out.unique hz2 (fun _ => rfl); clear hz2)
            | (go_at_call 25; (with_reducible refine (writesK (by first | exact H.out | exact H.out.drew)).mono ?_); rintro e wu ⟨rfl, rfl⟩)
            | (go_at_call 26; (with_reducible refine (rwritesK (by first | exact H.out | exact H.out.drew)).mono ?_); rintro e wv ⟨rfl, rfl⟩))
        clear q1
        go_wp2_with fail
        go_roundw
        case rel => exact ⟨k + 1, by omega, by omega, by go_num, Lib.hid ⟨_, H.out.bare.mono (by omega) (by omega)⟩⟩
        case measure => simp [RowKit.intOf]; omega
      · by_cases ha1 : ask = 1
        · subst ha1
          go_wp2_with fail
          have H := Lib.hid (H.out.add (.cells #[.int .i64 1, .int .i64 file, .int .i64 at_, .int .i64 byte, .bool odd, .int .i64 num] 28))
          clear c0 c1 c2 c3 c4 c5
          generalize wr.alloc (.cells #[.int .i64 1, .int .i64 file, .int .i64 at_, .int .i64 byte, .bool odd, .int .i64 num] 28) = w3 at H ⊢
          generalize wr.heap.size = bx at H ⊢
          have q1 : w3.cell? ⟨bx, 1, none⟩ = some (.int .i64 file) := H.out.cell (List.mem_singleton.2 rfl) 1
          obtain ⟨cw, s', hW⟩ : ∃ cw s', removeF s file = (cw, s') := ⟨_, _, rfl⟩
          have HW := Lib.hid hW
          clear hW
          have qc : (cw != cw) = false := by simp
          go_region_held3 (fun w' => w'.cell? ⟨bx, 1, none⟩ = some (.int .i64 file))
            (first
              | go_keep
              | (exact H.out.cell (List.mem_singleton.2 rfl) 1)
              | (exact H.out.drew.cell (List.mem_singleton.2 rfl) 1))
            (first
              | (go_at_call 12; (with_reducible refine (removeK (by first | exact H.out | exact H.out.drew) (by omega) HO.out.file HW.out).mono ?_); rintro e w5 ⟨rfl, hj⟩; have H := Lib.hid hj; clear hj)
              | (go_at_call 13; (with_reducible refine (rremoveK (by first | exact H.out | exact H.out.drew) (by omega) HW.out).mono ?_); rintro e w6 ⟨rfl, hj⟩; have H := Lib.hid hj; clear hj))
          clear q1 qc
          go_wp2_with fail
          have q1 : w6.cell? ⟨bx, 1, none⟩ = some (.int .i64 file) := H.out.cell (List.mem_singleton.2 rfl) 1
          go_region_held3 (fun w' => w'.cell? ⟨bx, 1, none⟩ = some (.int .i64 file))
            (first
              | go_keep
              | (exact H.out.cell (List.mem_singleton.2 rfl) 1)
              | (exact H.out.drew.cell (List.mem_singleton.2 rfl) 1))
            (first
              | (go_at_call 21; (with_reducible refine (filesK (by first | exact H.out | exact H.out.drew) (by omega)).mono ?_); rintro e wf ⟨A1, n1, cc1, l1, rfl, hl1, hn1, hr1, hm1, hrd1, hj⟩; have H := Lib.hid hj; have HL1 := Lib.hid hl1; have HS1 := Lib.hid (And.intro hr1 hm1); have HRD1 := Lib.hid hrd1; clear hj hl1 hr1 hm1 hrd1)
              | (go_at_call 22; (with_reducible refine (rfilesK (by first | exact H.out | exact H.out.drew) (by omega)).mono ?_); rintro e wg ⟨A2, n2, cc2, l2, rfl, hl2, hn2, hr2, hm2, hrd2, hbl, hj⟩; have H := Lib.hid hj; have HRD1 := Lib.hid ((HRD1.out.below hbl).mono hbl.size); have HL2 := Lib.hid hl2; have HRD2 := Lib.hid hrd2; have HEQ := Lib.hid (files_eq HS1.out.1 hr2 (fun y => (HS1.out.2 y).trans (hm2 y).symm)); clear hj hl2 hr2 hm2 hrd2 hbl)
              | (go_at_call 20; (with_reducible refine (ints_any A1 A2 n1 cc1 n2 cc2 l1 l2 _ HL1.out HL2.out (by omega) (by omega) HRD1.out HRD2.out).mono ?_); rw [decide_eq_true HEQ.out]; rintro e wi ⟨rfl, q, rfl⟩; have H := Lib.hid (H.out.drewN q))
              | (go_at_call 23; (with_reducible refine (sizeK (by first | exact H.out | exact H.out.drew) HO.out.file).mono ?_); rintro e ws ⟨r1, rfl, hz1, hj⟩; have H := Lib.hid hj; have HZ1 := Lib.hid hz1; clear hj hz1)
              | (go_at_call 24; (with_reducible refine (rsizeK (by first | exact H.out | exact H.out.drew) file (by omega)).mono ?_); rintro e wt ⟨⟨r2, rfl, hz2⟩, rfl⟩; obtain rfl := HZ1.out.unique hz2 (fun _ => rfl); clear hz2)
              | (go_at_call 25; (with_reducible refine (writesK (by first | exact H.out | exact H.out.drew)).mono ?_); rintro e wu ⟨rfl, rfl⟩)
              | (go_at_call 26; (with_reducible refine (rwritesK (by first | exact H.out | exact H.out.drew)).mono ?_); rintro e wv ⟨rfl, rfl⟩))
          clear q1
          go_wp2_with fail
          go_roundw
          case rel => exact ⟨k + 1, by omega, by omega, by go_num, Lib.hid ⟨_, H.out.bare.mono (by omega) (by omega)⟩⟩
          case measure => simp [RowKit.intOf]; omega
        · by_cases ha2 : ask = 2
          · subst ha2
            go_wp2_with fail
            have H := Lib.hid (H.out.add (.cells #[.int .i64 2, .int .i64 file, .int .i64 at_, .int .i64 byte, .bool odd, .int .i64 num] 28))
            clear c0 c1 c2 c3 c4 c5
            generalize wr.alloc (.cells #[.int .i64 2, .int .i64 file, .int .i64 at_, .int .i64 byte, .bool odd, .int .i64 num] 28) = w3 at H ⊢
            generalize wr.heap.size = bx at H ⊢
            obtain ⟨dw, cw, hW⟩ : ∃ dw cw, readF s file at_ = (dw, cw) := ⟨_, _, rfl⟩
            have HW := Lib.hid hW
            clear hW
            have qc : (cw != cw) = false := by simp
            have qd : (dw.toList == dw.toList) = true := beq_self_eq_true _
            refine (readK H.out HO.out.file HO.out.at_ HW.out).mono ?_
            rintro e w5 ⟨rfl, hj⟩
            have H := Lib.hid hj
            clear hj
            have q1 : w5.cell? ⟨bx, 1, none⟩ = some (.int .i64 file) := H.out.cell (List.mem_singleton.2 rfl) 1
            have q2 : w5.cell? ⟨bx, 2, none⟩ = some (.int .i64 at_) := H.out.cell (List.mem_singleton.2 rfl) 2
            go_wp2_with fail
            refine (rreadK H.out (by omega) HW.out).mono ?_
            rintro e w6 ⟨rfl, rfl⟩
            clear q1 q2
            go_wp2_with fail
            have q1 : w5.cell? ⟨bx, 1, none⟩ = some (.int .i64 file) := H.out.cell (List.mem_singleton.2 rfl) 1
            go_region_held3 (fun w' => w'.cell? ⟨bx, 1, none⟩ = some (.int .i64 file))
              (first
                | go_keep
                | (exact H.out.cell (List.mem_singleton.2 rfl) 1)
                | (exact H.out.drew.cell (List.mem_singleton.2 rfl) 1))
              (first
                | (go_at_call 21; (with_reducible refine (filesK (by first | exact H.out | exact H.out.drew) (by omega)).mono ?_); rintro e wf ⟨A1, n1, cc1, l1, rfl, hl1, hn1, hr1, hm1, hrd1, hj⟩; have H := Lib.hid hj; have HL1 := Lib.hid hl1; have HS1 := Lib.hid (And.intro hr1 hm1); have HRD1 := Lib.hid hrd1; clear hj hl1 hr1 hm1 hrd1)
                | (go_at_call 22; (with_reducible refine (rfilesK (by first | exact H.out | exact H.out.drew) (by omega)).mono ?_); rintro e wg ⟨A2, n2, cc2, l2, rfl, hl2, hn2, hr2, hm2, hrd2, hbl, hj⟩; have H := Lib.hid hj; have HRD1 := Lib.hid ((HRD1.out.below hbl).mono hbl.size); have HL2 := Lib.hid hl2; have HRD2 := Lib.hid hrd2; have HEQ := Lib.hid (files_eq HS1.out.1 hr2 (fun y => (HS1.out.2 y).trans (hm2 y).symm)); clear hj hl2 hr2 hm2 hrd2 hbl)
                | (go_at_call 20; (with_reducible refine (ints_any A1 A2 n1 cc1 n2 cc2 l1 l2 _ HL1.out HL2.out (by omega) (by omega) HRD1.out HRD2.out).mono ?_); rw [decide_eq_true HEQ.out]; rintro e wi ⟨rfl, q, rfl⟩; have H := Lib.hid (H.out.drewN q))
                | (go_at_call 23; (with_reducible refine (sizeK (by first | exact H.out | exact H.out.drew) HO.out.file).mono ?_); rintro e ws ⟨r1, rfl, hz1, hj⟩; have H := Lib.hid hj; have HZ1 := Lib.hid hz1; clear hj hz1)
                | (go_at_call 24; (with_reducible refine (rsizeK (by first | exact H.out | exact H.out.drew) file (by omega)).mono ?_); rintro e wt ⟨⟨r2, rfl, hz2⟩, rfl⟩; obtain rfl := HZ1.out.unique hz2 (fun _ => rfl); clear hz2)
                | (go_at_call 25; (with_reducible refine (writesK (by first | exact H.out | exact H.out.drew)).mono ?_); rintro e wu ⟨rfl, rfl⟩)
                | (go_at_call 26; (with_reducible refine (rwritesK (by first | exact H.out | exact H.out.drew)).mono ?_); rintro e wv ⟨rfl, rfl⟩))
            clear q1
            go_wp2_with fail
            go_roundw
            case rel => exact ⟨k + 1, by omega, by omega, by go_num, Lib.hid ⟨_, H.out.bare.mono (by omega) (by omega)⟩⟩
            case measure => simp [RowKit.intOf]; omega
          · by_cases ha3 : ask = 3
            · subst ha3
              go_wp2_with fail
              have H := Lib.hid (H.out.add (.cells #[.int .i64 3, .int .i64 file, .int .i64 at_, .int .i64 byte, .bool odd, .int .i64 num] 28))
              clear c0 c1 c2 c3 c4 c5
              generalize wr.alloc (.cells #[.int .i64 3, .int .i64 file, .int .i64 at_, .int .i64 byte, .bool odd, .int .i64 num] 28) = w3 at H ⊢
              generalize wr.heap.size = bx at H ⊢
              refine (armK H.out HO.out.num).mono ?_
              rintro e w5 ⟨rfl, hj⟩
              have H := Lib.hid hj
              clear hj
              have q5 : w5.cell? ⟨bx, 5, none⟩ = some (.int .i64 num) := H.out.cell (List.mem_singleton.2 rfl) 5
              go_wp2_with fail
              refine (rarmK H.out HO.out.num).mono ?_
              rintro e w6 ⟨rfl, hj⟩
              have H := Lib.hid hj
              clear hj q5
              go_wp2_with fail
              have q1 : w6.cell? ⟨bx, 1, none⟩ = some (.int .i64 file) := H.out.cell (List.mem_singleton.2 rfl) 1
              go_region_held3 (fun w' => w'.cell? ⟨bx, 1, none⟩ = some (.int .i64 file))
                (first
                  | go_keep
                  | (exact H.out.cell (List.mem_singleton.2 rfl) 1)
                  | (exact H.out.drew.cell (List.mem_singleton.2 rfl) 1))
                (first
                  | (go_at_call 21; (with_reducible refine (filesK (by first | exact H.out | exact H.out.drew) (by omega)).mono ?_); rintro e wf ⟨A1, n1, cc1, l1, rfl, hl1, hn1, hr1, hm1, hrd1, hj⟩; have H := Lib.hid hj; have HL1 := Lib.hid hl1; have HS1 := Lib.hid (And.intro hr1 hm1); have HRD1 := Lib.hid hrd1; clear hj hl1 hr1 hm1 hrd1)
                  | (go_at_call 22; (with_reducible refine (rfilesK (by first | exact H.out | exact H.out.drew) (by omega)).mono ?_); rintro e wg ⟨A2, n2, cc2, l2, rfl, hl2, hn2, hr2, hm2, hrd2, hbl, hj⟩; have H := Lib.hid hj; have HRD1 := Lib.hid ((HRD1.out.below hbl).mono hbl.size); have HL2 := Lib.hid hl2; have HRD2 := Lib.hid hrd2; have HEQ := Lib.hid (files_eq HS1.out.1 hr2 (fun y => (HS1.out.2 y).trans (hm2 y).symm)); clear hj hl2 hr2 hm2 hrd2 hbl)
                  | (go_at_call 20; (with_reducible refine (ints_any A1 A2 n1 cc1 n2 cc2 l1 l2 _ HL1.out HL2.out (by omega) (by omega) HRD1.out HRD2.out).mono ?_); rw [decide_eq_true HEQ.out]; rintro e wi ⟨rfl, q, rfl⟩; have H := Lib.hid (H.out.drewN q))
                  | (go_at_call 23; (with_reducible refine (sizeK (by first | exact H.out | exact H.out.drew) HO.out.file).mono ?_); rintro e ws ⟨r1, rfl, hz1, hj⟩; have H := Lib.hid hj; have HZ1 := Lib.hid hz1; clear hj hz1)
                  | (go_at_call 24; (with_reducible refine (rsizeK (by first | exact H.out | exact H.out.drew) file (by omega)).mono ?_); rintro e wt ⟨⟨r2, rfl, hz2⟩, rfl⟩; obtain rfl := HZ1.out.unique hz2 (fun _ => rfl); clear hz2)
                  | (go_at_call 25; (with_reducible refine (writesK (by first | exact H.out | exact H.out.drew)).mono ?_); rintro e wu ⟨rfl, rfl⟩)
                  | (go_at_call 26; (with_reducible refine (rwritesK (by first | exact H.out | exact H.out.drew)).mono ?_); rintro e wv ⟨rfl, rfl⟩))
              clear q1
              go_wp2_with fail
              go_roundw
              case rel => exact ⟨k + 1, by omega, by omega, by go_num, Lib.hid ⟨_, H.out.bare.mono (by omega) (by omega)⟩⟩
              case measure => simp [RowKit.intOf]; omega
            · by_cases ha4 : ask = 4
              · subst ha4
                go_wp2_with fail
                have H := Lib.hid (H.out.add (.cells #[.int .i64 4, .int .i64 file, .int .i64 at_, .int .i64 byte, .bool odd, .int .i64 num] 28))
                clear c0 c1 c2 c3 c4 c5
                generalize wr.alloc (.cells #[.int .i64 4, .int .i64 file, .int .i64 at_, .int .i64 byte, .bool odd, .int .i64 num] 28) = w3 at H ⊢
                generalize wr.heap.size = bx at H ⊢
                refine (onK H.out).mono ?_
                rintro e w5 ⟨rfl, hj⟩
                have H := Lib.hid hj
                clear hj
                go_wp2_with fail
                refine (ronK H.out).mono ?_
                rintro e w6 ⟨rfl, hj⟩
                have H := Lib.hid hj
                clear hj
                go_wp2_with fail
                have q1 : w6.cell? ⟨bx, 1, none⟩ = some (.int .i64 file) := H.out.cell (List.mem_singleton.2 rfl) 1
                go_region_held3 (fun w' => w'.cell? ⟨bx, 1, none⟩ = some (.int .i64 file))
                  (first
                    | go_keep
                    | (exact H.out.cell (List.mem_singleton.2 rfl) 1)
                    | (exact H.out.drew.cell (List.mem_singleton.2 rfl) 1))
                  (first
                    | (go_at_call 21; (with_reducible refine (filesK (by first | exact H.out | exact H.out.drew) (by omega)).mono ?_); rintro e wf ⟨A1, n1, cc1, l1, rfl, hl1, hn1, hr1, hm1, hrd1, hj⟩; have H := Lib.hid hj; have HL1 := Lib.hid hl1; have HS1 := Lib.hid (And.intro hr1 hm1); have HRD1 := Lib.hid hrd1; clear hj hl1 hr1 hm1 hrd1)
                    | (go_at_call 22; (with_reducible refine (rfilesK (by first | exact H.out | exact H.out.drew) (by omega)).mono ?_); rintro e wg ⟨A2, n2, cc2, l2, rfl, hl2, hn2, hr2, hm2, hrd2, hbl, hj⟩; have H := Lib.hid hj; have HRD1 := Lib.hid ((HRD1.out.below hbl).mono hbl.size); have HL2 := Lib.hid hl2; have HRD2 := Lib.hid hrd2; have HEQ := Lib.hid (files_eq HS1.out.1 hr2 (fun y => (HS1.out.2 y).trans (hm2 y).symm)); clear hj hl2 hr2 hm2 hrd2 hbl)
                    | (go_at_call 20; (with_reducible refine (ints_any A1 A2 n1 cc1 n2 cc2 l1 l2 _ HL1.out HL2.out (by omega) (by omega) HRD1.out HRD2.out).mono ?_); rw [decide_eq_true HEQ.out]; rintro e wi ⟨rfl, q, rfl⟩; have H := Lib.hid (H.out.drewN q))
                    | (go_at_call 23; (with_reducible refine (sizeK (by first | exact H.out | exact H.out.drew) HO.out.file).mono ?_); rintro e ws ⟨r1, rfl, hz1, hj⟩; have H := Lib.hid hj; have HZ1 := Lib.hid hz1; clear hj hz1)
                    | (go_at_call 24; (with_reducible refine (rsizeK (by first | exact H.out | exact H.out.drew) file (by omega)).mono ?_); rintro e wt ⟨⟨r2, rfl, hz2⟩, rfl⟩; obtain rfl := HZ1.out.unique hz2 (fun _ => rfl); clear hz2)
                    | (go_at_call 25; (with_reducible refine (writesK (by first | exact H.out | exact H.out.drew)).mono ?_); rintro e wu ⟨rfl, rfl⟩)
                    | (go_at_call 26; (with_reducible refine (rwritesK (by first | exact H.out | exact H.out.drew)).mono ?_); rintro e wv ⟨rfl, rfl⟩))
                clear q1
                go_wp2_with fail
                go_roundw
                case rel => exact ⟨k + 1, by omega, by omega, by go_num, Lib.hid ⟨_, H.out.bare.mono (by omega) (by omega)⟩⟩
                case measure => simp [RowKit.intOf]; omega
              · have e0 : (ask == 0) = false := by simp [ha0]
                have e1 : (ask == 1) = false := by simp [ha1]
                have e2 : (ask == 2) = false := by simp [ha2]
                have e3 : (ask == 3) = false := by simp [ha3]
                have e4 : (ask == 4) = false := by simp [ha4]
                clear ha0 ha1 ha2 ha3 ha4
                go_wp2_with fail
                have H := Lib.hid (H.out.add (.cells #[.int .i64 ask, .int .i64 file, .int .i64 at_, .int .i64 byte, .bool odd, .int .i64 num] 28))
                clear c0 c1 c2 c3 c4 c5
                generalize wr.alloc (.cells #[.int .i64 ask, .int .i64 file, .int .i64 at_, .int .i64 byte, .bool odd, .int .i64 num] 28) = w3 at H ⊢
                generalize wr.heap.size = bx at H ⊢
                have q1 : w3.cell? ⟨bx, 1, none⟩ = some (.int .i64 file) := H.out.cell (List.mem_singleton.2 rfl) 1
                go_region_held3 (fun w' => w'.cell? ⟨bx, 1, none⟩ = some (.int .i64 file))
                  (first
                    | go_keep
                    | (exact H.out.cell (List.mem_singleton.2 rfl) 1)
                    | (exact H.out.drew.cell (List.mem_singleton.2 rfl) 1))
                  (first
                    | (go_at_call 21; (with_reducible refine (filesK (by first | exact H.out | exact H.out.drew) (by omega)).mono ?_); rintro e wf ⟨A1, n1, cc1, l1, rfl, hl1, hn1, hr1, hm1, hrd1, hj⟩; have H := Lib.hid hj; have HL1 := Lib.hid hl1; have HS1 := Lib.hid (And.intro hr1 hm1); have HRD1 := Lib.hid hrd1; clear hj hl1 hr1 hm1 hrd1)
                    | (go_at_call 22; (with_reducible refine (rfilesK (by first | exact H.out | exact H.out.drew) (by omega)).mono ?_); rintro e wg ⟨A2, n2, cc2, l2, rfl, hl2, hn2, hr2, hm2, hrd2, hbl, hj⟩; have H := Lib.hid hj; have HRD1 := Lib.hid ((HRD1.out.below hbl).mono hbl.size); have HL2 := Lib.hid hl2; have HRD2 := Lib.hid hrd2; have HEQ := Lib.hid (files_eq HS1.out.1 hr2 (fun y => (HS1.out.2 y).trans (hm2 y).symm)); clear hj hl2 hr2 hm2 hrd2 hbl)
                    | (go_at_call 20; (with_reducible refine (ints_any A1 A2 n1 cc1 n2 cc2 l1 l2 _ HL1.out HL2.out (by omega) (by omega) HRD1.out HRD2.out).mono ?_); rw [decide_eq_true HEQ.out]; rintro e wi ⟨rfl, q, rfl⟩; have H := Lib.hid (H.out.drewN q))
                    | (go_at_call 23; (with_reducible refine (sizeK (by first | exact H.out | exact H.out.drew) HO.out.file).mono ?_); rintro e ws ⟨r1, rfl, hz1, hj⟩; have H := Lib.hid hj; have HZ1 := Lib.hid hz1; clear hj hz1)
                    | (go_at_call 24; (with_reducible refine (rsizeK (by first | exact H.out | exact H.out.drew) file (by omega)).mono ?_); rintro e wt ⟨⟨r2, rfl, hz2⟩, rfl⟩; obtain rfl := HZ1.out.unique hz2 (fun _ => rfl); clear hz2)
                    | (go_at_call 25; (with_reducible refine (writesK (by first | exact H.out | exact H.out.drew)).mono ?_); rintro e wu ⟨rfl, rfl⟩)
                    | (go_at_call 26; (with_reducible refine (rwritesK (by first | exact H.out | exact H.out.drew)).mono ?_); rintro e wv ⟨rfl, rfl⟩))
                clear q1
                go_wp2_with fail
                go_roundw
                case rel => exact ⟨k + 1, by omega, by omega, by go_num, Lib.hid ⟨_, H.out.bare.mono (by omega) (by omega)⟩⟩
                case measure => simp [RowKit.intOf]; omega
    · have hy : (¬ k < n ∧ k ≤ 500) ∨ (k < n ∧ k = 500) := by omega
      clear hlt
      rcases hy with ⟨hy, hy2⟩ | ⟨hy, rfl⟩
      all_goals
        go_wp2_with fail
        refine (awake_any _).mono ?_
        rintro e w6 ⟨rfl, hb⟩
        have HB := Lib.hid (H.out.fst.trans (hb.mono H.out.fst.size))
        clear hb
        go_wp2_with fail
        go_ret
        exact ⟨rfl, HB.out⟩
end Go.Proofs.Ytfankhahpnlcfaa.mediaPlays
