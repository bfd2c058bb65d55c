/-
  The walk of LogsLasts, over the log's contracts.
-/
import Derived.Test.YtcmeaeemjecjiaaLAwake
import Derived.StillTailTactics
import Derived.Deep.CutRange
import Derived.BigQuiet
import Derived.Deep.QuietTactic
namespace Go.Proofs.Ytcmeaeemjecjiaa.logsLasts
open Go.RowKit Go.Maps
open Fm (sc)

theorem below_drewN_refl (w : World) (q : Nat) : Below w.heap.size w (w.drewN q) := ⟨rfl, rfl, rfl, Nat.le_refl _, fun _ _ => rfl⟩
theorem tmod12 (c : Int) : -12 < c.tmod 12 ∧ c.tmod 12 < 12 := by
  cases c with
  | ofNat n =>
    have : (Int.ofNat n).tmod 12 = ((n % 12 : Nat) : Int) := rfl
    rw [this]
    omega
  | negSucc n =>
    have : (Int.negSucc n).tmod 12 = -(((n + 1) % 12 : Nat) : Int) := rfl
    rw [this]
    omega

set_option maxRecDepth 100000 in
set_option maxHeartbeats 6400000 in
theorem walk_of {LO : Own} (C : Cons LO) (awk : ∀ w, Calls Try.prog 14 #[] w fun e w' => e = .returned (.bool true) ∧ Below w.heap.size w w')
    (Ap : Option Addr) (np cp : Nat) (l : List (Int × Int)) (Ac : Option Addr) (nc cc : Nat) (cuts : List Int) (w : World) (hnp : np = l.length) (hup : np ≤ 140737488351232) (hrp : Rd w w.heap.size Ap (pz l)) (hnc : nc = cuts.length) (huc : nc ≤ 140737488351232) (hrc : Rd w w.heap.size Ac (cuts.map (Value.int .i64))) :
    Calls Try.prog 3 #[.slice Ap np cp, .slice Ac nc cc] w fun e w' => e = .returned (.bool true) ∧ Below w.heap.size w w' := by
  obtain ⟨i0, hi0, hz0, hz1, hz2⟩ := info_parts Fm.infoS
  have HNP := Lib.hid hnp
  have HRP := Lib.hid hrp
  have HNC := Lib.hid hnc
  have HRC := Lib.hid hrc
  have HUC := Lib.hid huc
  clear hnp hrp hnc hrc huc
  go_enter Try.func3, Try.ntmps3
  go_wp2_with fail
  refine (newX w).mono ?_
  rintro e w1 ⟨X0, rfl, hm, hX0, hb0⟩
  have HM := Lib.hid hm
  have HX0 := Lib.hid hX0
  have HB0 := Lib.hid hb0
  clear hm hX0 hb0
  go_wp2_with fail
  refine (C.open_ HM.out rfl (Pl.Inv.empty : Pl.Inv (mdT St.new) 2 1 [] []) (by omega) (by simp [Pl.cnt]) (by simp)).mono ?_
  rintro e w2 ⟨X1, bl, A7, m7, c7, rfl, hm7, _, _, hl1, hb1, hX1⟩
  have hJ : JL LO w w2 X1 (w.heap.size + 1) bl 0 St.new 2 1 [] [] [] (.slice none 0 0) := ⟨hl1, fun k hk => (hX1 k hk).elim (HX0.out k) (fun h => Nat.le_trans HB0.out.size h), HB0.out.trans (hb1.mono HB0.out.size), World.ownsRow_nil _ _ _ _, fun g hg => by simp [Value.ownBlock] at hg⟩
  have HJ := Lib.hid hJ
  have hm70 : ((m7 : Int) != 0) = false := by rw [hm7]; rfl
  clear hm7 hl1 hb1 hX1 hJ HM HX0 HB0
  go_wp2_with fail
  go_loopw [6, 9, 10, 11, 12] (fun v6 v9 v10 v11 v12 wr => ∃ (i bl : Nat) (all : List ByteArray) (tr : Int), i ≤ np ∧ i ≤ 100 ∧ v6 = .pointer (some ⟨bl, 0, none⟩) ∧ v10 = .int .i64 (all.length : Int) ∧ v11 = .int .i64 tr ∧ v12 = .int .i64 (i : Int) ∧
      Hid (∃ n s lo nn pre cur X, s.off = false ∧ s.armed = false ∧ JL LO w wr X (w.heap.size + 1) bl n s lo nn pre cur all v9 ∧ JF i n lo nn pre cur all tr)) (fun _ _ _ _ v12 _ => 100 - (RowKit.intOf v12).toNat)
  case atStart => exact ⟨0, bl, [], 0, by omega, by omega, rfl, rfl, rfl, rfl, Lib.hid ⟨0, St.new, 2, 1, [], [], X1, rfl, rfl, HJ.out, ⟨rfl, rfl, by omega, by omega, by omega, by omega, by simp, by omega, by omega, by simp⟩⟩⟩
  case round =>
    obtain ⟨i, bl, all, tr, hi, hi100, rfl, rfl, rfl, rfl, HH⟩ := hrel
    by_cases hlt : i < np
    · by_cases hlt2 : i < 100
      · have hil : i < l.length := by rw [← HNP.out]; exact hlt
        obtain ⟨n, s, lo, nn, pre, cur, X, hoff, harm, hJ, hF⟩ := HH.out
        obtain ⟨A9, c9, rfl, _⟩ := Fm.own_form hJ.own
        obtain ⟨bp, op, rfl, hbp, hc0, hc1⟩ := HRP.out.pz_at hil
        replace hc0 := (hJ.bel.cell (p := ⟨bp, op + i * 2, none⟩) hbp).trans hc0
        replace hc1 := (hJ.bel.cell (p := ⟨bp, op + i * 2 + 1, none⟩) hbp).trans hc1
        generalize l[i].1 = y0 at hc0
        generalize l[i].2 = y1 at hc1
        have HJ := Lib.hid hJ
        have HJW := HJ
        have HF := Lib.hid hF
        clear hJ hF HH hil
        by_cases hnc0 : 0 < nc
        · by_cases h3 : i % 3 = 2
          · have f1 : ((i : Int) % 3 == 2) = true := by rw [beq_iff_eq]; omega
            have hjc : i % nc < cuts.length := by rw [← HNC.out]; exact Nat.mod_lt _ hnc0
            obtain ⟨bc, oc, rfl, hbc, hcc⟩ := HRC.out.int_at hjc
            have hcv := (HJ.out.bel.cell (p := ⟨bc, oc + i % nc, none⟩) hbc).trans (hcc (i % nc) hjc)
            generalize cuts[i % nc] = c0 at hcv
            clear hcc hjc
            have t1 := tmod12 c0
            have hb1 : (0 : Int) ≤ (i : Int) % (nc : Int) := Int.emod_nonneg _ (by omega)
            have hb2 : (i : Int) % (nc : Int) < (nc : Int) := Int.emod_lt_of_pos _ (by omega)
            go_wp2_with fail
            refine (armL C HJ.out.lm _ (by constructor <;> omega)).mono ?_
            rintro e w4 ⟨rfl, hl4, ho4⟩
            have HJ := Lib.hid (HJ.out.step ho4 (fun k hk => .inl hk) hl4)
            replace hc0 := (HJ.out.bel.cell (p := ⟨bp, op + i * 2, none⟩) hbp).trans ((HJW.out.bel.cell (p := ⟨bp, op + i * 2, none⟩) hbp).symm.trans hc0)
            replace hc1 := (HJ.out.bel.cell (p := ⟨bp, op + i * 2 + 1, none⟩) hbp).trans ((HJW.out.bel.cell (p := ⟨bp, op + i * 2 + 1, none⟩) hbp).symm.trans hc1)
            have hs1off : (armF s (c0.tmod 12)).off = false := hoff
            clear hl4 ho4 hcv hb1 hb2 t1 HJW
            generalize armF s (c0.tmod 12) = s1 at HJ hs1off
            go_upto_if 75 with fail
            go_cut [6, 9, 10, 11, 14, 15] from 41 to 143 (fun v6 v9 v10 v11 v14 v15 wx => ∃ (bl : Nat) (lst : List ByteArray) (c9 : Nat) (A9 : Option Addr) (tr : Int) (dm : ByteArray) (am : Bool), v14 = .string dm ∧ v15 = .bool am ∧ v6 = .pointer (some ⟨bl, 0, none⟩) ∧ v9 = .slice A9 lst.length c9 ∧ v10 = .int .i64 (lst.length : Int) ∧ v11 = .int .i64 tr ∧
              Hid (∃ n s lo nn pre cur X, JM w wx X (w.heap.size + 1) n s lo nn pre cur lst (.slice A9 lst.length c9) ∧ JF (i + 1) n lo nn pre cur lst tr))
            case first =>
              as_aux_lemma =>
              by_cases hy0 : 0 ≤ y0
              · go_wp2_with fail
                go_still_tail 10, (by kernel_rfl)
                change wpList _ _ _ _ _ (World.drew _)
                have HJ := Lib.hid (show JL LO w (World.drew _) X (w.heap.size + 1) bl n s1 lo nn pre cur all _ from HJ.out.below C (World.drew_below _))
                go_wp2_with fail
                refine (fill_any y0 y1 _).mono ?_
                rintro e w5 ⟨d, hd5, rfl, hb5⟩
                have HJ := Lib.hid (HJ.out.below C hb5)
                clear hb5
                have k1 := HF.out.len
                have k2 := HF.out.capA
                have k3 := HF.out.capN
                have k4 := HF.out.lo1
                have k5 := HF.out.pl
                go_wp2_with fail
                refine (C.append HJ.out.lm hs1off (by omega) (by omega) (by omega) d).mono ?_
                rintro e w6 ⟨ho6, X6, hX6, (⟨hd, rfl, hl6⟩ | ⟨hd, s', pre', cur', rfl, hfl, hs1, hs2, hl6, _⟩ | ⟨hd, hs1, s', rfl, hm6, hi6⟩)⟩
                · have g1 : decide ((440 : Int) < (d.size : Int)) = true := decide_eq_true (by omega)
                  have J6 := Lib.hid (HJ.out.step ho6 hX6 hl6)
                  clear ho6 hX6 hl6 HJ
                  go_wp2_with fail
                  refine (onL C J6.out.lm).mono ?_
                  rintro e w7 ⟨rfl, hl7, ho7⟩
                  have J7 := Lib.hid (J6.out.step ho7 (fun k hk => .inl hk) hl7)
                  have F7 := Lib.hid (HF.out.next (n' := n) (by omega))
                  clear hl7 ho7
                  go_wp2_with fail
                  go_roundw
                  case rel =>
                    first
                      | exact ⟨i + 1, bl, all, tr, by omega, by omega, rfl, by go_num, rfl, by go_num, Lib.hid ⟨n, (onF s1), lo, nn, pre, cur, X6, rfl, rfl, J7.out, F7.out⟩⟩
                      | ((repeat apply Exists.intro); exact ⟨⟨i + 1, bl, all, tr, by omega, by omega, rfl, by go_num, rfl, by go_num, Lib.hid ⟨n, (onF s1), lo, nn, pre, cur, X6, rfl, rfl, J7.out, F7.out⟩⟩, rfl⟩)
                      | (rw [show ((i : Int) + 1) = ((i + 1 : Nat) : Int) from rfl]; first | exact ⟨i + 1, bl, all, tr, by omega, by omega, rfl, by go_num, rfl, by go_num, Lib.hid ⟨n, (onF s1), lo, nn, pre, cur, X6, rfl, rfl, J7.out, F7.out⟩⟩ | ((repeat apply Exists.intro); exact ⟨⟨i + 1, bl, all, tr, by omega, by omega, rfl, by go_num, rfl, by go_num, Lib.hid ⟨n, (onF s1), lo, nn, pre, cur, X6, rfl, rfl, J7.out, F7.out⟩⟩, rfl⟩))
                  case measure => simp [RowKit.intOf]; omega
                · have hk : ((nn + Pl.cnt pre + cur.length : Nat) : Int) = (all.length : Int) + 1 := by omega
                  clear k1
                  rw [hk]
                  have bk : ((all.length : Int) + 1 != (all.length : Int) + 1) = false := bne_self_eq_false _
                  have J6 := Lib.hid (HJ.out.step ho6 hX6 hl6)
                  have F6 := Lib.hid (HF.out.app hfl (Full.len (hl6.med).choose_spec.2.2.full))
                  have JA := Lib.hid (J6.out.below C ((Below.refl w6.heap.size w6).alloc (Nat.le_refl _) (.cells #[.string d] 9)))
                  have HOFF := Lib.hid hs1
                  have HARM := Lib.hid hs2
                  clear ho6 hX6 hl6 hfl hk hs1 hs2 HJ
                  go_wp2_with (first
                    | (at_builtin; refine wpList_append_own_at _ rfl (.tmp 100) (.tmp 102) 31 rfl w.heap.size 9 i0 _ 1 16 Try.underlying31 hi0 hz0 hz1 hz2 rfl (by decide) _ _ _ rfl JA.out.own ⟨w6.heap.size, 0, none⟩ 1 1 [.string d] rfl rfl ?c1 ?c2 ?c3 ?c4 ?c5 ?_)
                    | fail)
                  case c1 =>
                    intro j u hj
                    match j, hj with
                    | 0, hj => simp at hj; subst hj; simp [Addr.add]
                  case c2 => intro u hu; simp at hu; subst hu; rfl
                  case c3 => simp only [maxLen]; omega
                  case c4 => omega
                  case c5 => exact JA.out.bel.size
                  intro v' w7 hown' hgrow _ hwhere
                  have J7 := Lib.hid (JA.out.more C hgrow hown' (fun g hg => by
                    rcases hwhere with hw | hw
                    · rw [hw] at hg; exact .inl hg
                    · rw [hw] at hg; injection hg with hg; right; rw [← hg]; simp))
                  clear hown' hgrow hwhere bk J6 JA
                  obtain ⟨Y7, J7m⟩ := J7.out.med
                  obtain ⟨A9', c9', rfl, _⟩ := Fm.own_form J7m.own
                  have J7m := Lib.hid J7m
                  have hl1 : (all.length : Int) + 1 = ((all ++ [d]).length : Int) := by simp
                  rw [hl1]
                  clear J7 hl1
                  generalize all ++ [d] = lst at J7m F6 ⊢
                  go_wp2_with fail
                  go_meet
                  case rel => exact ⟨bl, lst, c9', A9', tr, _, _, rfl, rfl, rfl, rfl, rfl, rfl, Lib.hid ⟨_, s', lo, nn, pre', cur', Y7, J7m.out, F6.out⟩⟩
                · have J6 := Lib.hid (HJ.out.stepM ho6 hX6 hm6 hi6)
                  have F6 := Lib.hid (HF.out.next (n' := n + 8) (by omega))
                  clear ho6 hX6 hm6 hi6 HJ
                  go_wp2_with fail
                  go_meet
                  case rel => exact ⟨bl, all, c9, A9, tr, _, _, rfl, rfl, rfl, rfl, rfl, rfl, Lib.hid ⟨_, s', lo, nn, pre, cur, X6, J6.out, F6.out⟩⟩
              · have k1 := HF.out.len
                have k2 := HF.out.capA
                have k3 := HF.out.capN
                have k4 := HF.out.lo1
                have k5 := HF.out.pl
                go_wp2_with fail
                have hzz : Wf ((all.length : Int) + max y0 (-9)) := by constructor <;> omega
                refine (C.trim HJ.out.lm hs1off (by omega) (by omega) (by omega) (by omega) _ hzz).mono ?_
                rintro e w6 ⟨ho6, X6, j, s', hX6, hj, hz, (⟨rfl, hs1, hs2, hl6, _⟩ | ⟨rfl, hs1, hm6, hi6⟩)⟩
                · have hq := Full.take (HJ.out.lm.med.choose_spec.2.2.full) j hj
                  have F6 := Lib.hid (HF.out.trim hj hz (by omega) (Full.len ((hl6.med).choose_spec.2.2.full)) hq)
                  have J6 := Lib.hid (HJ.out.step ho6 hX6 hl6)
                  have HOFF := Lib.hid hs1
                  have HARM := Lib.hid hs2
                  clear ho6 hX6 hl6 hs1 hs2 HJ hj hz hq
                  obtain ⟨Y7, J7m⟩ := J6.out.med
                  have J7m := Lib.hid J7m
                  clear J6
                  go_wp2_with fail
                  go_meet
                  case rel => exact ⟨bl, all, c9, A9, _, _, _, rfl, rfl, rfl, rfl, rfl, rfl, Lib.hid ⟨_, s', _, _, (pre.drop j), cur, Y7, J7m.out, F6.out⟩⟩
                · have hq := Full.take (HJ.out.lm.med.choose_spec.2.2.full) j hj
                  have F6 := Lib.hid (HF.out.trim hj hz (by omega) (Full.len (hi6.full)) hq)
                  have J6 := Lib.hid (HJ.out.stepM ho6 hX6 hm6 hi6)
                  clear ho6 hX6 hm6 hi6 HJ hj hz hq
                  go_wp2_with fail
                  go_meet
                  case rel => exact ⟨bl, all, c9, A9, _, _, _, rfl, rfl, rfl, rfl, rfl, rfl, Lib.hid ⟨_, s', _, _, (pre.drop j), cur, X6, J6.out, F6.out⟩⟩
            case rest =>
              obtain ⟨bl2, lst, c9', A9', tr2, dm, am, rfl, rfl, rfl, rfl, rfl, rfl, HC⟩ := hcut
              obtain ⟨n2, s2, lo2, nn2, pre2, cur2, X2, JMm, FF⟩ := HC.out
              have J7m := Lib.hid JMm
              have F6 := Lib.hid FF
              clear HC JMm FF
              as_aux_lemma =>
                go_wp2_with fail
                refine (onX X2 (w.heap.size + 1) _ s2 _ J7m.out.m).mono ?_
                rintro e w8 ⟨rfl, hm8, ho8⟩
                have J8 := Lib.hid (J7m.out.step ho8 hm8 rfl)
                clear hm8 ho8
                have k1 := F6.out.len
                have k2 := F6.out.capA
                have k3 := F6.out.capN
                have k4 := F6.out.lo1
                have k5 := F6.out.pl
                have k6 := F6.out.n1
                have k7 := F6.out.tr2
                have k8 := F6.out.all_
                have K1 := Lib.hid k1
                have hbare : Hid (Pl.cnt (pre2) + (cur2).length = 0 → nn2 = 1) := Lib.hid (fun h0 => (J8.out.inv.none_ (List.eq_nil_of_length_eq_zero (by omega)) (List.eq_nil_of_length_eq_zero (by omega))).2.1)
                have hop := C.open_ J8.out.m rfl J8.out.inv (by omega) (by omega) (by omega)
                have HOP := Lib.hid hop
                clear hop k1 k2 k3 k4 k5
                go_wp2_with fail
                refine HOP.out.mono ?_
                rintro e w9 ⟨X9, bl9, A7', m7', c7', rfl, hm7, hmc7, hr7, hl9, hb9, hX9⟩
                have J9 := Lib.hid (J8.out.opened hb9 hX9 hl9)
                rw [k8] at hr7
                rw [flat_length] at hm7
                have HR7 := Lib.hid hr7
                have HM7 := Lib.hid hm7
                clear hb9 hX9 hl9 J8 HOP k8 hr7 hm7
                by_cases hm0 : m7' = 0
                · have hl0 : (lst).length = 0 := by
                    have h1 := hbare.out (by rw [← HM7.out]; exact hm0)
                    have h2 := K1.out
                    have h3 := HM7.out
                    omega
                  have e0 : decide (0 < (m7' : Int)) = false := decide_eq_false (by omega)
                  have e1 : decide (0 < ((lst).length : Int)) = false := decide_eq_false (by omega)
                  have e2 : decide (0 < m7') = false := decide_eq_false (by omega)
                  have e3 : decide (0 < (lst).length) = false := decide_eq_false (by omega)
                  have hmz : ¬ 0 < m7' := by omega
                  have hlz : ¬ 0 < (lst).length := by omega
                  have J10 := J9
                  clear hm0 hl0
                  go_wp2_with fail
                  refine (C.next J10.out.lm).mono ?_
                  rintro e w11 ⟨rfl, hb11⟩
                  have J11 := Lib.hid (J10.out.below C hb11)
                  have hk9 : ((nn2 + Pl.cnt (pre2) + (cur2).length : Nat) : Int) = ((lst).length : Int) + 1 := by have := F6.out.len; omega
                  rw [hk9]
                  have bk9 : (((lst).length : Int) + 1 != ((lst).length : Int) + 1) = false := bne_self_eq_false _
                  clear hb11 J10 hk9
                  go_wp2_with fail
                  go_roundw
                  case rel =>
                    first
                      | exact ⟨i + 1, bl9, lst, tr2, by omega, by omega, rfl, by go_num, rfl, by go_num, Lib.hid ⟨n2, (onF s2), lo2, nn2, pre2, cur2, X9, rfl, rfl, J11.out, F6.out⟩⟩
                      | ((repeat apply Exists.intro); exact ⟨⟨i + 1, bl9, lst, tr2, by omega, by omega, rfl, by go_num, rfl, by go_num, Lib.hid ⟨n2, (onF s2), lo2, nn2, pre2, cur2, X9, rfl, rfl, J11.out, F6.out⟩⟩, rfl⟩)
                      | (rw [show ((i : Int) + 1) = ((i + 1 : Nat) : Int) from rfl]; first | exact ⟨i + 1, bl9, lst, tr2, by omega, by omega, rfl, by go_num, rfl, by go_num, Lib.hid ⟨n2, (onF s2), lo2, nn2, pre2, cur2, X9, rfl, rfl, J11.out, F6.out⟩⟩ | ((repeat apply Exists.intro); exact ⟨⟨i + 1, bl9, lst, tr2, by omega, by omega, rfl, by go_num, rfl, by go_num, Lib.hid ⟨n2, (onF s2), lo2, nn2, pre2, cur2, X9, rfl, rfl, J11.out, F6.out⟩⟩, rfl⟩))
                  case measure => simp [RowKit.intOf]; omega
                · obtain ⟨mm, rfl⟩ : ∃ mm, m7' = mm + 1 := ⟨m7' - 1, by omega⟩
                  have hlen : (lst.drop (nn2 - 1)).length = mm + 1 := by
                    have h2 := K1.out
                    have h3 := HM7.out
                    rw [List.length_drop]
                    omega
                  have hll : (lst).length = nn2 + mm := by
                    have h2 := K1.out
                    have h3 := HM7.out
                    omega
                  obtain ⟨b7, o7, rfl, hb7, hcl⟩ := HR7.out (by rw [fc_length]; omega)
                  obtain ⟨b9, o9, rfl, hb9, hal⟩ := (Fm.Rd.of_own J9.out.own).str_at (i := 0) (by omega)
                  have hnum : ∀ k, k < mm + 1 → w9.cell? ⟨b7, o7 + k * 2, none⟩ = some (.int .i64 ((nn2 - 1 + k : Nat) + 1 : Int)) := fun k hk => by
                    have := hcl _ _ (fc_at0 (lst.drop (nn2 - 1)) nn2 k (by omega))
                    rw [this]
                    congr 2
                    omega
                  have hdat : ∀ k, k < mm + 1 → ∃ D, w9.cell? ⟨b7, o7 + k * 2 + 1, none⟩ = some (.string D) ∧ w9.cell? ⟨b9, o9 + (nn2 - 1 + k), none⟩ = some (.string D) := fun k hk => by
                    refine ⟨_, by rw [Nat.add_assoc]; exact hcl _ _ (fc_at1 (lst.drop (nn2 - 1)) nn2 k (by omega)), ?_⟩
                    rw [hal (nn2 - 1 + k) (by omega), List.getElem_drop]
                  have HNUM := Lib.hid hnum
                  have HDAT := Lib.hid hdat
                  have HLL := Lib.hid hll
                  have g0 : decide (tr2 + 1 < (nn2 : Int)) = false := decide_eq_false (by omega)
                  have e0 : decide (0 < ((mm : Int) + 1)) = true := decide_eq_true (by omega)
                  have q0 := hnum 0 (by omega)
                  rw [Nat.zero_mul, Nat.add_zero, Nat.add_zero, show (((nn2 - 1 : Nat) : Int) + 1) = (nn2 : Int) from by omega] at q0
                  clear hcl hal hnum hdat hlen HR7 hm0
                  have hlb : nn2 + mm ≤ 1000 := by have := F6.out.capA; omega
                  have k10 := F6.out.tr0
                  have k11 := F6.out.tr1
                  clear hll
                  go_wp2_with fail
                  clear q0 g0 e0 k10 k11
                  go_loopw [20] (fun v20 wq => ∃ k : Nat, k ≤ mm + 1 ∧ v20 = .int .i64 (k : Int) ∧ Hid (∃ q, wq = w9.drewN q)) (fun v20 _ => mm + 1 - (RowKit.intOf v20).toNat)
                  case atStart => exact ⟨0, by omega, rfl, Lib.hid ⟨0, rfl⟩⟩
                  case round =>
                    obtain ⟨k, hk, rfl, hq⟩ := hrel
                    obtain ⟨q, hq⟩ := hq.out
                    subst hq
                    by_cases hkm : k < mm + 1
                    · have q1 := HNUM.out k hkm
                      obtain ⟨D, q2, q3⟩ := HDAT.out k hkm
                      have hll2 := HLL.out
                      have hnn1 : 1 ≤ nn2 := by omega
                      obtain ⟨P, hP⟩ : ∃ P, nn2 - 1 + k = P := ⟨_, rfl⟩
                      rw [hP] at q1 q3
                      have hD : (D.toList == D.toList) = true := beq_self_eq_true _
                      have d1 : decide ((P : Int) + 1 < 1) = false := decide_eq_false (by omega)
                      have d2 : decide (((lst).length : Int) + 1 < (P : Int) + 1) = false := decide_eq_false (by omega)
                      have d3 : decide ((P : Int) + 1 ≤ ((lst).length : Int)) = true := decide_eq_true (by omega)
                      have d4 : ((P : Int) + 1 == ((lst).length : Int) + 1) = false := by rw [beq_eq_false_iff_ne]; omega
                      have d5 : decide (P + 1 ≤ (lst).length) = true := decide_eq_true (by omega)
                      have d6 : (0 : Int) ≤ (P : Int) := by omega
                      have d7 : (P : Int) < ((lst).length : Int) := by omega
                      have d8 : (P : Int) + 1 - 1 = (P : Int) := by omega
                      have d9 : IntKind.i64.wrap ((P : Int) + 1 - 1) = (P : Int) := by rw [d8]; exact IntWalk.i64_in _ (by omega)
                      have d10 : IntKind.i64.wrap (((lst).length : Int) + 1) = ((lst).length : Int) + 1 := IntWalk.i64_in _ (by omega)
                      have d11 : (0 : Int) ≤ (k : Int) := by omega
                      have d12 : (k : Int) < (mm : Int) + 1 := by omega
                      have d13 : (P : Int) ≤ 1000 := by omega
                      have d14 : ((lst).length : Int) ≤ 1000 := by omega
                      by_cases hkz : 0 < k
                      · have q4 := HNUM.out (k - 1) (by omega)
                        rw [show (((nn2 - 1 + (k - 1) : Nat) : Int) + 1) = (P : Int) from by omega] at q4
                        have x1 : (0 : Int) ≤ (k : Int) - 1 := by omega
                        have x2 : (k : Int) - 1 < (mm : Int) + 1 := by omega
                        have x3 : ((k : Int) - 1).toNat = k - 1 := by omega
                        have x4 : decide (0 < (k : Int)) = true := decide_eq_true (by omega)
                        have x5 : ((P : Int) + 1 != (P : Int) + 1) = false := bne_self_eq_false _
                        clear hP hll2
                        go_wp2_with fail
                        go_quiet (fail)
                        go_wp2_with fail
                        go_roundw
                        case rel => exact ⟨k + 1, by omega, by go_num, Lib.hid ⟨_, rfl⟩⟩
                        case measure => simp [RowKit.intOf]; omega
                      · have x4 : decide (0 < (k : Int)) = false := decide_eq_false (by omega)
                        clear hP hll2
                        go_wp2_with fail
                        go_quiet (fail)
                        go_wp2_with fail
                        go_roundw
                        case rel => exact ⟨k + 1, by omega, by go_num, Lib.hid ⟨_, rfl⟩⟩
                        case measure => simp [RowKit.intOf]; omega
                    · obtain rfl : k = mm + 1 := by omega
                      have q1 := HNUM.out mm (by omega)
                      rw [show (((nn2 - 1 + mm : Nat) : Int) + 1) = ((lst).length : Int) from by have := HLL.out; omega] at q1
                      have d4 : (((lst).length : Int) == ((lst).length : Int) + 1) = false := by rw [beq_eq_false_iff_ne]; omega
                      have d14 : ((lst).length : Int) ≤ 1000 := by have := HLL.out; omega
                      have d10 : IntKind.i64.wrap (((lst).length : Int) + 1) = ((lst).length : Int) + 1 := IntWalk.i64_in _ (by omega)
                      have d5 : ((lst).length == (lst).length + 1) = false := by rw [beq_eq_false_iff_ne]; omega
                      have J10 := Lib.hid (J9.out.below C (below_drewN_refl w9 q))
                      go_wp2_with fail
                      refine (C.next J10.out.lm).mono ?_
                      rintro e w11 ⟨rfl, hb11⟩
                      have J11 := Lib.hid (J10.out.below C hb11)
                      have hk9 : ((nn2 + Pl.cnt (pre2) + (cur2).length : Nat) : Int) = ((lst).length : Int) + 1 := by have := F6.out.len; omega
                      rw [hk9]
                      have bk9 : (((lst).length : Int) + 1 != ((lst).length : Int) + 1) = false := bne_self_eq_false _
                      clear hb11 J10 hk9
                      go_wp2_with fail
                      go_roundw
                      case rel =>
                        first
                          | exact ⟨i + 1, bl9, lst, tr2, by omega, by omega, rfl, by go_num, rfl, by go_num, Lib.hid ⟨n2, (onF s2), lo2, nn2, pre2, cur2, X9, rfl, rfl, J11.out, F6.out⟩⟩
                          | ((repeat apply Exists.intro); exact ⟨⟨i + 1, bl9, lst, tr2, by omega, by omega, rfl, by go_num, rfl, by go_num, Lib.hid ⟨n2, (onF s2), lo2, nn2, pre2, cur2, X9, rfl, rfl, J11.out, F6.out⟩⟩, rfl⟩)
                          | (rw [show ((i : Int) + 1) = ((i + 1 : Nat) : Int) from rfl]; first | exact ⟨i + 1, bl9, lst, tr2, by omega, by omega, rfl, by go_num, rfl, by go_num, Lib.hid ⟨n2, (onF s2), lo2, nn2, pre2, cur2, X9, rfl, rfl, J11.out, F6.out⟩⟩ | ((repeat apply Exists.intro); exact ⟨⟨i + 1, bl9, lst, tr2, by omega, by omega, rfl, by go_num, rfl, by go_num, Lib.hid ⟨n2, (onF s2), lo2, nn2, pre2, cur2, X9, rfl, rfl, J11.out, F6.out⟩⟩, rfl⟩))
                      case measure => simp [RowKit.intOf]; omega
          · have f1 : ((i : Int) % 3 == 2) = false := by simp; omega
            as_aux_lemma =>
            go_upto_if 75 with fail
            go_cut [6, 9, 10, 11, 14, 15] from 41 to 143 (fun v6 v9 v10 v11 v14 v15 wx => ∃ (bl : Nat) (lst : List ByteArray) (c9 : Nat) (A9 : Option Addr) (tr : Int) (dm : ByteArray) (am : Bool), v14 = .string dm ∧ v15 = .bool am ∧ v6 = .pointer (some ⟨bl, 0, none⟩) ∧ v9 = .slice A9 lst.length c9 ∧ v10 = .int .i64 (lst.length : Int) ∧ v11 = .int .i64 tr ∧
              Hid (∃ n s lo nn pre cur X, s.off = false ∧ s.armed = false ∧ JL LO w wx X (w.heap.size + 1) bl n s lo nn pre cur lst (.slice A9 lst.length c9) ∧ JF (i + 1) n lo nn pre cur lst tr))
            case first =>
              as_aux_lemma =>
              by_cases hy0 : 0 ≤ y0
              · go_wp2_with fail
                go_still_tail 10, (by kernel_rfl)
                change wpList _ _ _ _ _ (World.drew _)
                have HJ := Lib.hid (show JL LO w (World.drew _) X (w.heap.size + 1) bl n s lo nn pre cur all _ from HJ.out.below C (World.drew_below _))
                go_wp2_with fail
                refine (fill_any y0 y1 _).mono ?_
                rintro e w5 ⟨d, hd5, rfl, hb5⟩
                have HJ := Lib.hid (HJ.out.below C hb5)
                clear hb5
                have k1 := HF.out.len
                have k2 := HF.out.capA
                have k3 := HF.out.capN
                have k4 := HF.out.lo1
                have k5 := HF.out.pl
                go_wp2_with fail
                refine (C.append HJ.out.lm hoff (by omega) (by omega) (by omega) d).mono ?_
                rintro e w6 ⟨ho6, X6, hX6, (⟨hd, rfl, hl6⟩ | ⟨hd, s', pre', cur', rfl, hfl, hs1, hs2, hl6, _⟩ | ⟨hd, hs1, s', rfl, hm6, hi6⟩)⟩
                · have g1 : decide ((440 : Int) < (d.size : Int)) = true := decide_eq_true (by omega)
                  have J6 := Lib.hid (HJ.out.step ho6 hX6 hl6)
                  clear ho6 hX6 hl6 HJ
                  go_wp2_with fail
                  refine (onL C J6.out.lm).mono ?_
                  rintro e w7 ⟨rfl, hl7, ho7⟩
                  have J7 := Lib.hid (J6.out.step ho7 (fun k hk => .inl hk) hl7)
                  have F7 := Lib.hid (HF.out.next (n' := n) (by omega))
                  clear hl7 ho7
                  go_wp2_with fail
                  go_roundw
                  case rel =>
                    first
                      | exact ⟨i + 1, bl, all, tr, by omega, by omega, rfl, by go_num, rfl, by go_num, Lib.hid ⟨n, (onF s), lo, nn, pre, cur, X6, rfl, rfl, J7.out, F7.out⟩⟩
                      | ((repeat apply Exists.intro); exact ⟨⟨i + 1, bl, all, tr, by omega, by omega, rfl, by go_num, rfl, by go_num, Lib.hid ⟨n, (onF s), lo, nn, pre, cur, X6, rfl, rfl, J7.out, F7.out⟩⟩, rfl⟩)
                      | (rw [show ((i : Int) + 1) = ((i + 1 : Nat) : Int) from rfl]; first | exact ⟨i + 1, bl, all, tr, by omega, by omega, rfl, by go_num, rfl, by go_num, Lib.hid ⟨n, (onF s), lo, nn, pre, cur, X6, rfl, rfl, J7.out, F7.out⟩⟩ | ((repeat apply Exists.intro); exact ⟨⟨i + 1, bl, all, tr, by omega, by omega, rfl, by go_num, rfl, by go_num, Lib.hid ⟨n, (onF s), lo, nn, pre, cur, X6, rfl, rfl, J7.out, F7.out⟩⟩, rfl⟩))
                  case measure => simp [RowKit.intOf]; omega
                · have hk : ((nn + Pl.cnt pre + cur.length : Nat) : Int) = (all.length : Int) + 1 := by omega
                  clear k1
                  rw [hk]
                  have bk : ((all.length : Int) + 1 != (all.length : Int) + 1) = false := bne_self_eq_false _
                  have J6 := Lib.hid (HJ.out.step ho6 hX6 hl6)
                  have F6 := Lib.hid (HF.out.app hfl (Full.len (hl6.med).choose_spec.2.2.full))
                  have JA := Lib.hid (J6.out.below C ((Below.refl w6.heap.size w6).alloc (Nat.le_refl _) (.cells #[.string d] 9)))
                  have HOFF := Lib.hid hs1
                  have HARM := Lib.hid hs2
                  clear ho6 hX6 hl6 hfl hk hs1 hs2 HJ
                  go_wp2_with (first
                    | (at_builtin; refine wpList_append_own_at _ rfl (.tmp 100) (.tmp 102) 31 rfl w.heap.size 9 i0 _ 1 16 Try.underlying31 hi0 hz0 hz1 hz2 rfl (by decide) _ _ _ rfl JA.out.own ⟨w6.heap.size, 0, none⟩ 1 1 [.string d] rfl rfl ?c1 ?c2 ?c3 ?c4 ?c5 ?_)
                    | fail)
                  case c1 =>
                    intro j u hj
                    match j, hj with
                    | 0, hj => simp at hj; subst hj; simp [Addr.add]
                  case c2 => intro u hu; simp at hu; subst hu; rfl
                  case c3 => simp only [maxLen]; omega
                  case c4 => omega
                  case c5 => exact JA.out.bel.size
                  intro v' w7 hown' hgrow _ hwhere
                  have J7 := Lib.hid (JA.out.more C hgrow hown' (fun g hg => by
                    rcases hwhere with hw | hw
                    · rw [hw] at hg; exact .inl hg
                    · rw [hw] at hg; injection hg with hg; right; rw [← hg]; simp))
                  clear hown' hgrow hwhere bk J6 JA
                  obtain ⟨A9', c9', rfl, _⟩ := Fm.own_form J7.out.own
                  have hl1 : (all.length : Int) + 1 = ((all ++ [d]).length : Int) := by simp
                  rw [hl1]
                  clear hl1
                  generalize all ++ [d] = lst at J7 F6 ⊢
                  go_wp2_with fail
                  go_meet
                  case rel => exact ⟨bl, lst, c9', A9', tr, _, _, rfl, rfl, rfl, rfl, rfl, rfl, Lib.hid ⟨_, s', lo, nn, pre', cur', X6, HOFF.out, (HARM.out.trans harm), J7.out, F6.out⟩⟩
                · rw [harm] at hs1
                  cases hs1
              · have k1 := HF.out.len
                have k2 := HF.out.capA
                have k3 := HF.out.capN
                have k4 := HF.out.lo1
                have k5 := HF.out.pl
                go_wp2_with fail
                have hzz : Wf ((all.length : Int) + max y0 (-9)) := by constructor <;> omega
                refine (C.trim HJ.out.lm hoff (by omega) (by omega) (by omega) (by omega) _ hzz).mono ?_
                rintro e w6 ⟨ho6, X6, j, s', hX6, hj, hz, (⟨rfl, hs1, hs2, hl6, _⟩ | ⟨rfl, hs1, hm6, hi6⟩)⟩
                · have hq := Full.take (HJ.out.lm.med.choose_spec.2.2.full) j hj
                  have F6 := Lib.hid (HF.out.trim hj hz (by omega) (Full.len ((hl6.med).choose_spec.2.2.full)) hq)
                  have J6 := Lib.hid (HJ.out.step ho6 hX6 hl6)
                  have HOFF := Lib.hid hs1
                  have HARM := Lib.hid hs2
                  clear ho6 hX6 hl6 hs1 hs2 HJ hj hz hq
                  go_wp2_with fail
                  go_meet
                  case rel => exact ⟨bl, all, c9, A9, _, _, _, rfl, rfl, rfl, rfl, rfl, rfl, Lib.hid ⟨_, s', _, _, (pre.drop j), cur, X6, HOFF.out, (HARM.out.trans harm), J6.out, F6.out⟩⟩
                · rw [harm] at hs1
                  cases hs1
            case rest =>
              obtain ⟨bl2, lst, c9', A9', tr2, dm, am, rfl, rfl, rfl, rfl, rfl, rfl, HC⟩ := hcut
              obtain ⟨n2, s2, lo2, nn2, pre2, cur2, X2, hoff2, harm2, JMm, FF⟩ := HC.out
              have J7m := Lib.hid JMm
              have F6 := Lib.hid FF
              clear HC JMm FF
              go_wp2_with fail
              go_roundw
              case rel =>
                first
                  | exact ⟨i + 1, bl2, lst, tr2, by omega, by omega, rfl, by go_num, rfl, by go_num, Lib.hid ⟨n2, s2, lo2, nn2, pre2, cur2, X2, hoff2, harm2, J7m.out, F6.out⟩⟩
                  | ((repeat apply Exists.intro); exact ⟨⟨i + 1, bl2, lst, tr2, by omega, by omega, rfl, by go_num, rfl, by go_num, Lib.hid ⟨n2, s2, lo2, nn2, pre2, cur2, X2, hoff2, harm2, J7m.out, F6.out⟩⟩, rfl⟩)
                  | (rw [show ((i : Int) + 1) = ((i + 1 : Nat) : Int) from rfl]; first | exact ⟨i + 1, bl2, lst, tr2, by omega, by omega, rfl, by go_num, rfl, by go_num, Lib.hid ⟨n2, s2, lo2, nn2, pre2, cur2, X2, hoff2, harm2, J7m.out, F6.out⟩⟩ | ((repeat apply Exists.intro); exact ⟨⟨i + 1, bl2, lst, tr2, by omega, by omega, rfl, by go_num, rfl, by go_num, Lib.hid ⟨n2, s2, lo2, nn2, pre2, cur2, X2, hoff2, harm2, J7m.out, F6.out⟩⟩, rfl⟩))
              case measure => simp [RowKit.intOf]; omega
        · have f0 : decide (0 < (nc : Int)) = false := decide_eq_false (by omega)
          as_aux_lemma =>
          go_upto_if 75 with fail
          go_cut [6, 9, 10, 11, 14, 15] from 41 to 143 (fun v6 v9 v10 v11 v14 v15 wx => ∃ (bl : Nat) (lst : List ByteArray) (c9 : Nat) (A9 : Option Addr) (tr : Int) (dm : ByteArray) (am : Bool), v14 = .string dm ∧ v15 = .bool am ∧ v6 = .pointer (some ⟨bl, 0, none⟩) ∧ v9 = .slice A9 lst.length c9 ∧ v10 = .int .i64 (lst.length : Int) ∧ v11 = .int .i64 tr ∧
            Hid (∃ n s lo nn pre cur X, s.off = false ∧ s.armed = false ∧ JL LO w wx X (w.heap.size + 1) bl n s lo nn pre cur lst (.slice A9 lst.length c9) ∧ JF (i + 1) n lo nn pre cur lst tr))
          case first =>
            as_aux_lemma =>
            by_cases hy0 : 0 ≤ y0
            · go_wp2_with fail
              go_still_tail 10, (by kernel_rfl)
              change wpList _ _ _ _ _ (World.drew _)
              have HJ := Lib.hid (show JL LO w (World.drew _) X (w.heap.size + 1) bl n s lo nn pre cur all _ from HJ.out.below C (World.drew_below _))
              go_wp2_with fail
              refine (fill_any y0 y1 _).mono ?_
              rintro e w5 ⟨d, hd5, rfl, hb5⟩
              have HJ := Lib.hid (HJ.out.below C hb5)
              clear hb5
              have k1 := HF.out.len
              have k2 := HF.out.capA
              have k3 := HF.out.capN
              have k4 := HF.out.lo1
              have k5 := HF.out.pl
              go_wp2_with fail
              refine (C.append HJ.out.lm hoff (by omega) (by omega) (by omega) d).mono ?_
              rintro e w6 ⟨ho6, X6, hX6, (⟨hd, rfl, hl6⟩ | ⟨hd, s', pre', cur', rfl, hfl, hs1, hs2, hl6, _⟩ | ⟨hd, hs1, s', rfl, hm6, hi6⟩)⟩
              · have g1 : decide ((440 : Int) < (d.size : Int)) = true := decide_eq_true (by omega)
                have J6 := Lib.hid (HJ.out.step ho6 hX6 hl6)
                clear ho6 hX6 hl6 HJ
                go_wp2_with fail
                refine (onL C J6.out.lm).mono ?_
                rintro e w7 ⟨rfl, hl7, ho7⟩
                have J7 := Lib.hid (J6.out.step ho7 (fun k hk => .inl hk) hl7)
                have F7 := Lib.hid (HF.out.next (n' := n) (by omega))
                clear hl7 ho7
                go_wp2_with fail
                go_roundw
                case rel =>
                  first
                    | exact ⟨i + 1, bl, all, tr, by omega, by omega, rfl, by go_num, rfl, by go_num, Lib.hid ⟨n, (onF s), lo, nn, pre, cur, X6, rfl, rfl, J7.out, F7.out⟩⟩
                    | ((repeat apply Exists.intro); exact ⟨⟨i + 1, bl, all, tr, by omega, by omega, rfl, by go_num, rfl, by go_num, Lib.hid ⟨n, (onF s), lo, nn, pre, cur, X6, rfl, rfl, J7.out, F7.out⟩⟩, rfl⟩)
                    | (rw [show ((i : Int) + 1) = ((i + 1 : Nat) : Int) from rfl]; first | exact ⟨i + 1, bl, all, tr, by omega, by omega, rfl, by go_num, rfl, by go_num, Lib.hid ⟨n, (onF s), lo, nn, pre, cur, X6, rfl, rfl, J7.out, F7.out⟩⟩ | ((repeat apply Exists.intro); exact ⟨⟨i + 1, bl, all, tr, by omega, by omega, rfl, by go_num, rfl, by go_num, Lib.hid ⟨n, (onF s), lo, nn, pre, cur, X6, rfl, rfl, J7.out, F7.out⟩⟩, rfl⟩))
                case measure => simp [RowKit.intOf]; omega
              · have hk : ((nn + Pl.cnt pre + cur.length : Nat) : Int) = (all.length : Int) + 1 := by omega
                clear k1
                rw [hk]
                have bk : ((all.length : Int) + 1 != (all.length : Int) + 1) = false := bne_self_eq_false _
                have J6 := Lib.hid (HJ.out.step ho6 hX6 hl6)
                have F6 := Lib.hid (HF.out.app hfl (Full.len (hl6.med).choose_spec.2.2.full))
                have JA := Lib.hid (J6.out.below C ((Below.refl w6.heap.size w6).alloc (Nat.le_refl _) (.cells #[.string d] 9)))
                have HOFF := Lib.hid hs1
                have HARM := Lib.hid hs2
                clear ho6 hX6 hl6 hfl hk hs1 hs2 HJ
                go_wp2_with (first
                  | (at_builtin; refine wpList_append_own_at _ rfl (.tmp 100) (.tmp 102) 31 rfl w.heap.size 9 i0 _ 1 16 Try.underlying31 hi0 hz0 hz1 hz2 rfl (by decide) _ _ _ rfl JA.out.own ⟨w6.heap.size, 0, none⟩ 1 1 [.string d] rfl rfl ?c1 ?c2 ?c3 ?c4 ?c5 ?_)
                  | fail)
                case c1 =>
                  intro j u hj
                  match j, hj with
                  | 0, hj => simp at hj; subst hj; simp [Addr.add]
                case c2 => intro u hu; simp at hu; subst hu; rfl
                case c3 => simp only [maxLen]; omega
                case c4 => omega
                case c5 => exact JA.out.bel.size
                intro v' w7 hown' hgrow _ hwhere
                have J7 := Lib.hid (JA.out.more C hgrow hown' (fun g hg => by
                  rcases hwhere with hw | hw
                  · rw [hw] at hg; exact .inl hg
                  · rw [hw] at hg; injection hg with hg; right; rw [← hg]; simp))
                clear hown' hgrow hwhere bk J6 JA
                obtain ⟨A9', c9', rfl, _⟩ := Fm.own_form J7.out.own
                have hl1 : (all.length : Int) + 1 = ((all ++ [d]).length : Int) := by simp
                rw [hl1]
                clear hl1
                generalize all ++ [d] = lst at J7 F6 ⊢
                go_wp2_with fail
                go_meet
                case rel => exact ⟨bl, lst, c9', A9', tr, _, _, rfl, rfl, rfl, rfl, rfl, rfl, Lib.hid ⟨_, s', lo, nn, pre', cur', X6, HOFF.out, (HARM.out.trans harm), J7.out, F6.out⟩⟩
              · rw [harm] at hs1
                cases hs1
            · have k1 := HF.out.len
              have k2 := HF.out.capA
              have k3 := HF.out.capN
              have k4 := HF.out.lo1
              have k5 := HF.out.pl
              go_wp2_with fail
              have hzz : Wf ((all.length : Int) + max y0 (-9)) := by constructor <;> omega
              refine (C.trim HJ.out.lm hoff (by omega) (by omega) (by omega) (by omega) _ hzz).mono ?_
              rintro e w6 ⟨ho6, X6, j, s', hX6, hj, hz, (⟨rfl, hs1, hs2, hl6, _⟩ | ⟨rfl, hs1, hm6, hi6⟩)⟩
              · have hq := Full.take (HJ.out.lm.med.choose_spec.2.2.full) j hj
                have F6 := Lib.hid (HF.out.trim hj hz (by omega) (Full.len ((hl6.med).choose_spec.2.2.full)) hq)
                have J6 := Lib.hid (HJ.out.step ho6 hX6 hl6)
                have HOFF := Lib.hid hs1
                have HARM := Lib.hid hs2
                clear ho6 hX6 hl6 hs1 hs2 HJ hj hz hq
                go_wp2_with fail
                go_meet
                case rel => exact ⟨bl, all, c9, A9, _, _, _, rfl, rfl, rfl, rfl, rfl, rfl, Lib.hid ⟨_, s', _, _, (pre.drop j), cur, X6, HOFF.out, (HARM.out.trans harm), J6.out, F6.out⟩⟩
              · rw [harm] at hs1
                cases hs1
          case rest =>
            obtain ⟨bl2, lst, c9', A9', tr2, dm, am, rfl, rfl, rfl, rfl, rfl, rfl, HC⟩ := hcut
            obtain ⟨n2, s2, lo2, nn2, pre2, cur2, X2, hoff2, harm2, JMm, FF⟩ := HC.out
            have J7m := Lib.hid JMm
            have F6 := Lib.hid FF
            clear HC JMm FF
            go_wp2_with fail
            go_roundw
            case rel =>
              first
                | exact ⟨i + 1, bl2, lst, tr2, by omega, by omega, rfl, by go_num, rfl, by go_num, Lib.hid ⟨n2, s2, lo2, nn2, pre2, cur2, X2, hoff2, harm2, J7m.out, F6.out⟩⟩
                | ((repeat apply Exists.intro); exact ⟨⟨i + 1, bl2, lst, tr2, by omega, by omega, rfl, by go_num, rfl, by go_num, Lib.hid ⟨n2, s2, lo2, nn2, pre2, cur2, X2, hoff2, harm2, J7m.out, F6.out⟩⟩, rfl⟩)
                | (rw [show ((i : Int) + 1) = ((i + 1 : Nat) : Int) from rfl]; first | exact ⟨i + 1, bl2, lst, tr2, by omega, by omega, rfl, by go_num, rfl, by go_num, Lib.hid ⟨n2, s2, lo2, nn2, pre2, cur2, X2, hoff2, harm2, J7m.out, F6.out⟩⟩ | ((repeat apply Exists.intro); exact ⟨⟨i + 1, bl2, lst, tr2, by omega, by omega, rfl, by go_num, rfl, by go_num, Lib.hid ⟨n2, s2, lo2, nn2, pre2, cur2, X2, hoff2, harm2, J7m.out, F6.out⟩⟩, rfl⟩))
            case measure => simp [RowKit.intOf]; omega
      · go_wp2_with fail
        refine (awk _).mono ?_
        rintro e w3 ⟨rfl, h3⟩
        have HB3 := Lib.hid (show Below w.heap.size w w3 from by
          obtain ⟨n, s, lo, nn, pre, cur, X, _, _, hJ, _⟩ := HH.out
          exact hJ.bel.trans (h3.mono hJ.bel.size))
        clear h3
        go_wp2_with fail
        go_ret
        exact ⟨rfl, HB3.out⟩
    · go_wp2_with fail
      refine (awk _).mono ?_
      rintro e w3 ⟨rfl, h3⟩
      have HB3 := Lib.hid (show Below w.heap.size w w3 from by
        obtain ⟨n, s, lo, nn, pre, cur, X, _, _, hJ, _⟩ := HH.out
        exact hJ.bel.trans (h3.mono hJ.bel.size))
      clear h3
      go_wp2_with fail
      go_ret
      exact ⟨rfl, HB3.out⟩
/-- The law's walk, as the row asks it. -/
theorem walk (A : Option Addr) (n c : Nat) (l : List (Int × Int)) (A2 : Option Addr) (n2 c2 : Nat) (cuts : List Int) (w : World) (hn : n = l.length) (hu : n * 16 ≤ 140737488351232) (hr : Rd w w.heap.size A (pz l)) (hn2 : n2 = cuts.length) (hu2 : n2 * 8 ≤ 140737488351232) (hr2 : Rd w w.heap.size A2 (cuts.map (Value.int .i64))) :
    Calls Try.prog 3 #[.slice A n c, .slice A2 n2 c2] w fun e w' => e = .returned (.bool true) ∧ Below w.heap.size w w' :=
  walk_of cons awake_any A n c l A2 n2 c2 cuts w hn (by omega) hr hn2 (by omega) hr2
end Go.Proofs.Ytcmeaeemjecjiaa.logsLasts
