/-
  CONTRACTS of slices' merge in place. (By wip/tools/gen_vsort.py.)
-/
import Derived.Test.YtnkhnbpopdmkhaaGreatVSymA
import Derived.Deep.CutRange
namespace Go.Proofs.YtnkhnbpopdmkhaaGreat
set_option linter.unusedVariables false
open Go.RowKit

theorem cut_parts {lt : List Value → List Value → Bool} (W : Pl.Weak lt) {A B : List (List Value)} (hA : Pl.Srt lt A) (hB : Pl.Srt lt B) {t u0 u1 s : Nat} (h0 : u0 = t - B.length) (h1 : u1 = min A.length t) (ht : t ≤ A.length + B.length) (hb : 0 < B.length) (h : Pl.Bis (fun u => !lt (B.getD (t - 1 - u) []) (A.getD u [])) u0 u1 s s) :
    ∃ L1 L2 R1 R2, A = L1 ++ L2 ∧ B = R1 ++ R2 ∧ L1.length = s ∧ R1.length = t - s ∧ (∀ x ∈ L1, ∀ y ∈ R2, lt y x = false) ∧ (∀ x ∈ R1, ∀ y ∈ L2, lt x y = true) := by
  have h2 := Pl.cut_ok W hA hB [] h0 h1 ht hb h
  have := h.high
  have := h.low
  exact ⟨A.take s, A.drop s, B.take (t - s), B.drop (t - s), (List.take_append_drop _ _).symm, (List.take_append_drop _ _).symm, by rw [List.length_take]; omega, by rw [List.length_take]; omega, h2.1, h2.2⟩
/-- Merges in place of so many things come to their end. -/
def Mergesstand (B g n c K : Nat) (ord : List Value → List Value → Int) (N : Nat) : Prop := ∀ (P A D S : List (List Value)) (za zm zb : Int) (w : World), A.length + D.length ≤ N → za = (P.length : Int) → zm = ((P.length + A.length : Nat) : Int) → zb = ((P.length + A.length + D.length : Nat) : Int) → 1 ≤ A.length → 1 ≤ D.length → n = (P ++ (A ++ (D ++ S))).length → Things kstand (P ++ (A ++ (D ++ S))) → Pl.Srt (lessO ord) A → Pl.Srt (lessO ord) D → w.ownsRow B 112 8 (.slice (some ⟨g, 0, none⟩) n c) n (P ++ (A ++ (D ++ S))).flatten → B ≤ w.heap.size →
    Calls Tryz.prog 71 #[.slice (some ⟨g, 0, none⟩) n c, .int .i64 za, .int .i64 zm, .int .i64 zb, .func (.func K) #[] #[]] w fun e w' => e = .returned (.tuple #[]) ∧ ∃ C, Pl.Stb (lessO ord) C (A ++ D) ∧ Pl.Srt (lessO ord) C ∧ w'.ownsRow B 112 8 (.slice (some ⟨g, 0, none⟩) n c) n (P ++ (C ++ S)).flatten ∧ Below B w w'
set_option maxRecDepth 100000 in
set_option maxHeartbeats 6400000 in
theorem symm3stand (B g n c K : Nat) (ord : List Value → List Value → Int) (N : Nat) (hI : Mergesstand B g n c K ord N) (P A D S : List (List Value)) (za zm zb : Int) (w : World) (hAD : A.length + D.length ≤ N + 1) (hza : za = (P.length : Int)) (hzm : zm = ((P.length + A.length : Nat) : Int)) (hzb : zb = ((P.length + A.length + D.length : Nat) : Int)) (hA : 2 ≤ A.length) (hD : 2 ≤ D.length) (hn : n = (P ++ (A ++ (D ++ S))).length) (hn6 : n ≤ 100000) (hM : Things kstand (P ++ (A ++ (D ++ S)))) (hT : TellsC kstand K ord) (hW : Pl.Weak (lessO ord)) (hsA : Pl.Srt (lessO ord) A) (hsD : Pl.Srt (lessO ord) D) (ho : w.ownsRow B 112 8 (.slice (some ⟨g, 0, none⟩) n c) n (P ++ (A ++ (D ++ S))).flatten) (hB : B ≤ w.heap.size) :
    Calls Tryz.prog 71 #[.slice (some ⟨g, 0, none⟩) n c, .int .i64 za, .int .i64 zm, .int .i64 zb, .func (.func K) #[] #[]] w fun e w' => e = .returned (.tuple #[]) ∧ ∃ C, Pl.Stb (lessO ord) C (A ++ D) ∧ Pl.Srt (lessO ord) C ∧ w'.ownsRow B 112 8 (.slice (some ⟨g, 0, none⟩) n c) n (P ++ (C ++ S)).flatten ∧ Below B w w' := by
  have hu := Tryz.underlying112
  have hent := hT.1
  have HTC := Lib.hid hT.2
  have HN := Lib.hid hn
  have HM := Lib.hid hM
  have HBW := Lib.hid hB
  have HO0 := Lib.hid ho
  have HW := Lib.hid hW
  have HI := Lib.hid hI
  have HSS := Lib.hid (And.intro hsA hsD)
  have hln : P.length + A.length + D.length ≤ n := by rw [hn]; simp only [List.length_append]; omega
  have HX0 : Hid (∀ u, u < A.length → (P ++ (A ++ (D ++ S)))[P.length + u]? = some (A.getD u [])) := Lib.hid (fun u hu => some_at (Pl.at_A P A (D ++ S) [] hu))
  have HY0 : Hid (∀ v, v < D.length → (P ++ (A ++ (D ++ S)))[P.length + A.length + v]? = some (D.getD v [])) := Lib.hid (fun v hv => some_at (Pl.at_B P A D S [] hv))
  obtain ⟨a, hpa⟩ : ∃ a, P.length = a := ⟨_, rfl⟩
  obtain ⟨da, hda⟩ : ∃ q, A.length = q := ⟨_, rfl⟩
  obtain ⟨dd, hdd⟩ : ∃ q, D.length = q := ⟨_, rfl⟩
  obtain ⟨m, hm⟩ : ∃ m, a + da = m := ⟨_, rfl⟩
  obtain ⟨b, hb⟩ : ∃ b, m + dd = b := ⟨_, rfl⟩
  obtain ⟨mid, hd1, hd2⟩ : ∃ q : Nat, 2 * q ≤ a + b ∧ a + b < 2 * q + 2 := ⟨(a + b) / 2, by omega, by omega⟩
  obtain ⟨t, ht⟩ : ∃ t, mid - a = t := ⟨_, rfl⟩
  obtain ⟨nn, hnn⟩ : ∃ q, mid + m = q := ⟨_, rfl⟩
  obtain ⟨p, hp⟩ : ∃ q, nn - 1 = q := ⟨_, rfl⟩
  obtain ⟨s0, r0, hs1, hs2⟩ : ∃ s0 r0 : Nat, (mid < m → s0 = nn - b ∧ r0 = mid) ∧ (¬ mid < m → s0 = a ∧ r0 = m) := by
    by_cases h : mid < m
    · exact ⟨nn - b, mid, fun _ => ⟨rfl, rfl⟩, fun h2 => absurd h h2⟩
    · exact ⟨a, m, fun h2 => absurd h2 h, fun _ => ⟨rfl, rfl⟩⟩
  have hr : a ≤ s0 ∧ s0 ≤ r0 ∧ r0 ≤ m ∧ r0 ≤ mid ∧ nn ≤ b + s0 ∧ s0 - a = t - dd ∧ r0 - a = min da t := by
    by_cases h : mid < m
    · obtain ⟨rfl, rfl⟩ := hs1 h; omega
    · obtain ⟨rfl, rfl⟩ := hs2 h; omega
  rw [hpa, hda] at HX0
  rw [hda, hpa, hm, hdd] at HY0
  rw [hpa, hda, hm, hdd, hb] at hln hzb
  rw [hpa, hda, hm] at hzm
  rw [hpa] at hza
  rw [hda, hdd] at hAD
  rw [hda] at hA
  rw [hdd] at hD
  obtain ⟨hr1, hr2, hr3, hr4, hr5, hr6, hr7⟩ := hr
  have HMO : Hid (Pl.Mono (fun u => !lessO ord (D.getD (t - 1 - u) []) (A.getD u [])) (s0 - a) (r0 - a)) := Lib.hid (Pl.mono_cut hW hsA hsD [] t _ _ (by rw [hda]; omega) (by omega) (by rw [hdd]; omega) (by rw [hdd]; omega))
  have HCUT : Hid (∀ s, Pl.Bis (fun u => !lessO ord (D.getD (t - 1 - u) []) (A.getD u [])) (s0 - a) (r0 - a) s s → _) := Lib.hid (fun s h => cut_parts hW hsA hsD (t := t) (by rw [hdd]; exact hr6) (by rw [hda]; exact hr7) (by rw [hda, hdd]; omega) (by rw [hdd]; omega) h)
  have HB0 : Hid (Pl.Bis (fun u => !lessO ord (D.getD (t - 1 - u) []) (A.getD u [])) (s0 - a) (r0 - a) (s0 - a) (r0 - a)) := Lib.hid (Pl.Bis.start _ (by omega))
  have e1 : ((m : Int) - (a : Int) == 1) = false := by simp; omega
  have e2 : ¬ ((m : Int) - (a : Int) = 1) := by omega
  have e3 : ((b : Int) - (m : Int) == 1) = false := by simp; omega
  have e4 : ¬ ((b : Int) - (m : Int) = 1) := by omega
  have e5 : ((a : Int) + (b : Int)) / 2 = (mid : Int) := by omega
  have e6 : (mid : Int) + (m : Int) = (nn : Int) := by omega
  have e7 : (nn : Int) - 1 = (p : Int) := by omega
  have ham : a ≤ mid ∧ mid ≤ b ∧ a + 2 ≤ m ∧ m + 2 ≤ b := by omega
  have HQ : Hid (a + da = m ∧ m + dd = b ∧ mid = a + t ∧ mid + m = nn ∧ nn = p + 1 ∧ 2 * mid ≤ a + b ∧ a + b < 2 * mid + 2 ∧ da + dd ≤ N + 1) := Lib.hid (by refine ⟨hm, hb, ?_, hnn, ?_, hd1, hd2, hAD⟩ <;> omega)
  have HLN : Hid (P.length = a ∧ A.length = da ∧ D.length = dd) := Lib.hid ⟨hpa, hda, hdd⟩
  have HSR1 := Lib.hid hs1
  have HSR2 := Lib.hid hs2
  have HR6 := Lib.hid hr6
  have HR7 := Lib.hid hr7
  have hnb : nn ≤ 200000 := by omega
  subst hza hzm hzb
  obtain ⟨ham1, ham2, ham3, ham4⟩ := ham
  clear hn hM hT hW ho hB hsA hsD hpa hda hdd hm hb ht hnn hp hs1 hs2 hr6 hr7 hd1 hd2 hI hA hD hAD
  go_enter Tryz.func71, Tryz.ntmps71
  go_upto_if 140 with fail
  go_cut [20, 21] from 141 to 148 (fun sv rv wx => sv = .int .i64 (s0 : Int) ∧ rv = .int .i64 (r0 : Int) ∧ w = wx)
  case first =>
    by_cases hmm : mid < m
    · obtain ⟨q1, q2⟩ := HSR1.out hmm
      have q3 : (nn : Int) - (b : Int) = (s0 : Int) := by omega
      have q4 : (mid : Int) = (r0 : Int) := by omega
      clear q1 q2
      go_wp2_with fail
      go_meet
      exact ⟨by first | rfl | rw [q3], by first | rfl | rw [q4], rfl⟩
    · obtain ⟨q1, q2⟩ := HSR2.out hmm
      have q3 : (a : Int) = (s0 : Int) := by omega
      have q4 : (m : Int) = (r0 : Int) := by omega
      clear q1 q2
      go_wp2_with fail
      go_meet
      exact ⟨by first | rfl | rw [← q3] | rw [q3], by first | rfl | rw [← q4] | rw [q4], rfl⟩
  case rest =>
    obtain ⟨rfl, rfl, rfl⟩ := hcut
    go_wp2_with fail
    go_loopw [20, 21] (fun iv jv wr => ∃ i j : Nat, s0 ≤ i ∧ i ≤ j ∧ j ≤ r0 ∧ iv = .int .i64 (i : Int) ∧ jv = .int .i64 (j : Int) ∧ Hid (Pl.Bis (fun u => !lessO ord (D.getD (t - 1 - u) []) (A.getD u [])) (s0 - a) (r0 - a) (i - a) (j - a)) ∧ Hid (wr.ownsRow B 112 8 (.slice (some ⟨g, 0, none⟩) n c) n (P ++ (A ++ (D ++ S))).flatten) ∧ Hid (Below B w wr)) (fun iv jv _ => (intOf jv).toNat - (intOf iv).toNat)
    case atStart => exact ⟨s0, r0, by omega, by omega, by omega, rfl, rfl, HB0, HO0, Lib.hid (Below.refl _ _)⟩
    case round =>
      obtain ⟨i, j, hil, hij, hjh, rfl, rfl, HBI, HO, HB⟩ := hrel
      clear e1 e2 e3 e4 e5 e6 e7
      by_cases hlt : i < j
      · skip
        obtain ⟨h, hh1, hh2⟩ : ∃ q : Nat, 2 * q ≤ i + j ∧ i + j < 2 * q + 2 := ⟨(i + j) / 2, by omega, by omega⟩
        have hhv : ((i : Int) + (j : Int)) / 2 = (h : Int) := by omega
        have hih : i ≤ h := by omega
        have hhj : h < j := by omega
        obtain ⟨q, hq⟩ : ∃ q, p - h = q := ⟨_, rfl⟩
        have hqv : (p : Int) - (h : Int) = (q : Int) := by have := HQ.out; omega
        have hqn : q < n := by have := HQ.out; omega
        have hvd : t - 1 - (h - a) < dd ∧ m + (t - 1 - (h - a)) = q := by have := HQ.out; omega
        have hud : h - a < da ∧ a + (h - a) = h := by have := HQ.out; omega
        obtain ⟨x, hx⟩ : ∃ x, A.getD (h - a) [] = x := ⟨_, rfl⟩
        obtain ⟨y, hy⟩ : ∃ y, D.getD (t - 1 - (h - a)) [] = y := ⟨_, rfl⟩
        have hxx := HX0.out _ hud.1
        have hyy := HY0.out _ hvd.1
        rw [hx, hud.2] at hxx
        rw [hy, hvd.2] at hyy
        have HXP := Lib.hid hxx
        have HYP := Lib.hid hyy
        have FX : Hid (Fits kstand x) := Lib.hid (at_fits HM.out HXP.out)
        have FY : Hid (Fits kstand y) := Lib.hid (at_fits HM.out HYP.out)
        have HLX : Hid (x.length = 8) := Lib.hid (FX.out.length)
        have HIX : Hid ((Tryz.prog.info? 112).map (·.size) = some x.length) := Lib.hid (by rw [HLX.out]; kernel_rfl)
        have HAX : Hid ((Tryz.prog.info? 112).map (·.size) = some x.toArray.size) := Lib.hid (by rw [List.size_toArray, HLX.out]; kernel_rfl)
        have HOX : Hid (x.toArray.all (·.oneCell') = true) := Lib.hid (all_oneCell_toArray (fits_one FX.out))
        have HLY : Hid (y.length = 8) := Lib.hid (FY.out.length)
        have HIY : Hid ((Tryz.prog.info? 112).map (·.size) = some y.length) := Lib.hid (by rw [HLY.out]; kernel_rfl)
        have HAY : Hid ((Tryz.prog.info? 112).map (·.size) = some y.toArray.size) := Lib.hid (by rw [List.size_toArray, HLY.out]; kernel_rfl)
        have HOY : Hid (y.toArray.all (·.oneCell') = true) := Lib.hid (all_oneCell_toArray (fits_one FY.out))
        have HRX : Hid (∀ W, Below wr.heap.size wr W → W.rangeAt g (h * 8) x) := Lib.hid (fun W hW => row_at (own_below HO.out hW) HM.out (by decide) HN.out HXP.out)
        have HRY : Hid (∀ W, Below wr.heap.size wr W → W.rangeAt g (q * 8) y) := Lib.hid (fun W hW => row_at (own_below HO.out hW) HM.out (by decide) HN.out HYP.out)
        obtain ⟨r, hr⟩ : ∃ r, ord y x = r := ⟨_, rfl⟩
        have HCV : Hid (∀ W, Calls Tryz.prog K #[.agg y.toArray, .agg x.toArray] W fun e w' => e = .returned (.int .i64 r) ∧ Below W.heap.size W w') := Lib.hid (fun W => by rw [← hr]; exact HTC.out W y x FY.out FX.out)
        have hcl := lessO_int ord y x hr
        have hhn : h < n := by omega
        have HYD := Lib.hid (And.intro hx hy)
        clear hr hxx hyy hx hy hq hvd hud
        go_wp2_with fail
        refine wp_grow wr (by kernel_rfl) (by kernel_rfl) (Below.refl _ _) ?_
        simp only []
        iterate 6 go_big_quiet_step (fail)
        refine BigFrame.wpQuiet_want (by kernel_rfl) (fun K hK => quiet_load_mid 112 (.tmp 163) rfl g (q * 8) rfl y _ (fun W ⟨X, hX⟩ => by rw [hX]; exact HRY.out _ X.h) hu rfl HIY.out (hK _ ?_))
        simp only [Act.put, List.setIfInBounds_toArray, List.set_cons_zero, List.set_cons_succ]
        iterate 3 go_big_quiet_step (fail)
        refine BigFrame.wpQuiet_want (by kernel_rfl) (fun K hK => quiet_load_mid 112 (.tmp 167) rfl g (h * 8) rfl x _ (fun W ⟨X, hX⟩ => by rw [hX]; exact HRX.out _ X.h) hu rfl HIX.out (hK _ ?_))
        simp only [Act.put, List.setIfInBounds_toArray, List.set_cons_zero, List.set_cons_succ]
        go_big_quiet_step (exact grow_call _ (HCV.out _))
        iterate 2 go_big_quiet_step (fail)
        refine wpQuiet_nil ?_
        intro X
        have hb4 := X.h
        obtain ⟨W4, hW4⟩ : ∃ W, X.W = W := ⟨_, rfl⟩
        rw [hW4] at hb4 ⊢
        clear hW4 X
        have HB4 := Lib.hid hb4
        have HO4 := Lib.hid (own_below HO.out hb4)
        clear hb4
        cases hyv : lessO ord y x with
        | false =>
          have HBN : Hid (Pl.Bis (fun u => !lessO ord (D.getD (t - 1 - u) []) (A.getD u [])) (s0 - a) (r0 - a) (h + 1 - a) (j - a)) := Lib.hid (by rw [show h + 1 - a = h - a + 1 from by omega]; exact HBI.out.up HMO.out (by omega) (by omega) (by simp only [HYD.out.1, HYD.out.2, hyv, Bool.not_false]))
          rw [hyv] at hcl
          clear hyv
          go_wp2_with fail
          go_roundw
          case rel => exact ⟨h + 1, j, by omega, by omega, hjh, by go_num, rfl, HBN, HO4, Lib.hid (HB.out.trans (HB4.out.mono (Nat.le_trans HBW.out HB.out.size)))⟩
          case measure => simp [intOf]; omega
        | true =>
          have HBN : Hid (Pl.Bis (fun u => !lessO ord (D.getD (t - 1 - u) []) (A.getD u [])) (s0 - a) (r0 - a) (i - a) (h - a)) := Lib.hid (HBI.out.down HMO.out (by omega) (by omega) (by simp only [HYD.out.1, HYD.out.2, hyv, Bool.not_true]))
          rw [hyv] at hcl
          clear hyv
          go_wp2_with fail
          go_roundw
          case rel => exact ⟨i, h, hil, by omega, by omega, rfl, rfl, HBN, HO4, Lib.hid (HB.out.trans (HB4.out.mono (Nat.le_trans HBW.out HB.out.size)))⟩
          case measure => simp [intOf]; omega
      · obtain rfl : i = j := by omega
        obtain ⟨L1, L2, R1, R2, hAL, hDR, hl1, hr1', h1, h2⟩ := HCUT.out _ HBI.out
        obtain ⟨en, hen⟩ : ∃ q, nn - i = q := ⟨_, rfl⟩
        have hev : (nn : Int) - (i : Int) = (en : Int) := by have := HQ.out; omega
        have hbn : m ≤ en ∧ en ≤ b ∧ mid ≤ en ∧ a ≤ i ∧ i ≤ mid ∧ i ≤ m := by have := HQ.out; omega
        have HLL : Hid (L1.length = i - a ∧ L2.length = m - i ∧ R1.length = mid - i ∧ R2.length = b - en ∧ en - mid = m - i ∧ en - m = mid - i) := Lib.hid (by
          have q := HQ.out
          obtain ⟨q1, q2, q3⟩ := HLN.out
          rw [hAL, List.length_append] at q2
          rw [hDR, List.length_append] at q3
          refine ⟨hl1, ?_, ?_, ?_, ?_, ?_⟩ <;> omega)
        have HSA : Hid (Pl.Srt (lessO ord) (L1 ++ L2)) := Lib.hid (by rw [← hAL]; exact HSS.out.1)
        have HSD : Hid (Pl.Srt (lessO ord) (R1 ++ R2)) := Lib.hid (by rw [← hDR]; exact HSS.out.2)
        have HC1 := Lib.hid h1
        have HC2 := Lib.hid h2
        have HAL := Lib.hid hAL
        have HDR := Lib.hid hDR
        have hom := HO.out
        rw [show P ++ (A ++ (D ++ S)) = (P ++ L1) ++ (L2 ++ (R1 ++ (R2 ++ S))) from by rw [hAL, hDR]; simp] at hom
        have HOM := Lib.hid hom
        have HMM : Hid (n = ((P ++ L1) ++ (L2 ++ (R1 ++ (R2 ++ S)))).length ∧ Things kstand ((P ++ L1) ++ (L2 ++ (R1 ++ (R2 ++ S))))) := Lib.hid (by have h1 := HN.out; have h2 := HM.out; rw [show P ++ (A ++ (D ++ S)) = (P ++ L1) ++ (L2 ++ (R1 ++ (R2 ++ S))) from by rw [hAL, hDR]; simp] at h1 h2; exact ⟨h1, h2⟩)
        obtain ⟨hb1, hb2, hb3, hb4, hb5, hb6⟩ := hbn
        clear hAL hDR hl1 hr1' h1 h2 hom hlt hen HBI HO HCUT HB0 HX0 HY0 HMO
        obtain ⟨k1, hk1⟩ : ∃ k, (decide (i < m) && decide (m < en)) = k := ⟨_, rfl⟩
        obtain ⟨k2, hk2⟩ : ∃ k, (decide (a < i) && decide (i < mid)) = k := ⟨_, rfl⟩
        obtain ⟨k3, hk3⟩ : ∃ k, (decide (mid < en) && decide (en < b)) = k := ⟨_, rfl⟩
        have HK1 := Lib.hid hk1
        have HK2 := Lib.hid hk2
        have HK3 := Lib.hid hk3
        clear hk1 hk2 hk3
        go_upto_region 39 with fail
        go_cut [185] from 178 to 185 (fun q wx => q = .bool k1 ∧ wr = wx)
        case first =>
          by_cases q1 : i < m
          · by_cases q2 : m < en
            · have HV : Hid (k1 = true) := Lib.hid (by rw [← HK1.out]; simp; omega)
              go_wp2_with fail
              go_meet
              exact ⟨congrArg Value.bool (by rw [HV.out] <;> first | rfl | (simp; omega)), rfl⟩
            · have HV : Hid (k1 = false) := Lib.hid (by rw [← HK1.out]; simp; omega)
              go_wp2_with fail
              go_meet
              exact ⟨congrArg Value.bool (by rw [HV.out] <;> first | rfl | (simp; omega)), rfl⟩
          · have HV : Hid (k1 = false) := Lib.hid (by rw [← HK1.out]; simp; omega)
            go_wp2_with fail
            go_meet
            exact ⟨congrArg Value.bool (by rw [HV.out] <;> first | rfl | (simp; omega)), rfl⟩
        case rest =>
          obtain ⟨rfl, rfl⟩ := hcut
          go_upto_if 185 with fail
          go_cut [24] from 186 to 191 (fun q wx => q = .int .i64 (en : Int) ∧ ∃ W, W = wx ∧ Hid (W.ownsRow B 112 8 (.slice (some ⟨g, 0, none⟩) n c) n ((P ++ L1) ++ (R1 ++ (L2 ++ (R2 ++ S)))).flatten) ∧ Hid (Below B w W))
          case first =>
            cases k1 with
            | true =>
              have hk : i < m ∧ m < en := by have := HK1.out; simpa using this
              go_wp2_with fail
              refine (rotastand B g n c K (P ++ L1) L2 R1 (R2 ++ S) _ _ _ _ (by rw [List.length_append]; have := HLL.out; have := HLN.out; omega) (by rw [List.length_append]; have := HLL.out; have := HLN.out; omega) (by rw [List.length_append]; have := HLL.out; have := HLN.out; omega) (by have := HLL.out; omega) (by have := HLL.out; omega) HMM.out.1 hn6 HMM.out.2 HOM.out (Nat.le_trans HBW.out HB.out.size)).mono ?_
              rintro e w1 ⟨rfl, ho1, hb1⟩
              have HO1 := Lib.hid ho1
              have HB1 := Lib.hid (HB.out.trans hb1)
              clear ho1 hb1
              go_wp2_with fail
              go_meet
              exact ⟨rfl, _, rfl, HO1, HB1⟩
            | false =>
              have HO1 : Hid (wr.ownsRow B 112 8 (.slice (some ⟨g, 0, none⟩) n c) n ((P ++ L1) ++ (R1 ++ (L2 ++ (R2 ++ S)))).flatten) := Lib.hid (by
                have h := HOM.out
                have hq := HLL.out
                have hk : ¬ (i < m ∧ m < en) := by have := HK1.out; simpa using this
                have e : L2 = [] ∨ R1 = [] := by
                  by_cases hm : i < m
                  · exact .inr (List.length_eq_zero_iff.1 (by omega))
                  · exact .inl (List.length_eq_zero_iff.1 (by omega))
                rcases e with e | e
                · rw [e] at h ⊢; exact h
                · rw [e] at h ⊢; exact h)
              go_wp2_with fail
              go_meet
              exact ⟨rfl, _, rfl, HO1, HB⟩
          case rest =>
            obtain ⟨rfl, W1, rfl, HO1, HB1⟩ := hcut
            have hm1 : (P ++ L1) ++ (R1 ++ (L2 ++ (R2 ++ S))) = P ++ (L1 ++ (R1 ++ (L2 ++ (R2 ++ S)))) := by simp
            have ho1 := HO1.out
            rw [hm1] at ho1
            have HO1' := Lib.hid ho1
            have HM1 : Hid (n = (P ++ (L1 ++ (R1 ++ (L2 ++ (R2 ++ S))))).length ∧ Things kstand (P ++ (L1 ++ (R1 ++ (L2 ++ (R2 ++ S)))))) := Lib.hid (by
              have e : (P ++ (L1 ++ (R1 ++ (L2 ++ (R2 ++ S))))).Perm ((P ++ L1) ++ (L2 ++ (R1 ++ (R2 ++ S)))) := by
                rw [← hm1]
                refine List.Perm.append_left _ ?_
                rw [← List.append_assoc, ← List.append_assoc L2]
                exact List.Perm.append_right _ List.perm_append_comm
              exact ⟨HMM.out.1.trans e.length_eq.symm, things_perm HMM.out.2 e⟩)
            clear hm1 ho1
            go_upto_region 41 with fail
            go_cut [199] from 192 to 199 (fun q wx => q = .bool k2 ∧ W1 = wx)
            case first =>
              by_cases q1 : a < i
              · by_cases q2 : i < mid
                · have HV : Hid (k2 = true) := Lib.hid (by rw [← HK2.out]; simp; omega)
                  go_wp2_with fail
                  go_meet
                  exact ⟨congrArg Value.bool (by rw [HV.out] <;> first | rfl | (simp; omega)), rfl⟩
                · have HV : Hid (k2 = false) := Lib.hid (by rw [← HK2.out]; simp; omega)
                  go_wp2_with fail
                  go_meet
                  exact ⟨congrArg Value.bool (by rw [HV.out] <;> first | rfl | (simp; omega)), rfl⟩
              · have HV : Hid (k2 = false) := Lib.hid (by rw [← HK2.out]; simp; omega)
                go_wp2_with fail
                go_meet
                exact ⟨congrArg Value.bool (by rw [HV.out] <;> first | rfl | (simp; omega)), rfl⟩
            case rest =>
              obtain ⟨rfl, rfl⟩ := hcut
              go_upto_if 199 with fail
              go_cut [24] from 200 to 205 (fun q wx => q = .int .i64 (en : Int) ∧ ∃ W, W = wx ∧ ∃ C1, Hid (Pl.Stb (lessO ord) C1 (L1 ++ R1)) ∧ Hid (Pl.Srt (lessO ord) C1) ∧ Hid (W.ownsRow B 112 8 (.slice (some ⟨g, 0, none⟩) n c) n (P ++ (C1 ++ (L2 ++ (R2 ++ S)))).flatten) ∧ Hid (Below B w W))
              case first =>
                cases k2 with
                | true =>
                  have hk : a < i ∧ i < mid := by have := HK2.out; simpa using this
                  go_wp2_with fail
                  refine (HI.out P L1 R1 (L2 ++ (R2 ++ S)) _ _ _ _ (by have := HLL.out; have := HQ.out; omega) (by rw [HLN.out.1]) (by have := HLL.out; have := HLN.out; omega) (by have := HLL.out; have := HLN.out; omega) (by have := HLL.out; omega) (by have := HLL.out; omega) HM1.out.1 HM1.out.2 (Pl.srt_app.1 HSA.out).1 (Pl.srt_app.1 HSD.out).1 HO1'.out (Nat.le_trans HBW.out HB1.out.size)).mono ?_
                  rintro e w1 ⟨rfl, C1, hp1, hs1, ho1, hb1⟩
                  have HP2 := Lib.hid hp1
                  have HS2 := Lib.hid hs1
                  have HO2 := Lib.hid ho1
                  have HB2 := Lib.hid (HB1.out.trans hb1)
                  clear hp1 hs1 ho1 hb1
                  go_wp2_with fail
                  go_meet
                  exact ⟨rfl, _, rfl, C1, HP2, HS2, HO2, HB2⟩
                | false =>
                  have HS2 : Hid (Pl.Srt (lessO ord) (L1 ++ R1)) := Lib.hid (by
                    have hq := HLL.out
                    have hk : ¬ (a < i ∧ i < mid) := by have := HK2.out; simpa using this
                    have e : L1 = [] ∨ R1 = [] := by
                      by_cases hm : a < i
                      · exact .inr (List.length_eq_zero_iff.1 (by omega))
                      · exact .inl (List.length_eq_zero_iff.1 (by omega))
                    rcases e with e | e
                    · rw [e]; exact (Pl.srt_app.1 HSD.out).1
                    · rw [e, List.append_nil]; exact (Pl.srt_app.1 HSA.out).1)
                  have HO2 : Hid (W1.ownsRow B 112 8 (.slice (some ⟨g, 0, none⟩) n c) n (P ++ ((L1 ++ R1) ++ (L2 ++ (R2 ++ S)))).flatten) := Lib.hid (by have h := HO1'.out; rw [← List.append_assoc L1 R1] at h; exact h)
                  go_wp2_with fail
                  go_meet
                  exact ⟨rfl, _, rfl, L1 ++ R1, Lib.hid (Pl.Stb.refl _ _), HS2, HO2, HB1⟩
              case rest =>
                obtain ⟨rfl, W2, rfl, C1, HP2, HS2, HO2, HB2⟩ := hcut
                have hm2 : P ++ (C1 ++ (L2 ++ (R2 ++ S))) = (P ++ C1) ++ (L2 ++ (R2 ++ S)) := by simp
                have ho2 := HO2.out
                rw [hm2] at ho2
                have HO2' := Lib.hid ho2
                have HM2 : Hid (n = ((P ++ C1) ++ (L2 ++ (R2 ++ S))).length ∧ Things kstand ((P ++ C1) ++ (L2 ++ (R2 ++ S)))) := Lib.hid (by
                  have e : ((P ++ C1) ++ (L2 ++ (R2 ++ S))).Perm (P ++ (L1 ++ (R1 ++ (L2 ++ (R2 ++ S))))) := by
                    rw [← hm2, ← List.append_assoc L1 R1]
                    exact List.Perm.append_left _ (List.Perm.append_right _ HP2.out.perm)
                  exact ⟨HM1.out.1.trans e.length_eq.symm, things_perm HM1.out.2 e⟩)
                have HL2 : Hid ((P ++ C1).length = mid) := Lib.hid (by have h := HP2.out.length_eq; have := HLL.out; have := HLN.out; rw [List.length_append] at h ⊢; omega)
                clear hm2 ho2
                go_upto_region 43 with fail
                go_cut [213] from 206 to 213 (fun q wx => q = .bool k3 ∧ W2 = wx)
                case first =>
                  by_cases q1 : mid < en
                  · by_cases q2 : en < b
                    · have HV : Hid (k3 = true) := Lib.hid (by rw [← HK3.out]; simp; omega)
                      go_wp2_with fail
                      go_meet
                      exact ⟨congrArg Value.bool (by rw [HV.out] <;> first | rfl | (simp; omega)), rfl⟩
                    · have HV : Hid (k3 = false) := Lib.hid (by rw [← HK3.out]; simp; omega)
                      go_wp2_with fail
                      go_meet
                      exact ⟨congrArg Value.bool (by rw [HV.out] <;> first | rfl | (simp; omega)), rfl⟩
                  · have HV : Hid (k3 = false) := Lib.hid (by rw [← HK3.out]; simp; omega)
                    go_wp2_with fail
                    go_meet
                    exact ⟨congrArg Value.bool (by rw [HV.out] <;> first | rfl | (simp; omega)), rfl⟩
                case rest =>
                  obtain ⟨rfl, rfl⟩ := hcut
                  have HEND : Hid (∀ C2, Pl.Stb (lessO ord) C2 (L2 ++ R2) → Pl.Srt (lessO ord) C2 → Pl.Srt (lessO ord) (C1 ++ C2) ∧ Pl.Stb (lessO ord) (C1 ++ C2) (A ++ D)) := Lib.hid (fun C2 hp hs => by rw [HAL.out, HDR.out]; exact Pl.srt_halves HW.out HSA.out HSD.out HC1.out HC2.out HP2.out hp HS2.out hs)
                  cases k3 with
                  | true =>
                    have hk : mid < en ∧ en < b := by have := HK3.out; simpa using this
                    go_wp2_with fail
                    refine (HI.out (P ++ C1) L2 R2 S _ _ _ _ (by have := HLL.out; have := HQ.out; omega) (by rw [HL2.out]) (by rw [HL2.out]; have := HLL.out; omega) (by rw [HL2.out]; have := HLL.out; omega) (by have := HLL.out; omega) (by have := HLL.out; omega) HM2.out.1 HM2.out.2 (Pl.srt_app.1 HSA.out).2.1 (Pl.srt_app.1 HSD.out).2.1 HO2'.out (Nat.le_trans HBW.out HB2.out.size)).mono ?_
                    rintro e w1 ⟨rfl, C2, hp1, hs1, ho1, hb1⟩
                    have HE := Lib.hid (HEND.out C2 hp1 hs1)
                    have HO3 := Lib.hid ho1
                    have HB3 := Lib.hid (HB2.out.trans hb1)
                    clear hp1 hs1 ho1 hb1
                    go_wp2_with fail
                    go_end0
                    exact ⟨rfl, C1 ++ C2, HE.out.2, HE.out.1, by have h := HO3.out; rw [List.append_assoc] at h; rw [List.append_assoc]; exact h, HB3.out⟩
                  | false =>
                    have HE := Lib.hid (HEND.out (L2 ++ R2) (Pl.Stb.refl _ _) (by
                      have hq := HLL.out
                      have hk : ¬ (mid < en ∧ en < b) := by have := HK3.out; simpa using this
                      have e : L2 = [] ∨ R2 = [] := by
                        by_cases hm : mid < en
                        · exact .inr (List.length_eq_zero_iff.1 (by omega))
                        · exact .inl (List.length_eq_zero_iff.1 (by omega))
                      rcases e with e | e
                      · rw [e]; exact (Pl.srt_app.1 HSD.out).2.1
                      · rw [e, List.append_nil]; exact (Pl.srt_app.1 HSA.out).2.1))
                    go_wp2_with fail
                    go_end0
                    exact ⟨rfl, C1 ++ (L2 ++ R2), HE.out.2, HE.out.1, by have h := HO2'.out; simp only [List.append_assoc] at h ⊢; exact h, HB2.out⟩
theorem symmstand (B g n c K : Nat) (ord : List Value → List Value → Int) (hn6 : n ≤ 100000) (hT : TellsC kstand K ord) (hW : Pl.Weak (lessO ord)) : ∀ N, Mergesstand B g n c K ord N
  | 0 => fun P A D S za zm zb w h0 _ _ _ hA _ _ _ _ _ _ _ => by omega
  | N + 1 => fun P A D S za zm zb w hN hza hzm hzb hA hD hn hM hsA hsD ho hB => by
    have ih := symmstand B g n c K ord hn6 hT hW N
    by_cases h1 : A.length = 1
    · obtain ⟨x, hx⟩ := List.length_eq_one_iff.1 h1
      subst hx
      exact symm1stand B g n c K ord P D S x za zm zb w hza hzm hzb hD hn hn6 hM hT hW hsD ho hB
    · by_cases h2 : D.length = 1
      · obtain ⟨x, hx⟩ := List.length_eq_one_iff.1 h2
        subst hx
        exact (symm2stand B g n c K ord P A S x za zm zb w hza hzm hzb (by omega) hn hn6 hM hT hW hsA ho hB).mono (fun e w' ⟨he, C, hp, hs, ho, hb⟩ => ⟨he, C, hp, hs, ho, hb⟩)
      · exact symm3stand B g n c K ord N ih P A D S za zm zb w hN hza hzm hzb (by omega) (by omega) hn hn6 hM hT hW hsA hsD ho hB
end Go.Proofs.YtnkhnbpopdmkhaaGreat
