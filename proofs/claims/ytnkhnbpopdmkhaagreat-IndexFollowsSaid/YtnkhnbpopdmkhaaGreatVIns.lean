/-
  CONTRACTS of slices' insertion sort over things. (By wip/tools/gen_vsort.py.)
-/
import Derived.Test.YtnkhnbpopdmkhaaGreatVRot
import Derived.BigRegion
import Derived.Maps.RangeWalk
import Derived.IntWalk
namespace Go.Proofs.YtnkhnbpopdmkhaaGreat
set_option linter.unusedVariables false
open Go.RowKit

theorem sink_stb {lt : List Value → List Value → Bool} (W : Pl.Weak lt) {P S M A C A' B' R' : List (List Value)} {v : List Value} (h : Pl.Sink lt P (R' ++ S) M v A' B') (h1 : Pl.Stb lt (A' ++ B') C) (h2 : Pl.Stb lt (C ++ v :: R') A) : M.Perm (P ++ (A ++ S)) ∧ Pl.Stb lt ((A' ++ v :: B') ++ R') A := by
  have e0 : Pl.Stb lt (A' ++ v :: B') ((A' ++ B') ++ [v]) := by
    have := (Pl.Stb.swap W (R := [v]) (L := B') (fun y hy b hb => by rw [List.mem_singleton] at hy; subst hy; exact h.big b hb)).append_left A'
    rw [← List.append_assoc A' B'] at this
    exact this
  have e1 : Pl.Stb lt ((A' ++ v :: B') ++ R') A := by
    refine Pl.Stb.trans ?_ h2
    have e2 := (e0.trans (h1.append_right [v])).append_right R'
    rw [List.append_assoc C] at e2
    exact e2
  refine ⟨?_, e1⟩
  have e2 : M = P ++ (((A' ++ v :: B') ++ R') ++ S) := by rw [h.lst]; simp
  rw [e2]
  exact List.Perm.append_left _ (List.Perm.append_right _ e1.perm)
set_option maxRecDepth 100000 in
set_option maxHeartbeats 3200000 in
theorem inserstand (B g n c K : Nat) (ord : List Value → List Value → Int) (P A S : List (List Value)) (za zb : Int) (w : World) (hza : za = (P.length : Int)) (hzb : zb = ((P.length + A.length : Nat) : Int)) (hn : n = (P ++ (A ++ S)).length) (hn6 : n ≤ 100000) (hM : Things kstand (P ++ (A ++ S))) (hT : TellsC kstand K ord) (hW : Pl.Weak (lessO ord)) (ho : w.ownsRow B 112 8 (.slice (some ⟨g, 0, none⟩) n c) n (P ++ (A ++ S)).flatten) (hB : B ≤ w.heap.size) :
    Calls Tryz.prog 70 #[.slice (some ⟨g, 0, none⟩) n c, .int .i64 za, .int .i64 zb, .func (.func K) #[] #[]] w fun e w' => e = .returned (.tuple #[]) ∧ ∃ C, Pl.Stb (lessO ord) C A ∧ Pl.Srt (lessO ord) C ∧ w'.ownsRow B 112 8 (.slice (some ⟨g, 0, none⟩) n c) n (P ++ (C ++ S)).flatten ∧ Below B w w' := by
  have hu := Tryz.underlying112
  have hent := hT.1
  rcases Nat.eq_zero_or_pos A.length with h0 | h0
  · skip
    have hA : A = [] := List.length_eq_zero_iff.1 h0
    have HEND : Hid (∃ C, Pl.Stb (lessO ord) C A ∧ Pl.Srt (lessO ord) C ∧ w.ownsRow B 112 8 (.slice (some ⟨g, 0, none⟩) n c) n (P ++ (C ++ S)).flatten ∧ Below B w w) := Lib.hid ⟨A, Pl.Stb.refl _ _, by rw [hA]; exact Pl.Srt.nil, ho, Below.refl _ _⟩
    have hln : P.length ≤ n := by rw [hn, List.length_append]; omega
    rw [h0] at hzb
    obtain ⟨a, hpa⟩ : ∃ a, P.length = a := ⟨_, rfl⟩
    rw [hpa] at hza hzb hln
    subst hza hzb
    clear hn hM ho hB hpa h0 hA
    go_enter Tryz.func70, Tryz.ntmps70
    go_wp2_with fail
    go_loopw [8] (fun iv wr => iv = .int .i64 ((a : Int) + 1) ∧ Hid (wr = w)) (fun _ _ => 0)
    case atStart => exact ⟨by first | rfl | go_num, Lib.hid rfl⟩
    case round =>
      obtain ⟨rfl, hwr⟩ := hrel
      go_wp2_with fail
      go_end0
      rw [hwr.out]
      exact ⟨rfl, HEND.out⟩
  · skip
    have HTC := Lib.hid hT.2
    have HW := Lib.hid hW
    have HN := Lib.hid hn
    have HM := Lib.hid hM
    have HBW := Lib.hid hB
    have hln : P.length + A.length ≤ n := by rw [hn, List.length_append, List.length_append]; omega
    obtain ⟨v0, A1, hA⟩ : ∃ v A1, A = v :: A1 := by
      cases A with
      | nil => simp at h0
      | cons v A1 => exact ⟨v, A1, rfl⟩
    have HS0 : Hid (Pl.Srt (lessO ord) [v0]) := Lib.hid (Pl.Srt.one v0)
    have HP0 : Hid (Pl.Stb (lessO ord) ([v0] ++ A1) A) := Lib.hid (by rw [hA]; exact Pl.Stb.refl _ _)
    have HO0 : Hid (w.ownsRow B 112 8 (.slice (some ⟨g, 0, none⟩) n c) n (P ++ ([v0] ++ (A1 ++ S))).flatten) := Lib.hid (by rw [hA] at ho; exact ho)
    have HLA : Hid (∀ C R : List (List Value), Pl.Stb (lessO ord) (C ++ R) A → C.length + R.length = A.length) := Lib.hid (fun C R h => by have := h.length_eq; rwa [List.length_append] at this)
    obtain ⟨m, hm⟩ : ∃ m, A.length = m := ⟨_, rfl⟩
    obtain ⟨a, hpa⟩ : ∃ a, P.length = a := ⟨_, rfl⟩
    obtain ⟨b, hb⟩ : ∃ b, a + m = b := ⟨_, rfl⟩
    have HPA := Lib.hid hpa
    rw [hm] at hln hzb HLA h0
    rw [hpa] at hza hzb hln
    rw [hb] at hzb hln
    subst hza hzb
    have hab : a + 1 ≤ b := by omega
    have HAB := Lib.hid hb
    clear hn hM ho hB hpa hm hA hT hW hb h0
    go_enter Tryz.func70, Tryz.ntmps70
    go_wp2_with fail
    go_loopw [8] (fun iv wr => ∃ (i : Nat) (C R : List (List Value)), a + 1 ≤ i ∧ i ≤ b ∧ iv = .int .i64 (i : Int) ∧ Hid (a + C.length = i) ∧ Hid (Pl.Stb (lessO ord) (C ++ R) A) ∧ Hid (Pl.Srt (lessO ord) C) ∧ Hid (wr.ownsRow B 112 8 (.slice (some ⟨g, 0, none⟩) n c) n (P ++ (C ++ (R ++ S))).flatten) ∧ Hid (Below B w wr)) (fun iv _ => b - (intOf iv).toNat)
    case atStart => exact ⟨a + 1, [v0], A1, by omega, hab, by first | rfl | go_num, Lib.hid rfl, HP0, HS0, HO0, Lib.hid (Below.refl _ _)⟩
    case round =>
      obtain ⟨i, C, R, hi1, hi, rfl, HCL, HPE, HSC, HOM, HBM⟩ := hrel
      by_cases hlt : i < b
      · skip
        obtain ⟨v, R', hR⟩ : ∃ v R', R = v :: R' := by
          cases R with
          | nil =>
            have h1 := HLA.out _ _ HPE.out
            have h2 := HCL.out
            have h3 := HAB.out
            simp only [List.length_nil] at h1
            omega
          | cons v R' => exact ⟨v, R', rfl⟩
        subst hR
        have HS0' : Hid (Pl.Sink (lessO ord) P (R' ++ S) (P ++ (C ++ (v :: R' ++ S))) v C []) := Lib.hid ⟨by simp, by rw [List.append_nil]; exact HSC.out, fun b hb => by cases hb⟩
        have HPR : Hid (∀ M A' B', Pl.Sink (lessO ord) P (R' ++ S) M v A' B' → Pl.Stb (lessO ord) (A' ++ B') C → M.Perm (P ++ (A ++ S)) ∧ Pl.Stb (lessO ord) ((A' ++ v :: B') ++ R') A) := Lib.hid (fun M A' B' h1 h2 => sink_stb HW.out h1 h2 HPE.out)
        have HPC : Hid (Pl.Stb (lessO ord) (C ++ []) C) := Lib.hid (by rw [List.append_nil]; exact Pl.Stb.refl _ _)
        have hci := HCL.out
        clear HS0 HP0 HO0
        go_wp2_with fail
        go_loopw [9] (fun jv wr => ∃ (j : Nat) (A' B' M : List (List Value)), a ≤ j ∧ j ≤ i ∧ jv = .int .i64 (j : Int) ∧ Hid (a + A'.length = j) ∧ Hid (Pl.Stb (lessO ord) (A' ++ B') C) ∧ Hid (Pl.Sink (lessO ord) P (R' ++ S) M v A' B') ∧ Hid (wr.ownsRow B 112 8 (.slice (some ⟨g, 0, none⟩) n c) n (M).flatten) ∧ Hid (Below B w wr)) (fun jv _ => (intOf jv).toNat)
        case atStart => exact ⟨i, C, [], _, by omega, by omega, rfl, HCL, HPC, HS0', HOM, HBM⟩
        case round =>
          obtain ⟨j, A', B', M, haj, hji, rfl, HJL, HPI, HS, HO, HB⟩ := hrel
          clear hci
          by_cases hja : j = a
          · skip
            have hA0 : A' = [] := List.length_eq_zero_iff.1 (by have := HJL.out; omega)
            have HQS := Lib.hid (HS.out.done HW.out (.inl hA0))
            have HQP := Lib.hid (HPR.out _ _ _ HS.out HPI.out).2
            have HQL : Hid (a + (A' ++ v :: B').length = i + 1) := Lib.hid (by have h1 := HPI.out.length_eq; have h2 := HCL.out; have h3 := HJL.out; simp only [List.length_append, List.length_cons] at h1 h3 ⊢; omega)
            have hM' : M = P ++ ((A' ++ v :: B') ++ (R' ++ S)) := by rw [HS.out.lst, List.append_assoc]
            rw [hM'] at HO
            clear hA0 hM'
            subst hja
            go_wp2_with fail
            go_quiet (fail)
            go_wp2_with fail
            go_roundw
            case rel => exact ⟨i + 1, _, _, by omega, by omega, by go_num, HQL, HQP, HQS, Lib.hid (own_below HO.out (below_drewN (Below.refl _ _) _)), Lib.hid (below_drewN HB.out _)⟩
            case measure => simp [intOf]; omega
          · skip
            obtain ⟨A0, y, hA'⟩ : ∃ A0 y, A' = A0 ++ [y] := by
              have hne : A' ≠ [] := by intro h; have := HJL.out; rw [h] at this; simp at this; omega
              exact ⟨A'.dropLast, A'.getLast hne, (List.dropLast_concat_getLast hne).symm⟩
            subst hA'
            obtain ⟨q, hq⟩ : ∃ q, j = q + 1 := ⟨j - 1, by omega⟩
            subst hq
            have hql : P.length + A0.length = q := by have h1 := HJL.out; rw [List.length_append, List.length_singleton] at h1; have h2 := HPA.out; omega
            have HV1 : Hid (M[q + 1]? = some v) := Lib.hid (by
              have e := some_at HS.out.here
              rw [show P.length + (A0 ++ [y]).length = q + 1 from by rw [List.length_append, List.length_singleton]; omega] at e
              exact e)
            have HY1 : Hid (M[q]? = some y) := Lib.hid (by
              have e := some_at HS.out.below
              rw [hql] at e
              exact e)
            have hpm := HPR.out _ _ _ HS.out HPI.out
            have HTM : Hid (Things kstand M) := Lib.hid (things_perm HM.out hpm.1)
            have HMN : Hid (n = M.length) := Lib.hid (HN.out.trans hpm.1.length_eq.symm)
            have FX : Hid (Fits kstand v) := Lib.hid (at_fits HTM.out HV1.out)
            have FY : Hid (Fits kstand y) := Lib.hid (at_fits HTM.out HY1.out)
            have HLX : Hid (v.length = 8) := Lib.hid (FX.out.length)
            have HIX : Hid ((Tryz.prog.info? 112).map (·.size) = some v.length) := Lib.hid (by rw [HLX.out]; kernel_rfl)
            have HAX : Hid ((Tryz.prog.info? 112).map (·.size) = some v.toArray.size) := Lib.hid (by rw [List.size_toArray, HLX.out]; kernel_rfl)
            have HOX : Hid (v.toArray.all (·.oneCell') = true) := Lib.hid (all_oneCell_toArray (fits_one FX.out))
            have HLY : Hid (y.length = 8) := Lib.hid (FY.out.length)
            have HIY : Hid ((Tryz.prog.info? 112).map (·.size) = some y.length) := Lib.hid (by rw [HLY.out]; kernel_rfl)
            have HAY : Hid ((Tryz.prog.info? 112).map (·.size) = some y.toArray.size) := Lib.hid (by rw [List.size_toArray, HLY.out]; kernel_rfl)
            have HOY : Hid (y.toArray.all (·.oneCell') = true) := Lib.hid (all_oneCell_toArray (fits_one FY.out))
            have HRV : Hid (∀ W, Below wr.heap.size wr W → W.rangeAt g ((q + 1) * 8) v) := Lib.hid (fun W hW => row_at (own_below HO.out hW) HTM.out (by decide) HMN.out HV1.out)
            have HRY : Hid (∀ W, Below wr.heap.size wr W → W.rangeAt g (q * 8) y) := Lib.hid (fun W hW => row_at (own_below HO.out hW) HTM.out (by decide) HMN.out HY1.out)
            have hqn : q + 1 < n := by rw [HMN.out]; exact at_lt HV1.out
            have HQL0 := Lib.hid hql
            obtain ⟨r, hr⟩ : ∃ r, ord v y = r := ⟨_, rfl⟩
            have HCV : Hid (∀ W, Calls Tryz.prog K #[.agg v.toArray, .agg y.toArray] W fun e w' => e = .returned (.int .i64 r) ∧ Below W.heap.size W w') := Lib.hid (fun W => by rw [← hr]; exact HTC.out W v y FX.out FY.out)
            have hcl := lessO_int ord v y hr
            have hg1 : decide ((a : Int) < (q : Int) + 1) = true := by simp; omega
            have hg2 : decide (a < q + 1) = true := by simp; omega
            have hg3 : decide (a ≤ q) = true := by simp; omega
            clear hql hr hpm
            go_wp2_with fail
            refine wp_grow wr (by kernel_rfl) (by kernel_rfl) (Below.refl _ _) ?_
            simp only []
            iterate 8 go_big_quiet_step (fail)
            refine BigFrame.wpQuiet_want (by kernel_rfl) (fun K hK => quiet_load_mid 112 (.tmp 25) rfl g ((q + 1) * 8) rfl v _ (fun W ⟨X, hX⟩ => by rw [hX]; exact HRV.out _ X.h) hu rfl HIX.out (hK _ ?_))
            simp only [Act.put, List.setIfInBounds_toArray, List.set_cons_zero, List.set_cons_succ]
            iterate 4 go_big_quiet_step (fail)
            refine BigFrame.wpQuiet_want (by kernel_rfl) (fun K hK => quiet_load_mid 112 (.tmp 30) rfl g (q * 8) rfl y _ (fun W ⟨X, hX⟩ => by rw [hX]; exact HRY.out _ X.h) hu rfl HIY.out (hK _ ?_))
            simp only [Act.put, List.setIfInBounds_toArray, List.set_cons_zero, List.set_cons_succ]
            go_big_quiet_step (exact grow_call _ (HCV.out _))
            iterate 2 go_big_quiet_step (fail)
            refine wpQuiet_nil ?_
            intro X
            have hb4 := X.h
            obtain ⟨W4, hW4⟩ : ∃ W, X.W = W := ⟨_, rfl⟩
            rw [hW4] at hb4 ⊢
            clear hW4 X
            have HB4 := Lib.hid hb4
            have HO4 := Lib.hid (own_below HO.out hb4)
            clear hb4
            cases hyv : lessO ord v y with
            | true =>
              have HNX := HS.out.next hyv
              rw [HQL0.out] at HNX
              have HNX' := Lib.hid HNX
              have HPN : Hid (Pl.Stb (lessO ord) (A0 ++ (y :: B')) C) := Lib.hid (by have := HPI.out; rwa [List.append_assoc] at this)
              rw [hyv] at hcl
              clear HNX hyv
              have HSW := Lib.hid (row_swap (own_below HO4.out (Below.refl _ _).drew) (own_ge HO4.out) HTM.out (by decide) HMN.out HV1.out HY1.out)
              go_wp2_with fail
              have hwq : IntKind.i64.wrap (q : Int) = (q : Int) := IntWalk.i64_in _ (by omega)
              apply region_to
              case h =>
                refine wp_region_any (by kernel_rfl) ?_
                refine wpAny_take (i := 0) (v := .slice (some ⟨g, 0, none⟩) n c) rfl (by kernel_rfl) (by kernel_rfl) (by kernel_rfl) (fun _ _ _ h => nomatch h.1) (.inl ⟨by rfl, fun w => by go_simp⟩) ?_
                simp only [Act.put, List.getElem_toArray, List.getElem_cons_zero, List.setIfInBounds_toArray, List.set_cons_zero, List.set_cons_succ]
                refine wpAny_take (i := 1) (v := .int .i64 ((q + 1 : Nat) : Int)) rfl (by kernel_rfl) (by kernel_rfl) (by kernel_rfl) (fun _ _ _ h => nomatch h.1) (.inl ⟨by rfl, fun w => by go_simp⟩) ?_
                simp only [Act.put, List.getElem_toArray, List.getElem_cons_succ, List.getElem_cons_zero, List.setIfInBounds_toArray, List.set_cons_zero, List.set_cons_succ]
                refine wpAny_take (i := 2) (v := .slice (some ⟨g, 0, none⟩) n c) rfl (by kernel_rfl) (by kernel_rfl) (by kernel_rfl) (fun _ _ _ h => nomatch h.1) (.inl ⟨by rfl, fun w => by go_simp⟩) ?_
                simp only [Act.put, List.getElem_toArray, List.getElem_cons_succ, List.getElem_cons_zero, List.setIfInBounds_toArray, List.set_cons_zero, List.set_cons_succ]
                refine wpAny_take (i := 3) (v := .int .i64 ((q + 1 : Nat) : Int)) rfl (by kernel_rfl) (by kernel_rfl) (by kernel_rfl) (fun _ _ _ h => nomatch h.1) (.inl ⟨by rfl, fun w => by go_simp⟩) ?_
                simp only [Act.put, List.getElem_toArray, List.getElem_cons_succ, List.getElem_cons_zero, List.setIfInBounds_toArray, List.set_cons_zero, List.set_cons_succ]
                refine wpAny_take (i := 4) (v := .int .i64 (q : Int)) rfl (by kernel_rfl) (by kernel_rfl) (by kernel_rfl) (fun _ _ _ h => nomatch h.1) (.inl ⟨by rfl, fun w => by go_simp⟩) ?_
                simp only [Act.put, List.getElem_toArray, List.getElem_cons_succ, List.getElem_cons_zero, List.setIfInBounds_toArray, List.set_cons_zero, List.set_cons_succ]
                refine wpAny_take (i := 5) (v := .slice (some ⟨g, 0, none⟩) n c) rfl (by kernel_rfl) (by kernel_rfl) (by kernel_rfl) (fun _ _ _ h => nomatch h.1) (.inl ⟨by rfl, fun w => by go_simp⟩) ?_
                simp only [Act.put, List.getElem_toArray, List.getElem_cons_succ, List.getElem_cons_zero, List.setIfInBounds_toArray, List.set_cons_zero, List.set_cons_succ]
                refine wpAny_take (i := 6) (v := .int .i64 ((q + 1 : Nat) : Int)) rfl (by kernel_rfl) (by kernel_rfl) (by kernel_rfl) (fun _ _ _ h => nomatch h.1) (.inl ⟨by rfl, fun w => by go_simp⟩) ?_
                simp only [Act.put, List.getElem_toArray, List.getElem_cons_succ, List.getElem_cons_zero, List.setIfInBounds_toArray, List.set_cons_zero, List.set_cons_succ]
                refine wpAny_take (i := 7) (v := .int .i64 (q : Int)) rfl (by kernel_rfl) (by kernel_rfl) (by kernel_rfl) (fun _ _ _ h => nomatch h.1) (.inl ⟨by rfl, fun w => by go_simp⟩) ?_
                simp only [Act.put, List.getElem_toArray, List.getElem_cons_succ, List.getElem_cons_zero, List.setIfInBounds_toArray, List.set_cons_zero, List.set_cons_succ]
                refine wpAny_take (i := 8) (v := .pointer (some ⟨g, q * 8, none⟩)) rfl (by kernel_rfl) (by kernel_rfl) (by kernel_rfl) (fun _ _ _ h => nomatch h.1) (.inl ⟨by rfl, fun w => by go_simp <;> (intro h; omega)⟩) ?_
                simp only [Act.put, List.getElem_toArray, List.getElem_cons_succ, List.getElem_cons_zero, List.setIfInBounds_toArray, List.set_cons_zero, List.set_cons_succ]
                refine wpAny_take (i := 10) (v := .slice (some ⟨g, 0, none⟩) n c) rfl (by kernel_rfl) (by kernel_rfl) (by kernel_rfl) (fun _ _ _ h => nomatch h.1) (.inl ⟨by rfl, fun w => by go_simp⟩) ?_
                simp only [Act.put, List.getElem_toArray, List.getElem_cons_succ, List.getElem_cons_zero, List.setIfInBounds_toArray, List.set_cons_zero, List.set_cons_succ]
                refine wpAny_take (i := 11) (v := .int .i64 ((q + 1 : Nat) : Int)) rfl (by kernel_rfl) (by kernel_rfl) (by kernel_rfl) (fun _ _ _ h => nomatch h.1) (.inl ⟨by rfl, fun w => by go_simp⟩) ?_
                simp only [Act.put, List.getElem_toArray, List.getElem_cons_succ, List.getElem_cons_zero, List.setIfInBounds_toArray, List.set_cons_zero, List.set_cons_succ]
                refine wpAny_take (i := 12) (v := .pointer (some ⟨g, (q + 1) * 8, none⟩)) rfl (by kernel_rfl) (by kernel_rfl) (by kernel_rfl) (fun _ _ _ h => nomatch h.1) (.inl ⟨by rfl, fun w => by go_simp <;> (intro h; omega)⟩) ?_
                simp only [Act.put, List.getElem_toArray, List.getElem_cons_succ, List.getElem_cons_zero, List.setIfInBounds_toArray, List.set_cons_zero, List.set_cons_succ]
                refine wpAny_ready (rs := [9, 13]) (by kernel_rfl) (by simp) ?_
                refine AllReady.cons rfl (fun K hK => ?_) (AllReady.cons rfl (fun K hK => ?_) AllReady.nil)
                · skip
                  refine wp_load_mid 112 (.tmp 45) rfl g (q * 8) rfl y _ HSW.out.2.1 hu rfl HIY.out (hK _ _ ?_)
                  clear hK K
                  simp only [Act.put, List.getElem_toArray, List.getElem_cons_succ, List.getElem_cons_zero, List.setIfInBounds_toArray, List.set_cons_zero, List.set_cons_succ]
                  refine wpAny_ready (rs := [13]) (by kernel_rfl) (by simp) ?_
                  refine AllReady.cons rfl (fun K hK => ?_) AllReady.nil
                  refine wp_load_mid 112 (.tmp 49) rfl g ((q + 1) * 8) rfl v _ HSW.out.1 hu rfl HIX.out (hK _ _ ?_)
                  clear hK K
                  simp only [Act.put, List.getElem_toArray, List.getElem_cons_succ, List.getElem_cons_zero, List.setIfInBounds_toArray, List.set_cons_zero, List.set_cons_succ]
                  refine wpAny_take (i := 14) (v := .pointer (some ⟨g, (q + 1) * 8, none⟩)) rfl (by kernel_rfl) (by kernel_rfl) (by kernel_rfl) (fun _ _ _ h => nomatch h.1) (.inl ⟨by rfl, fun w => by go_simp <;> (intro h; omega)⟩) ?_
                  simp only [Act.put, List.getElem_toArray, List.getElem_cons_succ, List.getElem_cons_zero, List.setIfInBounds_toArray, List.set_cons_zero, List.set_cons_succ]
                  refine wpAny_ready (rs := [15]) (by kernel_rfl) (by simp) ?_
                  refine AllReady.cons rfl (fun K hK => ?_) AllReady.nil
                  refine wp_store_mid 112 (.tmp 51) (.tmp 46) rfl g ((q + 1) * 8) y.toArray rfl rfl (by rw [List.size_toArray, HLY.out]; exact HSW.out.2.2.1) HAY.out HOY.out (hK _ _ ?_)
                  clear hK K
                  simp only [Act.put]
                  refine wpAny_take (i := 16) (v := .pointer (some ⟨g, q * 8, none⟩)) rfl (by kernel_rfl) (by kernel_rfl) (by kernel_rfl) (fun _ _ _ h => nomatch h.1) (.inl ⟨by rfl, fun w => by go_simp <;> (intro h; omega)⟩) ?_
                  simp only [Act.put, List.getElem_toArray, List.getElem_cons_succ, List.getElem_cons_zero, List.setIfInBounds_toArray, List.set_cons_zero, List.set_cons_succ]
                  refine wpAny_ready (rs := [17]) (by kernel_rfl) (by simp) ?_
                  refine AllReady.cons rfl (fun K hK => ?_) AllReady.nil
                  refine wp_store_mid 112 (.tmp 52) (.tmp 50) rfl g (q * 8) v.toArray rfl rfl (by rw [List.size_toArray, HLX.out]; exact HSW.out.2.2.2.1) HAX.out HOX.out (hK _ _ ?_)
                  clear hK K
                  simp only [Act.put]
                  refine wpAny_done (by kernel_rfl) ?_ _
                  exact ⟨rfl, rfl, rfl⟩
                · skip
                  refine wp_load_mid 112 (.tmp 49) rfl g ((q + 1) * 8) rfl v _ HSW.out.1 hu rfl HIX.out (hK _ _ ?_)
                  clear hK K
                  simp only [Act.put, List.getElem_toArray, List.getElem_cons_succ, List.getElem_cons_zero, List.setIfInBounds_toArray, List.set_cons_zero, List.set_cons_succ]
                  refine wpAny_ready (rs := [9]) (by kernel_rfl) (by simp) ?_
                  refine AllReady.cons rfl (fun K hK => ?_) AllReady.nil
                  refine wp_load_mid 112 (.tmp 45) rfl g (q * 8) rfl y _ HSW.out.2.1 hu rfl HIY.out (hK _ _ ?_)
                  clear hK K
                  simp only [Act.put, List.getElem_toArray, List.getElem_cons_succ, List.getElem_cons_zero, List.setIfInBounds_toArray, List.set_cons_zero, List.set_cons_succ]
                  refine wpAny_take (i := 14) (v := .pointer (some ⟨g, (q + 1) * 8, none⟩)) rfl (by kernel_rfl) (by kernel_rfl) (by kernel_rfl) (fun _ _ _ h => nomatch h.1) (.inl ⟨by rfl, fun w => by go_simp <;> (intro h; omega)⟩) ?_
                  simp only [Act.put, List.getElem_toArray, List.getElem_cons_succ, List.getElem_cons_zero, List.setIfInBounds_toArray, List.set_cons_zero, List.set_cons_succ]
                  refine wpAny_ready (rs := [15]) (by kernel_rfl) (by simp) ?_
                  refine AllReady.cons rfl (fun K hK => ?_) AllReady.nil
                  refine wp_store_mid 112 (.tmp 51) (.tmp 46) rfl g ((q + 1) * 8) y.toArray rfl rfl (by rw [List.size_toArray, HLY.out]; exact HSW.out.2.2.1) HAY.out HOY.out (hK _ _ ?_)
                  clear hK K
                  simp only [Act.put]
                  refine wpAny_take (i := 16) (v := .pointer (some ⟨g, q * 8, none⟩)) rfl (by kernel_rfl) (by kernel_rfl) (by kernel_rfl) (fun _ _ _ h => nomatch h.1) (.inl ⟨by rfl, fun w => by go_simp <;> (intro h; omega)⟩) ?_
                  simp only [Act.put, List.getElem_toArray, List.getElem_cons_succ, List.getElem_cons_zero, List.setIfInBounds_toArray, List.set_cons_zero, List.set_cons_succ]
                  refine wpAny_ready (rs := [17]) (by kernel_rfl) (by simp) ?_
                  refine AllReady.cons rfl (fun K hK => ?_) AllReady.nil
                  refine wp_store_mid 112 (.tmp 52) (.tmp 50) rfl g (q * 8) v.toArray rfl rfl (by rw [List.size_toArray, HLX.out]; exact HSW.out.2.2.2.1) HAX.out HOX.out (hK _ _ ?_)
                  clear hK K
                  simp only [Act.put]
                  refine wpAny_done (by kernel_rfl) ?_ _
                  exact ⟨rfl, rfl, rfl⟩
              case hq =>
                have HBN := Lib.hid ((HB.out.trans (HB4.out.mono (Nat.le_trans HBW.out HB.out.size))).trans ((Below.refl B W4).drew.trans HSW.out.2.2.2.2.2))
                have HON := Lib.hid HSW.out.2.2.2.2.1
                have HJN : Hid (a + A0.length = q) := Lib.hid (by have h1 := HQL0.out; have h2 := HPA.out; omega)
                go_wp2_with fail
                go_roundw
                case rel => exact ⟨q, A0, y :: B', _, by omega, by omega, by go_num, HJN, HPN, HNX', HON, HBN⟩
                case measure => simp [intOf]
            | false =>
              have HQS := Lib.hid (HS.out.done HW.out (.inr ⟨A0, y, rfl, hyv⟩))
              have HQP := Lib.hid (HPR.out _ _ _ HS.out HPI.out).2
              have HQL : Hid (a + ((A0 ++ [y]) ++ v :: B').length = i + 1) := Lib.hid (by have h1 := HPI.out.length_eq; have h2 := HCL.out; have h3 := HJL.out; simp only [List.length_append, List.length_cons, List.length_nil] at h1 h3 ⊢; omega)
              have hM' : M = P ++ (((A0 ++ [y]) ++ v :: B') ++ (R' ++ S)) := by rw [HS.out.lst, List.append_assoc]
              rw [hM'] at HO4
              rw [hyv] at hcl
              clear hM' hyv
              go_wp2_with fail
              go_roundw
              case rel => exact ⟨i + 1, _, _, by omega, by omega, by go_num, HQL, HQP, HQS, HO4, Lib.hid (HB.out.trans (HB4.out.mono (Nat.le_trans HBW.out HB.out.size)))⟩
              case measure => simp [intOf]; omega
      · have hib : i = b := by omega
        have hR : R = [] := List.length_eq_zero_iff.1 (by have h1 := HLA.out _ _ HPE.out; have h2 := HCL.out; have h3 := HAB.out; omega)
        rw [hR] at HOM HPE
        simp only [List.append_nil, List.nil_append] at HOM HPE
        clear hR hib
        go_wp2_with fail
        go_end0
        exact ⟨rfl, C, HPE.out, HSC.out, HOM.out, HBM.out⟩
end Go.Proofs.YtnkhnbpopdmkhaaGreat
