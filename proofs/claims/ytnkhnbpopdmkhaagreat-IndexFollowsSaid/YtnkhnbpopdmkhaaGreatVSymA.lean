/-
  CONTRACTS of slices' merge in place, where one of both parts is one thing. (By wip/tools/gen_vsort.py.)
-/
import Derived.Test.YtnkhnbpopdmkhaaGreatVIns
namespace Go.Proofs.YtnkhnbpopdmkhaaGreat
set_option linter.unusedVariables false
open Go.RowKit

theorem ins_opt (P X S : List (List Value)) (x : List Value) (k : Nat) (hk : k < X.length) : ∃ y, (P ++ (Pl.ins X x k ++ S))[P.length + k]? = some x ∧ (P ++ (Pl.ins X x k ++ S))[P.length + k + 1]? = some y ∧
    ((P ++ (Pl.ins X x k ++ S)).set (P.length + k) y).set (P.length + k + 1) x = P ++ (Pl.ins X x (k + 1) ++ S) ∧
    (P ++ (Pl.ins X x (k + 1) ++ S))[P.length + k]? = some y ∧ (P ++ (Pl.ins X x (k + 1) ++ S))[P.length + k + 1]? = some x ∧
    ((P ++ (Pl.ins X x (k + 1) ++ S)).set (P.length + k + 1) y).set (P.length + k) x = P ++ (Pl.ins X x k ++ S) := by
  obtain ⟨y, h1, h2, hx, hy, a, b, c, d⟩ := Pl.ins_at P X S x k hk
  exact ⟨y, some_at ⟨h1, hx⟩, some_at ⟨h2, hy⟩, a, b, c, d⟩
theorem ins_things {ks : List CK} {P D S M : List (List Value)} {x : List Value} {n : Nat} (t : Nat) (hn : n = (P ++ M).length) (hM : Things ks (P ++ M)) (hp : M.Perm (x :: (D ++ S))) : n = (P ++ (Pl.ins D x t ++ S)).length ∧ Things ks (P ++ (Pl.ins D x t ++ S)) := by
  have e : (P ++ (Pl.ins D x t ++ S)).Perm (P ++ M) := by
    refine List.Perm.append_left _ ?_
    refine ((Pl.ins_perm D x t).append_right S).trans ?_
    exact hp.symm
  exact ⟨hn.trans e.length_eq.symm, things_perm hM e⟩
set_option maxRecDepth 100000 in
set_option maxHeartbeats 3200000 in
theorem symm1stand (B g n c K : Nat) (ord : List Value → List Value → Int) (P D S : List (List Value)) (x : List Value) (za zm zb : Int) (w : World) (hza : za = (P.length : Int)) (hzm : zm = ((P.length + 1 : Nat) : Int)) (hzb : zb = ((P.length + 1 + D.length : Nat) : Int)) (hD : 1 ≤ D.length) (hn : n = (P ++ ([x] ++ (D ++ S))).length) (hn6 : n ≤ 100000) (hM : Things kstand (P ++ ([x] ++ (D ++ S)))) (hT : TellsC kstand K ord) (hW : Pl.Weak (lessO ord)) (hs : Pl.Srt (lessO ord) D) (ho : w.ownsRow B 112 8 (.slice (some ⟨g, 0, none⟩) n c) n (P ++ ([x] ++ (D ++ S))).flatten) (hB : B ≤ w.heap.size) :
    Calls Tryz.prog 71 #[.slice (some ⟨g, 0, none⟩) n c, .int .i64 za, .int .i64 zm, .int .i64 zb, .func (.func K) #[] #[]] w fun e w' => e = .returned (.tuple #[]) ∧ ∃ C, Pl.Stb (lessO ord) C (x :: D) ∧ Pl.Srt (lessO ord) C ∧ w'.ownsRow B 112 8 (.slice (some ⟨g, 0, none⟩) n c) n (P ++ (C ++ S)).flatten ∧ Below B w w' := by
  have hu := Tryz.underlying112
  have hent := hT.1
  have HTC := Lib.hid hT.2
  have HN := Lib.hid hn
  have HM := Lib.hid hM
  have HBW := Lib.hid hB
  have HO0 := Lib.hid ho
  have HW := Lib.hid hW
  have HS0 := Lib.hid hs
  have HMO : Hid (Pl.Mono (fun k => lessO ord (D.getD k []) x) 0 D.length) := Lib.hid (Pl.mono_less hW hs [] x)
  have HSR : Hid (∀ i, Pl.Bis (fun k => lessO ord (D.getD k []) x) 0 D.length i i → Pl.Srt (lessO ord) (Pl.ins D x i) ∧ Pl.Stb (lessO ord) (Pl.ins D x i) (x :: D)) := Lib.hid (fun i h => ⟨Pl.srt_ins1 hW hs [] x h, Pl.stb_ins1 hW [] x h⟩)
  have HB0 : Hid (Pl.Bis (fun k => lessO ord (D.getD k []) x) 0 D.length 0 D.length) := Lib.hid (Pl.Bis.start _ (Nat.zero_le _))
  have hln : P.length + D.length + 1 ≤ n := by rw [hn]; simp only [List.length_append, List.length_singleton]; omega
  have HX0 : Hid ((P ++ ([x] ++ (D ++ S)))[P.length]? = some x) := Lib.hid (some_at (by simp))
  have HY0 : Hid (∀ k, k < D.length → (P ++ ([x] ++ (D ++ S)))[P.length + 1 + k]? = some (D.getD k [])) := Lib.hid (fun k hk => some_at (Pl.at_B P [x] D S [] hk))
  have HPR : Hid (∀ t, n = (P ++ (Pl.ins D x t ++ S)).length ∧ Things kstand (P ++ (Pl.ins D x t ++ S))) := Lib.hid (fun t => ins_things t hn hM (by simp))
  have HIA : Hid (∀ k, k < D.length → _) := Lib.hid (fun k hk => ins_opt P D S x k hk)
  have HE0 : Hid (P ++ ([x] ++ (D ++ S)) = P ++ (Pl.ins D x 0 ++ S)) := Lib.hid (by rfl)
  obtain ⟨d, hd⟩ : ∃ d, D.length = d := ⟨_, rfl⟩
  obtain ⟨a, hpa⟩ : ∃ a, P.length = a := ⟨_, rfl⟩
  simp only [hd] at hD HMO HB0 hln HX0 HY0 HSR HIA hzm hzb HE0
  simp only [hpa] at hza hzm hzb hln HX0 HY0 HIA
  obtain ⟨m, hm⟩ : ∃ m, a + 1 = m := ⟨_, rfl⟩
  obtain ⟨b, hb⟩ : ∃ b, m + d = b := ⟨_, rfl⟩
  rw [hm] at hzm hzb HY0
  rw [hb] at hzb
  have e1 : (m : Int) - (a : Int) = 1 := by omega
  have hmb : m + d = b := hb
  have HAB : Hid (m = a + 1 ∧ b = m + d) := Lib.hid (by constructor <;> omega)
  have hbn : b ≤ n := by omega
  have ham : a + 1 ≤ m := by omega
  have hm1b : m + 1 ≤ b := by omega
  subst hza hzm hzb
  clear hn hM hT hW ho hB hs hd hpa hm hb hD hln hmb
  go_enter Tryz.func71, Tryz.ntmps71
  go_wp2_with fail
  go_loopw [10, 11] (fun iv jv wr => ∃ i j : Nat, m ≤ i ∧ i ≤ j ∧ j ≤ b ∧ iv = .int .i64 (i : Int) ∧ jv = .int .i64 (j : Int) ∧ Hid (Pl.Bis (fun k => lessO ord (D.getD k []) x) 0 d (i - m) (j - m)) ∧ Hid (wr.ownsRow B 112 8 (.slice (some ⟨g, 0, none⟩) n c) n (P ++ ([x] ++ (D ++ S))).flatten) ∧ Hid (Below B w wr)) (fun iv jv _ => (intOf jv).toNat - (intOf iv).toNat)
  case atStart => exact ⟨m, b, by omega, by omega, by omega, rfl, rfl, Lib.hid (by rw [Nat.sub_self, show b - m = d from by have := HAB.out; omega]; exact HB0.out), HO0, Lib.hid (Below.refl _ _)⟩
  case round =>
    obtain ⟨i, j, hil, hij, hjh, rfl, rfl, HBI, HO, HB⟩ := hrel
    by_cases hlt : i < j
    · skip
      obtain ⟨h, hh1, hh2⟩ : ∃ q : Nat, 2 * q ≤ i + j ∧ i + j < 2 * q + 2 := ⟨(i + j) / 2, by omega, by omega⟩
      have hhv : ((i : Int) + (j : Int)) / 2 = (h : Int) := by omega
      have hih : i ≤ h := by omega
      have hhj : h < j := by omega
      have HYK : Hid (h - m < d) := Lib.hid (by have := HAB.out; omega)
      obtain ⟨y, hy⟩ : ∃ y, D.getD (h - m) [] = y := ⟨_, rfl⟩
      have HYY := HY0.out _ HYK.out
      rw [hy, show m + (h - m) = h from by omega] at HYY
      have HYP : Hid ((P ++ ([x] ++ (D ++ S)))[h]? = some y) := Lib.hid HYY
      have HMT := HM.out
      have FX : Hid (Fits kstand x) := Lib.hid (at_fits HM.out HX0.out)
      have FY : Hid (Fits kstand y) := Lib.hid (at_fits HM.out HYP.out)
      have HLX : Hid (x.length = 8) := Lib.hid (FX.out.length)
      have HIX : Hid ((Tryz.prog.info? 112).map (·.size) = some x.length) := Lib.hid (by rw [HLX.out]; kernel_rfl)
      have HAX : Hid ((Tryz.prog.info? 112).map (·.size) = some x.toArray.size) := Lib.hid (by rw [List.size_toArray, HLX.out]; kernel_rfl)
      have HOX : Hid (x.toArray.all (·.oneCell') = true) := Lib.hid (all_oneCell_toArray (fits_one FX.out))
      have HLY : Hid (y.length = 8) := Lib.hid (FY.out.length)
      have HIY : Hid ((Tryz.prog.info? 112).map (·.size) = some y.length) := Lib.hid (by rw [HLY.out]; kernel_rfl)
      have HAY : Hid ((Tryz.prog.info? 112).map (·.size) = some y.toArray.size) := Lib.hid (by rw [List.size_toArray, HLY.out]; kernel_rfl)
      have HOY : Hid (y.toArray.all (·.oneCell') = true) := Lib.hid (all_oneCell_toArray (fits_one FY.out))
      have HRX : Hid (∀ W, Below wr.heap.size wr W → W.rangeAt g (a * 8) x) := Lib.hid (fun W hW => row_at (own_below HO.out hW) HM.out (by decide) HN.out HX0.out)
      have HRY : Hid (∀ W, Below wr.heap.size wr W → W.rangeAt g (h * 8) y) := Lib.hid (fun W hW => row_at (own_below HO.out hW) HM.out (by decide) HN.out HYP.out)
      obtain ⟨r, hr⟩ : ∃ r, ord y x = r := ⟨_, rfl⟩
      have HCV : Hid (∀ W, Calls Tryz.prog K #[.agg y.toArray, .agg x.toArray] W fun e w' => e = .returned (.int .i64 r) ∧ Below W.heap.size W w') := Lib.hid (fun W => by rw [← hr]; exact HTC.out W y x FY.out FX.out)
      have hcl := lessO_int ord y x hr
      have hhn : h < n := by omega
      have HYD := Lib.hid hy
      clear hr HMT HYY hy
      have hbnd : i + j ≤ 200000 := by omega
      go_wp2_with fail
      refine wp_grow wr (by kernel_rfl) (by kernel_rfl) (Below.refl _ _) ?_
      simp only []
      iterate 4 go_big_quiet_step (fail)
      refine BigFrame.wpQuiet_want (by kernel_rfl) (fun K hK => quiet_load_mid 112 (.tmp 43) rfl g (h * 8) rfl y _ (fun W ⟨X, hX⟩ => by rw [hX]; exact HRY.out _ X.h) hu rfl HIY.out (hK _ ?_))
      simp only [Act.put, List.setIfInBounds_toArray, List.set_cons_zero, List.set_cons_succ]
      iterate 3 go_big_quiet_step (fail)
      refine BigFrame.wpQuiet_want (by kernel_rfl) (fun K hK => quiet_load_mid 112 (.tmp 47) rfl g (a * 8) rfl x _ (fun W ⟨X, hX⟩ => by rw [hX]; exact HRX.out _ X.h) hu rfl HIX.out (hK _ ?_))
      simp only [Act.put, List.setIfInBounds_toArray, List.set_cons_zero, List.set_cons_succ]
      go_big_quiet_step (exact grow_call _ (HCV.out _))
      go_big_quiet_step (fail)
      refine wpQuiet_nil ?_
      intro X
      have hb4 := X.h
      obtain ⟨W4, hW4⟩ : ∃ W, X.W = W := ⟨_, rfl⟩
      rw [hW4] at hb4 ⊢
      clear hW4 X
      have HB4 := Lib.hid hb4
      have HO4 := Lib.hid (own_below HO.out hb4)
      clear hb4
      cases hyv : lessO ord y x with
      | true =>
        have HBN : Hid (Pl.Bis (fun k => lessO ord (D.getD k []) x) 0 d (h + 1 - m) (j - m)) := Lib.hid (by rw [show h + 1 - m = h - m + 1 from by omega]; exact HBI.out.up HMO.out (by omega) (by omega) (by simp only [HYD.out, hyv]))
        rw [hyv] at hcl
        clear hyv
        go_wp2_with fail
        go_roundw
        case rel => exact ⟨h + 1, j, by omega, by omega, hjh, by go_num, rfl, HBN, HO4, Lib.hid (HB.out.trans (HB4.out.mono (Nat.le_trans HBW.out HB.out.size)))⟩
        case measure => simp [intOf]; omega
      | false =>
        have HBN : Hid (Pl.Bis (fun k => lessO ord (D.getD k []) x) 0 d (i - m) (h - m)) := Lib.hid (HBI.out.down HMO.out (by omega) (by omega) (by simp only [HYD.out, hyv]))
        rw [hyv] at hcl
        clear hyv
        go_wp2_with fail
        go_roundw
        case rel => exact ⟨i, h, hil, by omega, by omega, rfl, rfl, HBN, HO4, Lib.hid (HB.out.trans (HB4.out.mono (Nat.le_trans HBW.out HB.out.size)))⟩
        case measure => simp [intOf]; omega
    · obtain rfl : i = j := by omega
      have HSC := Lib.hid (HSR.out _ HBI.out)
      rw [HE0.out] at HO
      have HBZ := Lib.hid HB
      clear hlt
      obtain ⟨s, hs⟩ : ∃ s, i - m = s := ⟨_, rfl⟩
      rw [hs] at HSC
      have HSI := Lib.hid hs
      clear hs
      go_wp2_with fail
      go_loopw [13] (fun kv wr => ∃ t : Nat, t ≤ s ∧ kv = .int .i64 ((a + t : Nat) : Int) ∧ Hid (wr.ownsRow B 112 8 (.slice (some ⟨g, 0, none⟩) n c) n (P ++ (Pl.ins D x t ++ S)).flatten) ∧ Hid (Below B w wr)) (fun kv _ => a + s - (intOf kv).toNat)
      case atStart => exact ⟨0, by omega, rfl, HO, HB⟩
      case round =>
        obtain ⟨t, hts, rfl, HO2, HB2⟩ := hrel
        obtain ⟨k, hk⟩ : ∃ k, a + t = k := ⟨_, rfl⟩
        have HK := Lib.hid hk
        have hki : k + 1 ≤ i := by have := HSI.out; omega
        have hka : a ≤ k := by omega
        rw [hk]
        by_cases hlt : t < s
        · skip
          have hki2 : k + 1 < i := by have := HSI.out; omega
          obtain ⟨y, hpx, hqy, hset, _⟩ := HIA.out t (by have := HSI.out; have := HAB.out; omega)
          simp only [hk] at hpx hqy hset
          obtain ⟨hnt, hmt⟩ := HPR.out t
          have HMT := Lib.hid hmt
          have HNT := Lib.hid hnt
          have FX : Hid (Fits kstand x) := Lib.hid (at_fits HMT.out hpx)
          have FY : Hid (Fits kstand y) := Lib.hid (at_fits HMT.out hqy)
          have HLX : Hid (x.length = 8) := Lib.hid (FX.out.length)
          have HIX : Hid ((Tryz.prog.info? 112).map (·.size) = some x.length) := Lib.hid (by rw [HLX.out]; kernel_rfl)
          have HAX : Hid ((Tryz.prog.info? 112).map (·.size) = some x.toArray.size) := Lib.hid (by rw [List.size_toArray, HLX.out]; kernel_rfl)
          have HOX : Hid (x.toArray.all (·.oneCell') = true) := Lib.hid (all_oneCell_toArray (fits_one FX.out))
          have HLY : Hid (y.length = 8) := Lib.hid (FY.out.length)
          have HIY : Hid ((Tryz.prog.info? 112).map (·.size) = some y.length) := Lib.hid (by rw [HLY.out]; kernel_rfl)
          have HAY : Hid ((Tryz.prog.info? 112).map (·.size) = some y.toArray.size) := Lib.hid (by rw [List.size_toArray, HLY.out]; kernel_rfl)
          have HOY : Hid (y.toArray.all (·.oneCell') = true) := Lib.hid (all_oneCell_toArray (fits_one FY.out))
          have HSW := Lib.hid (row_swap (own_below HO2.out (Below.refl _ _).drew) (own_ge HO2.out) HMT.out (by decide) HNT.out hpx hqy)
          rw [hset] at HSW
          have hkn : k + 1 < n := by rw [hnt]; exact at_lt hqy
          clear hset hpx hqy hnt hmt
          go_wp2_with fail
          have hwk : IntKind.i64.wrap (k : Int) = (k : Int) := IntWalk.i64_in _ (by omega)
          have hwk1 : IntKind.i64.wrap ((k : Int) + 1) = (k : Int) + 1 := IntWalk.i64_in _ (by omega)
          apply region_to
          case h =>
            refine wp_region_any (by kernel_rfl) ?_
            refine wpAny_take (i := 0) (v := .slice (some ⟨g, 0, none⟩) n c) rfl (by kernel_rfl) (by kernel_rfl) (by kernel_rfl) (fun _ _ _ h => nomatch h.1) (.inl ⟨by rfl, fun w => by go_simp⟩) ?_
            simp only [Act.put, List.getElem_toArray, List.getElem_cons_zero, List.setIfInBounds_toArray, List.set_cons_zero, List.set_cons_succ]
            refine wpAny_take (i := 1) (v := .int .i64 (k : Int)) rfl (by kernel_rfl) (by kernel_rfl) (by kernel_rfl) (fun _ _ _ h => nomatch h.1) (.inl ⟨by rfl, fun w => by go_simp⟩) ?_
            simp only [Act.put, List.getElem_toArray, List.getElem_cons_succ, List.getElem_cons_zero, List.setIfInBounds_toArray, List.set_cons_zero, List.set_cons_succ]
            refine wpAny_take (i := 2) (v := .slice (some ⟨g, 0, none⟩) n c) rfl (by kernel_rfl) (by kernel_rfl) (by kernel_rfl) (fun _ _ _ h => nomatch h.1) (.inl ⟨by rfl, fun w => by go_simp⟩) ?_
            simp only [Act.put, List.getElem_toArray, List.getElem_cons_succ, List.getElem_cons_zero, List.setIfInBounds_toArray, List.set_cons_zero, List.set_cons_succ]
            refine wpAny_take (i := 3) (v := .int .i64 (k : Int)) rfl (by kernel_rfl) (by kernel_rfl) (by kernel_rfl) (fun _ _ _ h => nomatch h.1) (.inl ⟨by rfl, fun w => by go_simp⟩) ?_
            simp only [Act.put, List.getElem_toArray, List.getElem_cons_succ, List.getElem_cons_zero, List.setIfInBounds_toArray, List.set_cons_zero, List.set_cons_succ]
            refine wpAny_take (i := 4) (v := .int .i64 ((k : Int) + 1)) rfl (by kernel_rfl) (by kernel_rfl) (by kernel_rfl) (fun _ _ _ h => nomatch h.1) (.inl ⟨by rfl, fun w => by go_simp⟩) ?_
            simp only [Act.put, List.getElem_toArray, List.getElem_cons_succ, List.getElem_cons_zero, List.setIfInBounds_toArray, List.set_cons_zero, List.set_cons_succ]
            refine wpAny_take (i := 5) (v := .slice (some ⟨g, 0, none⟩) n c) rfl (by kernel_rfl) (by kernel_rfl) (by kernel_rfl) (fun _ _ _ h => nomatch h.1) (.inl ⟨by rfl, fun w => by go_simp⟩) ?_
            simp only [Act.put, List.getElem_toArray, List.getElem_cons_succ, List.getElem_cons_zero, List.setIfInBounds_toArray, List.set_cons_zero, List.set_cons_succ]
            refine wpAny_take (i := 6) (v := .int .i64 (k : Int)) rfl (by kernel_rfl) (by kernel_rfl) (by kernel_rfl) (fun _ _ _ h => nomatch h.1) (.inl ⟨by rfl, fun w => by go_simp⟩) ?_
            simp only [Act.put, List.getElem_toArray, List.getElem_cons_succ, List.getElem_cons_zero, List.setIfInBounds_toArray, List.set_cons_zero, List.set_cons_succ]
            refine wpAny_take (i := 7) (v := .int .i64 ((k : Int) + 1)) rfl (by kernel_rfl) (by kernel_rfl) (by kernel_rfl) (fun _ _ _ h => nomatch h.1) (.inl ⟨by rfl, fun w => by go_simp⟩) ?_
            simp only [Act.put, List.getElem_toArray, List.getElem_cons_succ, List.getElem_cons_zero, List.setIfInBounds_toArray, List.set_cons_zero, List.set_cons_succ]
            refine wpAny_take (i := 8) (v := .pointer (some ⟨g, (k + 1) * 8, none⟩)) rfl (by kernel_rfl) (by kernel_rfl) (by kernel_rfl) (fun _ _ _ h => nomatch h.1) (.inl ⟨by rfl, fun w => by go_simp <;> (intro h; omega)⟩) ?_
            simp only [Act.put, List.getElem_toArray, List.getElem_cons_succ, List.getElem_cons_zero, List.setIfInBounds_toArray, List.set_cons_zero, List.set_cons_succ]
            refine wpAny_take (i := 10) (v := .slice (some ⟨g, 0, none⟩) n c) rfl (by kernel_rfl) (by kernel_rfl) (by kernel_rfl) (fun _ _ _ h => nomatch h.1) (.inl ⟨by rfl, fun w => by go_simp⟩) ?_
            simp only [Act.put, List.getElem_toArray, List.getElem_cons_succ, List.getElem_cons_zero, List.setIfInBounds_toArray, List.set_cons_zero, List.set_cons_succ]
            refine wpAny_take (i := 11) (v := .int .i64 (k : Int)) rfl (by kernel_rfl) (by kernel_rfl) (by kernel_rfl) (fun _ _ _ h => nomatch h.1) (.inl ⟨by rfl, fun w => by go_simp⟩) ?_
            simp only [Act.put, List.getElem_toArray, List.getElem_cons_succ, List.getElem_cons_zero, List.setIfInBounds_toArray, List.set_cons_zero, List.set_cons_succ]
            refine wpAny_take (i := 12) (v := .pointer (some ⟨g, k * 8, none⟩)) rfl (by kernel_rfl) (by kernel_rfl) (by kernel_rfl) (fun _ _ _ h => nomatch h.1) (.inl ⟨by rfl, fun w => by go_simp <;> (intro h; omega)⟩) ?_
            simp only [Act.put, List.getElem_toArray, List.getElem_cons_succ, List.getElem_cons_zero, List.setIfInBounds_toArray, List.set_cons_zero, List.set_cons_succ]
            refine wpAny_ready (rs := [9, 13]) (by kernel_rfl) (by simp) ?_
            refine AllReady.cons rfl (fun K hK => ?_) (AllReady.cons rfl (fun K hK => ?_) AllReady.nil)
            · skip
              refine wp_load_mid 112 (.tmp 69) rfl g ((k + 1) * 8) rfl y _ HSW.out.2.1 hu rfl HIY.out (hK _ _ ?_)
              clear hK K
              simp only [Act.put, List.getElem_toArray, List.getElem_cons_succ, List.getElem_cons_zero, List.setIfInBounds_toArray, List.set_cons_zero, List.set_cons_succ]
              refine wpAny_ready (rs := [13]) (by kernel_rfl) (by simp) ?_
              refine AllReady.cons rfl (fun K hK => ?_) AllReady.nil
              refine wp_load_mid 112 (.tmp 73) rfl g (k * 8) rfl x _ HSW.out.1 hu rfl HIX.out (hK _ _ ?_)
              clear hK K
              simp only [Act.put, List.getElem_toArray, List.getElem_cons_succ, List.getElem_cons_zero, List.setIfInBounds_toArray, List.set_cons_zero, List.set_cons_succ]
              refine wpAny_take (i := 14) (v := .pointer (some ⟨g, k * 8, none⟩)) rfl (by kernel_rfl) (by kernel_rfl) (by kernel_rfl) (fun _ _ _ h => nomatch h.1) (.inl ⟨by rfl, fun w => by go_simp <;> (intro h; omega)⟩) ?_
              simp only [Act.put, List.getElem_toArray, List.getElem_cons_succ, List.getElem_cons_zero, List.setIfInBounds_toArray, List.set_cons_zero, List.set_cons_succ]
              refine wpAny_ready (rs := [15]) (by kernel_rfl) (by simp) ?_
              refine AllReady.cons rfl (fun K hK => ?_) AllReady.nil
              refine wp_store_mid 112 (.tmp 75) (.tmp 70) rfl g (k * 8) y.toArray rfl rfl (by rw [List.size_toArray, HLY.out]; exact HSW.out.2.2.1) HAY.out HOY.out (hK _ _ ?_)
              clear hK K
              simp only [Act.put]
              refine wpAny_take (i := 16) (v := .pointer (some ⟨g, (k + 1) * 8, none⟩)) rfl (by kernel_rfl) (by kernel_rfl) (by kernel_rfl) (fun _ _ _ h => nomatch h.1) (.inl ⟨by rfl, fun w => by go_simp <;> (intro h; omega)⟩) ?_
              simp only [Act.put, List.getElem_toArray, List.getElem_cons_succ, List.getElem_cons_zero, List.setIfInBounds_toArray, List.set_cons_zero, List.set_cons_succ]
              refine wpAny_ready (rs := [17]) (by kernel_rfl) (by simp) ?_
              refine AllReady.cons rfl (fun K hK => ?_) AllReady.nil
              refine wp_store_mid 112 (.tmp 76) (.tmp 74) rfl g ((k + 1) * 8) x.toArray rfl rfl (by rw [List.size_toArray, HLX.out]; exact HSW.out.2.2.2.1) HAX.out HOX.out (hK _ _ ?_)
              clear hK K
              simp only [Act.put]
              refine wpAny_done (by kernel_rfl) ?_ _
              exact ⟨rfl, rfl, rfl⟩
            · skip
              refine wp_load_mid 112 (.tmp 73) rfl g (k * 8) rfl x _ HSW.out.1 hu rfl HIX.out (hK _ _ ?_)
              clear hK K
              simp only [Act.put, List.getElem_toArray, List.getElem_cons_succ, List.getElem_cons_zero, List.setIfInBounds_toArray, List.set_cons_zero, List.set_cons_succ]
              refine wpAny_ready (rs := [9]) (by kernel_rfl) (by simp) ?_
              refine AllReady.cons rfl (fun K hK => ?_) AllReady.nil
              refine wp_load_mid 112 (.tmp 69) rfl g ((k + 1) * 8) rfl y _ HSW.out.2.1 hu rfl HIY.out (hK _ _ ?_)
              clear hK K
              simp only [Act.put, List.getElem_toArray, List.getElem_cons_succ, List.getElem_cons_zero, List.setIfInBounds_toArray, List.set_cons_zero, List.set_cons_succ]
              refine wpAny_take (i := 14) (v := .pointer (some ⟨g, k * 8, none⟩)) rfl (by kernel_rfl) (by kernel_rfl) (by kernel_rfl) (fun _ _ _ h => nomatch h.1) (.inl ⟨by rfl, fun w => by go_simp <;> (intro h; omega)⟩) ?_
              simp only [Act.put, List.getElem_toArray, List.getElem_cons_succ, List.getElem_cons_zero, List.setIfInBounds_toArray, List.set_cons_zero, List.set_cons_succ]
              refine wpAny_ready (rs := [15]) (by kernel_rfl) (by simp) ?_
              refine AllReady.cons rfl (fun K hK => ?_) AllReady.nil
              refine wp_store_mid 112 (.tmp 75) (.tmp 70) rfl g (k * 8) y.toArray rfl rfl (by rw [List.size_toArray, HLY.out]; exact HSW.out.2.2.1) HAY.out HOY.out (hK _ _ ?_)
              clear hK K
              simp only [Act.put]
              refine wpAny_take (i := 16) (v := .pointer (some ⟨g, (k + 1) * 8, none⟩)) rfl (by kernel_rfl) (by kernel_rfl) (by kernel_rfl) (fun _ _ _ h => nomatch h.1) (.inl ⟨by rfl, fun w => by go_simp <;> (intro h; omega)⟩) ?_
              simp only [Act.put, List.getElem_toArray, List.getElem_cons_succ, List.getElem_cons_zero, List.setIfInBounds_toArray, List.set_cons_zero, List.set_cons_succ]
              refine wpAny_ready (rs := [17]) (by kernel_rfl) (by simp) ?_
              refine AllReady.cons rfl (fun K hK => ?_) AllReady.nil
              refine wp_store_mid 112 (.tmp 76) (.tmp 74) rfl g ((k + 1) * 8) x.toArray rfl rfl (by rw [List.size_toArray, HLX.out]; exact HSW.out.2.2.2.1) HAX.out HOX.out (hK _ _ ?_)
              clear hK K
              simp only [Act.put]
              refine wpAny_done (by kernel_rfl) ?_ _
              exact ⟨rfl, rfl, rfl⟩
          case hq =>
            have HBN := Lib.hid (HB2.out.trans ((Below.refl B wr).drew.trans HSW.out.2.2.2.2.2))
            have HON := Lib.hid HSW.out.2.2.2.2.1
            go_wp2_with fail
            go_roundw
            case rel => exact ⟨t + 1, by omega, by rw [show a + (t + 1) = k + 1 from by have := HK.out; omega]; go_num, HON, HBN⟩
            case measure => simp [intOf]; have := HK.out; omega
        · obtain rfl : t = s := by omega
          have hki3 : ¬ (k + 1 < i) := by have := HSI.out; have := HAB.out; omega
          clear hk
          go_wp2_with fail
          (try simp only [Exit.inBlock, Exit.then])
          refine bodyPost_ret (results_none rfl _ _ _) rfl ?_
          exact ⟨rfl, _, HSC.out.2, HSC.out.1, HO2.out, HB2.out⟩
set_option maxRecDepth 100000 in
set_option maxHeartbeats 3200000 in
theorem symm2stand (B g n c K : Nat) (ord : List Value → List Value → Int) (P D S : List (List Value)) (x : List Value) (za zm zb : Int) (w : World) (hza : za = (P.length : Int)) (hzm : zm = ((P.length + D.length : Nat) : Int)) (hzb : zb = ((P.length + D.length + 1 : Nat) : Int)) (hD : 2 ≤ D.length) (hn : n = (P ++ (D ++ ([x] ++ S))).length) (hn6 : n ≤ 100000) (hM : Things kstand (P ++ (D ++ ([x] ++ S)))) (hT : TellsC kstand K ord) (hW : Pl.Weak (lessO ord)) (hs : Pl.Srt (lessO ord) D) (ho : w.ownsRow B 112 8 (.slice (some ⟨g, 0, none⟩) n c) n (P ++ (D ++ ([x] ++ S))).flatten) (hB : B ≤ w.heap.size) :
    Calls Tryz.prog 71 #[.slice (some ⟨g, 0, none⟩) n c, .int .i64 za, .int .i64 zm, .int .i64 zb, .func (.func K) #[] #[]] w fun e w' => e = .returned (.tuple #[]) ∧ ∃ C, Pl.Stb (lessO ord) C (D ++ [x]) ∧ Pl.Srt (lessO ord) C ∧ w'.ownsRow B 112 8 (.slice (some ⟨g, 0, none⟩) n c) n (P ++ (C ++ S)).flatten ∧ Below B w w' := by
  have hu := Tryz.underlying112
  have hent := hT.1
  have HTC := Lib.hid hT.2
  have HN := Lib.hid hn
  have HM := Lib.hid hM
  have HBW := Lib.hid hB
  have HO0 := Lib.hid ho
  have HW := Lib.hid hW
  have HS0 := Lib.hid hs
  have HMO : Hid (Pl.Mono (fun k => !lessO ord x (D.getD k [])) 0 D.length) := Lib.hid (Pl.mono_geq hW hs [] x)
  have HSR : Hid (∀ i, Pl.Bis (fun k => !lessO ord x (D.getD k [])) 0 D.length i i → Pl.Srt (lessO ord) (Pl.ins D x i) ∧ Pl.Stb (lessO ord) (Pl.ins D x i) (D ++ [x])) := Lib.hid (fun i h => ⟨Pl.srt_ins2 hW hs [] x h, Pl.stb_ins2 hW [] x h⟩)
  have HB0 : Hid (Pl.Bis (fun k => !lessO ord x (D.getD k [])) 0 D.length 0 D.length) := Lib.hid (Pl.Bis.start _ (Nat.zero_le _))
  have hln : P.length + D.length + 1 ≤ n := by rw [hn]; simp only [List.length_append, List.length_singleton]; omega
  have HX0 : Hid ((P ++ (D ++ ([x] ++ S)))[P.length + D.length]? = some x) := Lib.hid (some_at (by simp))
  have HY0 : Hid (∀ k, k < D.length → (P ++ (D ++ ([x] ++ S)))[P.length + k]? = some (D.getD k [])) := Lib.hid (fun k hk => some_at (Pl.at_A P D ([x] ++ S) [] hk))
  have HPR : Hid (∀ t, n = (P ++ (Pl.ins D x t ++ S)).length ∧ Things kstand (P ++ (Pl.ins D x t ++ S))) := Lib.hid (fun t => ins_things t hn hM (List.perm_middle))
  have HIA : Hid (∀ k, k < D.length → _) := Lib.hid (fun k hk => ins_opt P D S x k hk)
  have HE0 : Hid (P ++ (D ++ ([x] ++ S)) = P ++ (Pl.ins D x D.length ++ S)) := Lib.hid (by rw [Pl.ins_all]; simp)
  obtain ⟨d, hd⟩ : ∃ d, D.length = d := ⟨_, rfl⟩
  obtain ⟨a, hpa⟩ : ∃ a, P.length = a := ⟨_, rfl⟩
  simp only [hd] at hD HMO HB0 hln HX0 HY0 HSR HIA hzm hzb HE0
  simp only [hpa] at hza hzm hzb hln HX0 HY0 HIA
  obtain ⟨m, hm⟩ : ∃ m, a + d = m := ⟨_, rfl⟩
  obtain ⟨b, hb⟩ : ∃ b, m + 1 = b := ⟨_, rfl⟩
  rw [hm] at hzm hzb HX0
  rw [hb] at hzb
  have e1 : ((m : Int) - (a : Int) == 1) = false := by simp; omega
  have e2 : (b : Int) - (m : Int) = 1 := by omega
  have e3 : ¬ ((m : Int) - (a : Int) = 1) := by omega
  have HAB : Hid (m = a + d ∧ b = m + 1) := Lib.hid (by constructor <;> omega)
  have hbn : b ≤ n := by omega
  have ham : a + 1 ≤ m := by omega
  have hm1b : m + 1 ≤ b := by omega
  subst hza hzm hzb
  clear hn hM hT hW ho hB hs hd hpa hm hb hD hln
  go_enter Tryz.func71, Tryz.ntmps71
  go_wp2_with fail
  go_loopw [14, 15] (fun iv jv wr => ∃ i j : Nat, a ≤ i ∧ i ≤ j ∧ j ≤ m ∧ iv = .int .i64 (i : Int) ∧ jv = .int .i64 (j : Int) ∧ Hid (Pl.Bis (fun k => !lessO ord x (D.getD k [])) 0 d (i - a) (j - a)) ∧ Hid (wr.ownsRow B 112 8 (.slice (some ⟨g, 0, none⟩) n c) n (P ++ (D ++ ([x] ++ S))).flatten) ∧ Hid (Below B w wr)) (fun iv jv _ => (intOf jv).toNat - (intOf iv).toNat)
  case atStart => exact ⟨a, m, by omega, by omega, by omega, rfl, rfl, Lib.hid (by rw [Nat.sub_self, show m - a = d from by have := HAB.out; omega]; exact HB0.out), HO0, Lib.hid (Below.refl _ _)⟩
  case round =>
    obtain ⟨i, j, hil, hij, hjh, rfl, rfl, HBI, HO, HB⟩ := hrel
    by_cases hlt : i < j
    · skip
      obtain ⟨h, hh1, hh2⟩ : ∃ q : Nat, 2 * q ≤ i + j ∧ i + j < 2 * q + 2 := ⟨(i + j) / 2, by omega, by omega⟩
      have hhv : ((i : Int) + (j : Int)) / 2 = (h : Int) := by omega
      have hih : i ≤ h := by omega
      have hhj : h < j := by omega
      have HYK : Hid (h - a < d) := Lib.hid (by have := HAB.out; omega)
      obtain ⟨y, hy⟩ : ∃ y, D.getD (h - a) [] = y := ⟨_, rfl⟩
      have HYY := HY0.out _ HYK.out
      rw [hy, show a + (h - a) = h from by omega] at HYY
      have HYP : Hid ((P ++ (D ++ ([x] ++ S)))[h]? = some y) := Lib.hid HYY
      have HMT := HM.out
      have FX : Hid (Fits kstand x) := Lib.hid (at_fits HM.out HX0.out)
      have FY : Hid (Fits kstand y) := Lib.hid (at_fits HM.out HYP.out)
      have HLX : Hid (x.length = 8) := Lib.hid (FX.out.length)
      have HIX : Hid ((Tryz.prog.info? 112).map (·.size) = some x.length) := Lib.hid (by rw [HLX.out]; kernel_rfl)
      have HAX : Hid ((Tryz.prog.info? 112).map (·.size) = some x.toArray.size) := Lib.hid (by rw [List.size_toArray, HLX.out]; kernel_rfl)
      have HOX : Hid (x.toArray.all (·.oneCell') = true) := Lib.hid (all_oneCell_toArray (fits_one FX.out))
      have HLY : Hid (y.length = 8) := Lib.hid (FY.out.length)
      have HIY : Hid ((Tryz.prog.info? 112).map (·.size) = some y.length) := Lib.hid (by rw [HLY.out]; kernel_rfl)
      have HAY : Hid ((Tryz.prog.info? 112).map (·.size) = some y.toArray.size) := Lib.hid (by rw [List.size_toArray, HLY.out]; kernel_rfl)
      have HOY : Hid (y.toArray.all (·.oneCell') = true) := Lib.hid (all_oneCell_toArray (fits_one FY.out))
      have HRX : Hid (∀ W, Below wr.heap.size wr W → W.rangeAt g (m * 8) x) := Lib.hid (fun W hW => row_at (own_below HO.out hW) HM.out (by decide) HN.out HX0.out)
      have HRY : Hid (∀ W, Below wr.heap.size wr W → W.rangeAt g (h * 8) y) := Lib.hid (fun W hW => row_at (own_below HO.out hW) HM.out (by decide) HN.out HYP.out)
      obtain ⟨r, hr⟩ : ∃ r, ord x y = r := ⟨_, rfl⟩
      have HCV : Hid (∀ W, Calls Tryz.prog K #[.agg x.toArray, .agg y.toArray] W fun e w' => e = .returned (.int .i64 r) ∧ Below W.heap.size W w') := Lib.hid (fun W => by rw [← hr]; exact HTC.out W x y FX.out FY.out)
      have hcl := lessO_int ord x y hr
      have hhn : h < n := by omega
      have HYD := Lib.hid hy
      clear hr HMT HYY hy
      have hbnd : i + j ≤ 200000 := by omega
      go_wp2_with fail
      refine wp_grow wr (by kernel_rfl) (by kernel_rfl) (Below.refl _ _) ?_
      simp only []
      iterate 4 go_big_quiet_step (fail)
      refine BigFrame.wpQuiet_want (by kernel_rfl) (fun K hK => quiet_load_mid 112 (.tmp 95) rfl g (m * 8) rfl x _ (fun W ⟨X, hX⟩ => by rw [hX]; exact HRX.out _ X.h) hu rfl HIX.out (hK _ ?_))
      simp only [Act.put, List.setIfInBounds_toArray, List.set_cons_zero, List.set_cons_succ]
      iterate 3 go_big_quiet_step (fail)
      refine BigFrame.wpQuiet_want (by kernel_rfl) (fun K hK => quiet_load_mid 112 (.tmp 99) rfl g (h * 8) rfl y _ (fun W ⟨X, hX⟩ => by rw [hX]; exact HRY.out _ X.h) hu rfl HIY.out (hK _ ?_))
      simp only [Act.put, List.setIfInBounds_toArray, List.set_cons_zero, List.set_cons_succ]
      go_big_quiet_step (exact grow_call _ (HCV.out _))
      iterate 2 go_big_quiet_step (fail)
      refine wpQuiet_nil ?_
      intro X
      have hb4 := X.h
      obtain ⟨W4, hW4⟩ : ∃ W, X.W = W := ⟨_, rfl⟩
      rw [hW4] at hb4 ⊢
      clear hW4 X
      have HB4 := Lib.hid hb4
      have HO4 := Lib.hid (own_below HO.out hb4)
      clear hb4
      cases hyv : lessO ord x y with
      | false =>
        have HBN : Hid (Pl.Bis (fun k => !lessO ord x (D.getD k [])) 0 d (h + 1 - a) (j - a)) := Lib.hid (by rw [show h + 1 - a = h - a + 1 from by omega]; exact HBI.out.up HMO.out (by omega) (by omega) (by simp only [HYD.out, hyv, Bool.not_false]))
        rw [hyv] at hcl
        clear hyv
        go_wp2_with fail
        go_roundw
        case rel => exact ⟨h + 1, j, by omega, by omega, hjh, by go_num, rfl, HBN, HO4, Lib.hid (HB.out.trans (HB4.out.mono (Nat.le_trans HBW.out HB.out.size)))⟩
        case measure => simp [intOf]; omega
      | true =>
        have HBN : Hid (Pl.Bis (fun k => !lessO ord x (D.getD k [])) 0 d (i - a) (h - a)) := Lib.hid (HBI.out.down HMO.out (by omega) (by omega) (by simp only [HYD.out, hyv, Bool.not_true]))
        rw [hyv] at hcl
        clear hyv
        go_wp2_with fail
        go_roundw
        case rel => exact ⟨i, h, hil, by omega, by omega, rfl, rfl, HBN, HO4, Lib.hid (HB.out.trans (HB4.out.mono (Nat.le_trans HBW.out HB.out.size)))⟩
        case measure => simp [intOf]; omega
    · obtain rfl : i = j := by omega
      have HSC := Lib.hid (HSR.out _ HBI.out)
      rw [HE0.out] at HO
      have HBZ := Lib.hid HB
      clear hlt
      obtain ⟨s, hs⟩ : ∃ s, i - a = s := ⟨_, rfl⟩
      rw [hs] at HSC
      have HSI := Lib.hid hs
      clear hs
      go_wp2_with fail
      go_loopw [17] (fun kv wr => ∃ t : Nat, s ≤ t ∧ t ≤ d ∧ kv = .int .i64 ((a + t : Nat) : Int) ∧ Hid (wr.ownsRow B 112 8 (.slice (some ⟨g, 0, none⟩) n c) n (P ++ (Pl.ins D x t ++ S)).flatten) ∧ Hid (Below B w wr)) (fun kv _ => (intOf kv).toNat)
      case atStart => exact ⟨d, by have := HSI.out; have := HAB.out; omega, by omega, by first | rfl | rw [← HAB.out.1], HO, HB⟩
      case round =>
        obtain ⟨t, hst, htd, rfl, HO2, HB2⟩ := hrel
        by_cases hlt : s < t
        · skip
          obtain ⟨t', rfl⟩ : ∃ t', t = t' + 1 := ⟨t - 1, by omega⟩
          obtain ⟨k, hk⟩ : ∃ k, a + t' = k := ⟨_, rfl⟩
          have HK := Lib.hid hk
          have hki2 : i < k + 1 := by have := HSI.out; omega
          have hka : a ≤ k := by omega
          rw [show a + (t' + 1) = k + 1 from by omega]
          obtain ⟨y, _, _, _, hqy, hpx, hset⟩ := HIA.out t' (by omega)
          simp only [hk] at hqy hpx hset
          obtain ⟨hnt, hmt⟩ := HPR.out (t' + 1)
          have HMT := Lib.hid hmt
          have HNT := Lib.hid hnt
          have FX : Hid (Fits kstand x) := Lib.hid (at_fits HMT.out hpx)
          have FY : Hid (Fits kstand y) := Lib.hid (at_fits HMT.out hqy)
          have HLX : Hid (x.length = 8) := Lib.hid (FX.out.length)
          have HIX : Hid ((Tryz.prog.info? 112).map (·.size) = some x.length) := Lib.hid (by rw [HLX.out]; kernel_rfl)
          have HAX : Hid ((Tryz.prog.info? 112).map (·.size) = some x.toArray.size) := Lib.hid (by rw [List.size_toArray, HLX.out]; kernel_rfl)
          have HOX : Hid (x.toArray.all (·.oneCell') = true) := Lib.hid (all_oneCell_toArray (fits_one FX.out))
          have HLY : Hid (y.length = 8) := Lib.hid (FY.out.length)
          have HIY : Hid ((Tryz.prog.info? 112).map (·.size) = some y.length) := Lib.hid (by rw [HLY.out]; kernel_rfl)
          have HAY : Hid ((Tryz.prog.info? 112).map (·.size) = some y.toArray.size) := Lib.hid (by rw [List.size_toArray, HLY.out]; kernel_rfl)
          have HOY : Hid (y.toArray.all (·.oneCell') = true) := Lib.hid (all_oneCell_toArray (fits_one FY.out))
          have HSW := Lib.hid (row_swap (own_below HO2.out (Below.refl _ _).drew) (own_ge HO2.out) HMT.out (by decide) HNT.out hpx hqy)
          rw [hset] at HSW
          have hkn : k + 1 < n := by rw [hnt]; exact at_lt hpx
          clear hset hpx hqy hnt hmt
          go_wp2_with fail
          have hwk : IntKind.i64.wrap (k : Int) = (k : Int) := IntWalk.i64_in _ (by omega)
          have hwk1 : IntKind.i64.wrap ((k : Int) + 1) = (k : Int) + 1 := IntWalk.i64_in _ (by omega)
          apply region_to
          case h =>
            refine wp_region_any (by kernel_rfl) ?_
            refine wpAny_take (i := 0) (v := .slice (some ⟨g, 0, none⟩) n c) rfl (by kernel_rfl) (by kernel_rfl) (by kernel_rfl) (fun _ _ _ h => nomatch h.1) (.inl ⟨by rfl, fun w => by go_simp⟩) ?_
            simp only [Act.put, List.getElem_toArray, List.getElem_cons_zero, List.setIfInBounds_toArray, List.set_cons_zero, List.set_cons_succ]
            refine wpAny_take (i := 1) (v := .int .i64 ((k + 1 : Nat) : Int)) rfl (by kernel_rfl) (by kernel_rfl) (by kernel_rfl) (fun _ _ _ h => nomatch h.1) (.inl ⟨by rfl, fun w => by go_simp⟩) ?_
            simp only [Act.put, List.getElem_toArray, List.getElem_cons_succ, List.getElem_cons_zero, List.setIfInBounds_toArray, List.set_cons_zero, List.set_cons_succ]
            refine wpAny_take (i := 2) (v := .slice (some ⟨g, 0, none⟩) n c) rfl (by kernel_rfl) (by kernel_rfl) (by kernel_rfl) (fun _ _ _ h => nomatch h.1) (.inl ⟨by rfl, fun w => by go_simp⟩) ?_
            simp only [Act.put, List.getElem_toArray, List.getElem_cons_succ, List.getElem_cons_zero, List.setIfInBounds_toArray, List.set_cons_zero, List.set_cons_succ]
            refine wpAny_take (i := 3) (v := .int .i64 ((k + 1 : Nat) : Int)) rfl (by kernel_rfl) (by kernel_rfl) (by kernel_rfl) (fun _ _ _ h => nomatch h.1) (.inl ⟨by rfl, fun w => by go_simp⟩) ?_
            simp only [Act.put, List.getElem_toArray, List.getElem_cons_succ, List.getElem_cons_zero, List.setIfInBounds_toArray, List.set_cons_zero, List.set_cons_succ]
            refine wpAny_take (i := 4) (v := .int .i64 (k : Int)) rfl (by kernel_rfl) (by kernel_rfl) (by kernel_rfl) (fun _ _ _ h => nomatch h.1) (.inl ⟨by rfl, fun w => by go_simp⟩) ?_
            simp only [Act.put, List.getElem_toArray, List.getElem_cons_succ, List.getElem_cons_zero, List.setIfInBounds_toArray, List.set_cons_zero, List.set_cons_succ]
            refine wpAny_take (i := 5) (v := .slice (some ⟨g, 0, none⟩) n c) rfl (by kernel_rfl) (by kernel_rfl) (by kernel_rfl) (fun _ _ _ h => nomatch h.1) (.inl ⟨by rfl, fun w => by go_simp⟩) ?_
            simp only [Act.put, List.getElem_toArray, List.getElem_cons_succ, List.getElem_cons_zero, List.setIfInBounds_toArray, List.set_cons_zero, List.set_cons_succ]
            refine wpAny_take (i := 6) (v := .int .i64 ((k + 1 : Nat) : Int)) rfl (by kernel_rfl) (by kernel_rfl) (by kernel_rfl) (fun _ _ _ h => nomatch h.1) (.inl ⟨by rfl, fun w => by go_simp⟩) ?_
            simp only [Act.put, List.getElem_toArray, List.getElem_cons_succ, List.getElem_cons_zero, List.setIfInBounds_toArray, List.set_cons_zero, List.set_cons_succ]
            refine wpAny_take (i := 7) (v := .int .i64 (k : Int)) rfl (by kernel_rfl) (by kernel_rfl) (by kernel_rfl) (fun _ _ _ h => nomatch h.1) (.inl ⟨by rfl, fun w => by go_simp⟩) ?_
            simp only [Act.put, List.getElem_toArray, List.getElem_cons_succ, List.getElem_cons_zero, List.setIfInBounds_toArray, List.set_cons_zero, List.set_cons_succ]
            refine wpAny_take (i := 8) (v := .pointer (some ⟨g, k * 8, none⟩)) rfl (by kernel_rfl) (by kernel_rfl) (by kernel_rfl) (fun _ _ _ h => nomatch h.1) (.inl ⟨by rfl, fun w => by go_simp <;> (intro h; omega)⟩) ?_
            simp only [Act.put, List.getElem_toArray, List.getElem_cons_succ, List.getElem_cons_zero, List.setIfInBounds_toArray, List.set_cons_zero, List.set_cons_succ]
            refine wpAny_take (i := 10) (v := .slice (some ⟨g, 0, none⟩) n c) rfl (by kernel_rfl) (by kernel_rfl) (by kernel_rfl) (fun _ _ _ h => nomatch h.1) (.inl ⟨by rfl, fun w => by go_simp⟩) ?_
            simp only [Act.put, List.getElem_toArray, List.getElem_cons_succ, List.getElem_cons_zero, List.setIfInBounds_toArray, List.set_cons_zero, List.set_cons_succ]
            refine wpAny_take (i := 11) (v := .int .i64 ((k + 1 : Nat) : Int)) rfl (by kernel_rfl) (by kernel_rfl) (by kernel_rfl) (fun _ _ _ h => nomatch h.1) (.inl ⟨by rfl, fun w => by go_simp⟩) ?_
            simp only [Act.put, List.getElem_toArray, List.getElem_cons_succ, List.getElem_cons_zero, List.setIfInBounds_toArray, List.set_cons_zero, List.set_cons_succ]
            refine wpAny_take (i := 12) (v := .pointer (some ⟨g, (k + 1) * 8, none⟩)) rfl (by kernel_rfl) (by kernel_rfl) (by kernel_rfl) (fun _ _ _ h => nomatch h.1) (.inl ⟨by rfl, fun w => by go_simp <;> (intro h; omega)⟩) ?_
            simp only [Act.put, List.getElem_toArray, List.getElem_cons_succ, List.getElem_cons_zero, List.setIfInBounds_toArray, List.set_cons_zero, List.set_cons_succ]
            refine wpAny_ready (rs := [9, 13]) (by kernel_rfl) (by simp) ?_
            refine AllReady.cons rfl (fun K hK => ?_) (AllReady.cons rfl (fun K hK => ?_) AllReady.nil)
            · skip
              refine wp_load_mid 112 (.tmp 121) rfl g (k * 8) rfl y _ HSW.out.2.1 hu rfl HIY.out (hK _ _ ?_)
              clear hK K
              simp only [Act.put, List.getElem_toArray, List.getElem_cons_succ, List.getElem_cons_zero, List.setIfInBounds_toArray, List.set_cons_zero, List.set_cons_succ]
              refine wpAny_ready (rs := [13]) (by kernel_rfl) (by simp) ?_
              refine AllReady.cons rfl (fun K hK => ?_) AllReady.nil
              refine wp_load_mid 112 (.tmp 125) rfl g ((k + 1) * 8) rfl x _ HSW.out.1 hu rfl HIX.out (hK _ _ ?_)
              clear hK K
              simp only [Act.put, List.getElem_toArray, List.getElem_cons_succ, List.getElem_cons_zero, List.setIfInBounds_toArray, List.set_cons_zero, List.set_cons_succ]
              refine wpAny_take (i := 14) (v := .pointer (some ⟨g, (k + 1) * 8, none⟩)) rfl (by kernel_rfl) (by kernel_rfl) (by kernel_rfl) (fun _ _ _ h => nomatch h.1) (.inl ⟨by rfl, fun w => by go_simp <;> (intro h; omega)⟩) ?_
              simp only [Act.put, List.getElem_toArray, List.getElem_cons_succ, List.getElem_cons_zero, List.setIfInBounds_toArray, List.set_cons_zero, List.set_cons_succ]
              refine wpAny_ready (rs := [15]) (by kernel_rfl) (by simp) ?_
              refine AllReady.cons rfl (fun K hK => ?_) AllReady.nil
              refine wp_store_mid 112 (.tmp 127) (.tmp 122) rfl g ((k + 1) * 8) y.toArray rfl rfl (by rw [List.size_toArray, HLY.out]; exact HSW.out.2.2.1) HAY.out HOY.out (hK _ _ ?_)
              clear hK K
              simp only [Act.put]
              refine wpAny_take (i := 16) (v := .pointer (some ⟨g, k * 8, none⟩)) rfl (by kernel_rfl) (by kernel_rfl) (by kernel_rfl) (fun _ _ _ h => nomatch h.1) (.inl ⟨by rfl, fun w => by go_simp <;> (intro h; omega)⟩) ?_
              simp only [Act.put, List.getElem_toArray, List.getElem_cons_succ, List.getElem_cons_zero, List.setIfInBounds_toArray, List.set_cons_zero, List.set_cons_succ]
              refine wpAny_ready (rs := [17]) (by kernel_rfl) (by simp) ?_
              refine AllReady.cons rfl (fun K hK => ?_) AllReady.nil
              refine wp_store_mid 112 (.tmp 128) (.tmp 126) rfl g (k * 8) x.toArray rfl rfl (by rw [List.size_toArray, HLX.out]; exact HSW.out.2.2.2.1) HAX.out HOX.out (hK _ _ ?_)
              clear hK K
              simp only [Act.put]
              refine wpAny_done (by kernel_rfl) ?_ _
              exact ⟨rfl, rfl, rfl⟩
            · skip
              refine wp_load_mid 112 (.tmp 125) rfl g ((k + 1) * 8) rfl x _ HSW.out.1 hu rfl HIX.out (hK _ _ ?_)
              clear hK K
              simp only [Act.put, List.getElem_toArray, List.getElem_cons_succ, List.getElem_cons_zero, List.setIfInBounds_toArray, List.set_cons_zero, List.set_cons_succ]
              refine wpAny_ready (rs := [9]) (by kernel_rfl) (by simp) ?_
              refine AllReady.cons rfl (fun K hK => ?_) AllReady.nil
              refine wp_load_mid 112 (.tmp 121) rfl g (k * 8) rfl y _ HSW.out.2.1 hu rfl HIY.out (hK _ _ ?_)
              clear hK K
              simp only [Act.put, List.getElem_toArray, List.getElem_cons_succ, List.getElem_cons_zero, List.setIfInBounds_toArray, List.set_cons_zero, List.set_cons_succ]
              refine wpAny_take (i := 14) (v := .pointer (some ⟨g, (k + 1) * 8, none⟩)) rfl (by kernel_rfl) (by kernel_rfl) (by kernel_rfl) (fun _ _ _ h => nomatch h.1) (.inl ⟨by rfl, fun w => by go_simp <;> (intro h; omega)⟩) ?_
              simp only [Act.put, List.getElem_toArray, List.getElem_cons_succ, List.getElem_cons_zero, List.setIfInBounds_toArray, List.set_cons_zero, List.set_cons_succ]
              refine wpAny_ready (rs := [15]) (by kernel_rfl) (by simp) ?_
              refine AllReady.cons rfl (fun K hK => ?_) AllReady.nil
              refine wp_store_mid 112 (.tmp 127) (.tmp 122) rfl g ((k + 1) * 8) y.toArray rfl rfl (by rw [List.size_toArray, HLY.out]; exact HSW.out.2.2.1) HAY.out HOY.out (hK _ _ ?_)
              clear hK K
              simp only [Act.put]
              refine wpAny_take (i := 16) (v := .pointer (some ⟨g, k * 8, none⟩)) rfl (by kernel_rfl) (by kernel_rfl) (by kernel_rfl) (fun _ _ _ h => nomatch h.1) (.inl ⟨by rfl, fun w => by go_simp <;> (intro h; omega)⟩) ?_
              simp only [Act.put, List.getElem_toArray, List.getElem_cons_succ, List.getElem_cons_zero, List.setIfInBounds_toArray, List.set_cons_zero, List.set_cons_succ]
              refine wpAny_ready (rs := [17]) (by kernel_rfl) (by simp) ?_
              refine AllReady.cons rfl (fun K hK => ?_) AllReady.nil
              refine wp_store_mid 112 (.tmp 128) (.tmp 126) rfl g (k * 8) x.toArray rfl rfl (by rw [List.size_toArray, HLX.out]; exact HSW.out.2.2.2.1) HAX.out HOX.out (hK _ _ ?_)
              clear hK K
              simp only [Act.put]
              refine wpAny_done (by kernel_rfl) ?_ _
              exact ⟨rfl, rfl, rfl⟩
          case hq =>
            have HBN := Lib.hid (HB2.out.trans ((Below.refl B wr).drew.trans HSW.out.2.2.2.2.2))
            have HON := Lib.hid HSW.out.2.2.2.2.1
            go_wp2_with fail
            go_roundw
            case rel => exact ⟨t', by omega, by omega, by rw [HK.out], HON, HBN⟩
            case measure => simp [intOf]
        · obtain rfl : t = s := by omega
          have hki3 : a + t = i := by have := HSI.out; omega
          rw [hki3]
          clear hki3
          go_wp2_with fail
          (try simp only [Exit.inBlock, Exit.then])
          refine bodyPost_ret (results_none rfl _ _ _) rfl ?_
          exact ⟨rfl, _, HSC.out.2, HSC.out.1, HO2.out, HB2.out⟩
end Go.Proofs.YtnkhnbpopdmkhaaGreat
