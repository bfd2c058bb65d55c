/-
  CONTRACTS of slices' swapRange over things. (By wip/tools/gen_vsort.py.)
-/
import Derived.Test.YtnkhnbpopdmkhaaGreatVWords
import Derived.Test.YtnkhnbpopdmkhaaGreatHAppK
import Derived.Deep.RegionHeld3
namespace Go.Proofs.YtnkhnbpopdmkhaaGreat
set_option linter.unusedVariables false
open Go.RowKit

theorem rng_length (P X Q Y S : List (List Value)) (i : Nat) (h : X.length = Y.length) : (Pl.rng P X Q Y S i).length = (P ++ (X ++ (Q ++ (Y ++ S)))).length := by
  simp only [Pl.rng, List.length_append, List.length_take, List.length_drop]
  omega
theorem things_rng {ks : List CK} {P X Q Y S : List (List Value)} (h : Things ks (P ++ (X ++ (Q ++ (Y ++ S))))) (i : Nat) : Things ks (Pl.rng P X Q Y S i) := fun e he => h e (by
  simp only [Pl.rng, List.mem_append] at he ⊢
  rcases he with he | (he | he) | he | (he | he) | he
  · exact .inl he
  · exact .inr (.inr (.inr (.inl (List.mem_of_mem_take he))))
  · exact .inr (.inl (List.mem_of_mem_drop he))
  · exact .inr (.inr (.inl he))
  · exact .inr (.inl (List.mem_of_mem_take he))
  · exact .inr (.inr (.inr (.inl (List.mem_of_mem_drop he))))
  · exact .inr (.inr (.inr (.inr he))))
set_option maxRecDepth 100000 in
set_option maxHeartbeats 1600000 in
theorem swaprstand (B g n c K k : Nat) (P X Q Y S : List (List Value)) (za zb zk : Int) (w : World) (hX : X.length = k) (hY : Y.length = k) (hza : za = (P.length : Int)) (hzb : zb = ((P.length + k + Q.length : Nat) : Int)) (hzk : zk = (k : Int)) (hn : n = (P ++ (X ++ (Q ++ (Y ++ S)))).length) (hn6 : n ≤ 100000) (hM : Things kstand (P ++ (X ++ (Q ++ (Y ++ S))))) (ho : w.ownsRow B 112 8 (.slice (some ⟨g, 0, none⟩) n c) n (P ++ (X ++ (Q ++ (Y ++ S)))).flatten) (hB : B ≤ w.heap.size) :
    Calls Tryz.prog 93 #[.slice (some ⟨g, 0, none⟩) n c, .int .i64 za, .int .i64 zb, .int .i64 zk, .func (.func K) #[] #[]] w fun e w' => e = .returned (.tuple #[]) ∧ w'.ownsRow B 112 8 (.slice (some ⟨g, 0, none⟩) n c) n (P ++ (Y ++ (Q ++ (X ++ S)))).flatten ∧ Below B w w' := by
  have HLE : Hid (P.length + k + Q.length + k ≤ n) := Lib.hid (by rw [hn]; simp only [List.length_append, hX, hY]; omega)
  have HNN : Hid (∀ i, (Pl.rng P X Q Y S i).length = n) := Lib.hid (fun i => by rw [hn]; exact rng_length P X Q Y S i (hX.trans hY.symm))
  have HT : Hid (∀ i, Things kstand (Pl.rng P X Q Y S i)) := Lib.hid (things_rng hM)
  have HAT : Hid (∀ i, i < k → _) := Lib.hid (fun i hi => Pl.rng_at P X Q Y S hX hY hi)
  have HEND : Hid (Pl.rng P X Q Y S k = P ++ (Y ++ (Q ++ (X ++ S)))) := Lib.hid (Pl.rng_all P X Q Y S hX hY)
  have HO0 : Hid (w.ownsRow B 112 8 (.slice (some ⟨g, 0, none⟩) n c) n (Pl.rng P X Q Y S 0).flatten) := Lib.hid (by rw [Pl.rng_zero]; exact ho)
  obtain ⟨a, hpa⟩ : ∃ a, P.length = a := ⟨_, rfl⟩
  obtain ⟨b, hpb⟩ : ∃ b, a + k + Q.length = b := ⟨_, rfl⟩
  rw [hpa] at HLE HAT hza hzb
  rw [hpb] at HLE HAT hzb
  have hbl : a + k ≤ b := by omega
  subst hza hzb hzk
  have hle := HLE.out
  clear hX hY hn hM ho hpa hpb
  have hu := Tryz.underlying112
  go_enter Tryz.func93, Tryz.ntmps93
  go_wp2_with fail
  go_loopw [10] (fun iv wr => ∃ i : Nat, i ≤ k ∧ iv = .int .i64 (i : Int) ∧ Hid (wr.ownsRow B 112 8 (.slice (some ⟨g, 0, none⟩) n c) n (Pl.rng P X Q Y S i).flatten) ∧ Hid (Below B w wr)) (fun iv _ => k - (intOf iv).toNat)
  case atStart => exact ⟨0, by omega, rfl, HO0, Lib.hid (Below.refl _ _)⟩
  case round =>
    obtain ⟨i, hik, rfl, HO, HB⟩ := hrel
    by_cases hlt : i < k
    · skip
      obtain ⟨x, y, h1, h2, hx, hy, hset⟩ := HAT.out i hlt
      obtain ⟨p, hp⟩ : ∃ p, a + i = p := ⟨_, rfl⟩
      obtain ⟨q, hq⟩ : ∃ q, b + i = q := ⟨_, rfl⟩
      simp only [hp] at h1 hx hset
      simp only [hq] at h2 hy hset
      have hpx := some_at ⟨h1, hx⟩
      have hqy := some_at ⟨h2, hy⟩
      have FX : Hid (Fits kstand x) := Lib.hid (hx ▸ HT.out i _ (List.getElem_mem h1))
      have FY : Hid (Fits kstand y) := Lib.hid (hy ▸ HT.out i _ (List.getElem_mem h2))
      have HLX : Hid (x.length = 8) := Lib.hid (FX.out.length)
      have HIX : Hid ((Tryz.prog.info? 112).map (·.size) = some x.length) := Lib.hid (by rw [HLX.out]; kernel_rfl)
      have HAX : Hid ((Tryz.prog.info? 112).map (·.size) = some x.toArray.size) := Lib.hid (by rw [List.size_toArray, HLX.out]; kernel_rfl)
      have HOX : Hid (x.toArray.all (·.oneCell') = true) := Lib.hid (all_oneCell_toArray (fits_one FX.out))
      have HLY : Hid (y.length = 8) := Lib.hid (FY.out.length)
      have HIY : Hid ((Tryz.prog.info? 112).map (·.size) = some y.length) := Lib.hid (by rw [HLY.out]; kernel_rfl)
      have HAY : Hid ((Tryz.prog.info? 112).map (·.size) = some y.toArray.size) := Lib.hid (by rw [List.size_toArray, HLY.out]; kernel_rfl)
      have HOY : Hid (y.toArray.all (·.oneCell') = true) := Lib.hid (all_oneCell_toArray (fits_one FY.out))
      have HSW := Lib.hid (row_swap (own_below HO.out (Below.refl _ _).drew) (own_ge HO.out) (HT.out i) (by decide) (HNN.out i).symm hpx hqy)
      rw [hset] at HSW
      have hpn : p < n := by have := HNN.out i; omega
      have hqn : q < n := by have := HNN.out i; omega
      have hwp : IntKind.i64.wrap ((a : Int) + (i : Int)) = (p : Int) := by rw [IntWalk.i64_in _ (by omega)]; omega
      have hwq : IntKind.i64.wrap ((b : Int) + (i : Int)) = (q : Int) := by rw [IntWalk.i64_in _ (by omega)]; omega
      clear h1 h2 hx hy hpx hqy hset hp hq
      go_wp2_with fail
      apply region_to
      case h =>
        refine wp_region_any (by kernel_rfl) ?_
        refine wpAny_take (i := 0) (v := .slice (some ⟨g, 0, none⟩) n c) rfl (by kernel_rfl) (by kernel_rfl) (by kernel_rfl) (fun _ _ _ h => nomatch h.1) (.inl ⟨by rfl, fun w => by go_simp⟩) ?_
        simp only [Act.put, List.getElem_toArray, List.getElem_cons_zero, List.setIfInBounds_toArray, List.set_cons_zero, List.set_cons_succ]
        refine wpAny_take (i := 1) (v := .int .i64 (a : Int)) rfl (by kernel_rfl) (by kernel_rfl) (by kernel_rfl) (fun _ _ _ h => nomatch h.1) (.inl ⟨by rfl, fun w => by go_simp⟩) ?_
        simp only [Act.put, List.getElem_toArray, List.getElem_cons_succ, List.getElem_cons_zero, List.setIfInBounds_toArray, List.set_cons_zero, List.set_cons_succ]
        refine wpAny_take (i := 2) (v := .int .i64 (i : Int)) rfl (by kernel_rfl) (by kernel_rfl) (by kernel_rfl) (fun _ _ _ h => nomatch h.1) (.inl ⟨by rfl, fun w => by go_simp⟩) ?_
        simp only [Act.put, List.getElem_toArray, List.getElem_cons_succ, List.getElem_cons_zero, List.setIfInBounds_toArray, List.set_cons_zero, List.set_cons_succ]
        refine wpAny_take (i := 3) (v := .int .i64 (p : Int)) rfl (by kernel_rfl) (by kernel_rfl) (by kernel_rfl) (fun _ _ _ h => nomatch h.1) (.inl ⟨by rfl, fun w => by go_simp⟩) ?_
        simp only [Act.put, List.getElem_toArray, List.getElem_cons_succ, List.getElem_cons_zero, List.setIfInBounds_toArray, List.set_cons_zero, List.set_cons_succ]
        refine wpAny_take (i := 4) (v := .slice (some ⟨g, 0, none⟩) n c) rfl (by kernel_rfl) (by kernel_rfl) (by kernel_rfl) (fun _ _ _ h => nomatch h.1) (.inl ⟨by rfl, fun w => by go_simp⟩) ?_
        simp only [Act.put, List.getElem_toArray, List.getElem_cons_succ, List.getElem_cons_zero, List.setIfInBounds_toArray, List.set_cons_zero, List.set_cons_succ]
        refine wpAny_take (i := 5) (v := .int .i64 (b : Int)) rfl (by kernel_rfl) (by kernel_rfl) (by kernel_rfl) (fun _ _ _ h => nomatch h.1) (.inl ⟨by rfl, fun w => by go_simp⟩) ?_
        simp only [Act.put, List.getElem_toArray, List.getElem_cons_succ, List.getElem_cons_zero, List.setIfInBounds_toArray, List.set_cons_zero, List.set_cons_succ]
        refine wpAny_take (i := 6) (v := .int .i64 (i : Int)) rfl (by kernel_rfl) (by kernel_rfl) (by kernel_rfl) (fun _ _ _ h => nomatch h.1) (.inl ⟨by rfl, fun w => by go_simp⟩) ?_
        simp only [Act.put, List.getElem_toArray, List.getElem_cons_succ, List.getElem_cons_zero, List.setIfInBounds_toArray, List.set_cons_zero, List.set_cons_succ]
        refine wpAny_take (i := 7) (v := .int .i64 (q : Int)) rfl (by kernel_rfl) (by kernel_rfl) (by kernel_rfl) (fun _ _ _ h => nomatch h.1) (.inl ⟨by rfl, fun w => by go_simp⟩) ?_
        simp only [Act.put, List.getElem_toArray, List.getElem_cons_succ, List.getElem_cons_zero, List.setIfInBounds_toArray, List.set_cons_zero, List.set_cons_succ]
        refine wpAny_take (i := 8) (v := .slice (some ⟨g, 0, none⟩) n c) rfl (by kernel_rfl) (by kernel_rfl) (by kernel_rfl) (fun _ _ _ h => nomatch h.1) (.inl ⟨by rfl, fun w => by go_simp⟩) ?_
        simp only [Act.put, List.getElem_toArray, List.getElem_cons_succ, List.getElem_cons_zero, List.setIfInBounds_toArray, List.set_cons_zero, List.set_cons_succ]
        refine wpAny_take (i := 9) (v := .int .i64 (b : Int)) rfl (by kernel_rfl) (by kernel_rfl) (by kernel_rfl) (fun _ _ _ h => nomatch h.1) (.inl ⟨by rfl, fun w => by go_simp⟩) ?_
        simp only [Act.put, List.getElem_toArray, List.getElem_cons_succ, List.getElem_cons_zero, List.setIfInBounds_toArray, List.set_cons_zero, List.set_cons_succ]
        refine wpAny_take (i := 10) (v := .int .i64 (i : Int)) rfl (by kernel_rfl) (by kernel_rfl) (by kernel_rfl) (fun _ _ _ h => nomatch h.1) (.inl ⟨by rfl, fun w => by go_simp⟩) ?_
        simp only [Act.put, List.getElem_toArray, List.getElem_cons_succ, List.getElem_cons_zero, List.setIfInBounds_toArray, List.set_cons_zero, List.set_cons_succ]
        refine wpAny_take (i := 11) (v := .int .i64 (q : Int)) rfl (by kernel_rfl) (by kernel_rfl) (by kernel_rfl) (fun _ _ _ h => nomatch h.1) (.inl ⟨by rfl, fun w => by go_simp⟩) ?_
        simp only [Act.put, List.getElem_toArray, List.getElem_cons_succ, List.getElem_cons_zero, List.setIfInBounds_toArray, List.set_cons_zero, List.set_cons_succ]
        refine wpAny_take (i := 12) (v := .pointer (some ⟨g, q * 8, none⟩)) rfl (by kernel_rfl) (by kernel_rfl) (by kernel_rfl) (fun _ _ _ h => nomatch h.1) (.inl ⟨by rfl, fun w => by go_simp <;> (intro h; omega)⟩) ?_
        simp only [Act.put, List.getElem_toArray, List.getElem_cons_succ, List.getElem_cons_zero, List.setIfInBounds_toArray, List.set_cons_zero, List.set_cons_succ]
        refine wpAny_take (i := 14) (v := .slice (some ⟨g, 0, none⟩) n c) rfl (by kernel_rfl) (by kernel_rfl) (by kernel_rfl) (fun _ _ _ h => nomatch h.1) (.inl ⟨by rfl, fun w => by go_simp⟩) ?_
        simp only [Act.put, List.getElem_toArray, List.getElem_cons_succ, List.getElem_cons_zero, List.setIfInBounds_toArray, List.set_cons_zero, List.set_cons_succ]
        refine wpAny_take (i := 15) (v := .int .i64 (a : Int)) rfl (by kernel_rfl) (by kernel_rfl) (by kernel_rfl) (fun _ _ _ h => nomatch h.1) (.inl ⟨by rfl, fun w => by go_simp⟩) ?_
        simp only [Act.put, List.getElem_toArray, List.getElem_cons_succ, List.getElem_cons_zero, List.setIfInBounds_toArray, List.set_cons_zero, List.set_cons_succ]
        refine wpAny_take (i := 16) (v := .int .i64 (i : Int)) rfl (by kernel_rfl) (by kernel_rfl) (by kernel_rfl) (fun _ _ _ h => nomatch h.1) (.inl ⟨by rfl, fun w => by go_simp⟩) ?_
        simp only [Act.put, List.getElem_toArray, List.getElem_cons_succ, List.getElem_cons_zero, List.setIfInBounds_toArray, List.set_cons_zero, List.set_cons_succ]
        refine wpAny_take (i := 17) (v := .int .i64 (p : Int)) rfl (by kernel_rfl) (by kernel_rfl) (by kernel_rfl) (fun _ _ _ h => nomatch h.1) (.inl ⟨by rfl, fun w => by go_simp⟩) ?_
        simp only [Act.put, List.getElem_toArray, List.getElem_cons_succ, List.getElem_cons_zero, List.setIfInBounds_toArray, List.set_cons_zero, List.set_cons_succ]
        refine wpAny_take (i := 18) (v := .pointer (some ⟨g, p * 8, none⟩)) rfl (by kernel_rfl) (by kernel_rfl) (by kernel_rfl) (fun _ _ _ h => nomatch h.1) (.inl ⟨by rfl, fun w => by go_simp <;> (intro h; omega)⟩) ?_
        simp only [Act.put, List.getElem_toArray, List.getElem_cons_succ, List.getElem_cons_zero, List.setIfInBounds_toArray, List.set_cons_zero, List.set_cons_succ]
        refine wpAny_ready (rs := [13, 19]) (by kernel_rfl) (by simp) ?_
        refine AllReady.cons rfl (fun K hK => ?_) (AllReady.cons rfl (fun K hK => ?_) AllReady.nil)
        · skip
          refine wp_load_mid 112 (.tmp 28) rfl g (q * 8) rfl y _ HSW.out.2.1 hu rfl HIY.out (hK _ _ ?_)
          clear hK K
          simp only [Act.put, List.getElem_toArray, List.getElem_cons_succ, List.getElem_cons_zero, List.setIfInBounds_toArray, List.set_cons_zero, List.set_cons_succ]
          refine wpAny_ready (rs := [19]) (by kernel_rfl) (by simp) ?_
          refine AllReady.cons rfl (fun K hK => ?_) AllReady.nil
          refine wp_load_mid 112 (.tmp 34) rfl g (p * 8) rfl x _ HSW.out.1 hu rfl HIX.out (hK _ _ ?_)
          clear hK K
          simp only [Act.put, List.getElem_toArray, List.getElem_cons_succ, List.getElem_cons_zero, List.setIfInBounds_toArray, List.set_cons_zero, List.set_cons_succ]
          refine wpAny_take (i := 20) (v := .pointer (some ⟨g, p * 8, none⟩)) rfl (by kernel_rfl) (by kernel_rfl) (by kernel_rfl) (fun _ _ _ h => nomatch h.1) (.inl ⟨by rfl, fun w => by go_simp <;> (intro h; omega)⟩) ?_
          simp only [Act.put, List.getElem_toArray, List.getElem_cons_succ, List.getElem_cons_zero, List.setIfInBounds_toArray, List.set_cons_zero, List.set_cons_succ]
          refine wpAny_ready (rs := [21]) (by kernel_rfl) (by simp) ?_
          refine AllReady.cons rfl (fun K hK => ?_) AllReady.nil
          refine wp_store_mid 112 (.tmp 36) (.tmp 29) rfl g (p * 8) y.toArray rfl rfl (by rw [List.size_toArray, HLY.out]; exact HSW.out.2.2.1) HAY.out HOY.out (hK _ _ ?_)
          clear hK K
          simp only [Act.put]
          refine wpAny_take (i := 22) (v := .pointer (some ⟨g, q * 8, none⟩)) rfl (by kernel_rfl) (by kernel_rfl) (by kernel_rfl) (fun _ _ _ h => nomatch h.1) (.inl ⟨by rfl, fun w => by go_simp <;> (intro h; omega)⟩) ?_
          simp only [Act.put, List.getElem_toArray, List.getElem_cons_succ, List.getElem_cons_zero, List.setIfInBounds_toArray, List.set_cons_zero, List.set_cons_succ]
          refine wpAny_ready (rs := [23]) (by kernel_rfl) (by simp) ?_
          refine AllReady.cons rfl (fun K hK => ?_) AllReady.nil
          refine wp_store_mid 112 (.tmp 37) (.tmp 35) rfl g (q * 8) x.toArray rfl rfl (by rw [List.size_toArray, HLX.out]; exact HSW.out.2.2.2.1) HAX.out HOX.out (hK _ _ ?_)
          clear hK K
          simp only [Act.put]
          refine wpAny_done (by kernel_rfl) ?_ _
          exact ⟨rfl, rfl, rfl⟩
        · skip
          refine wp_load_mid 112 (.tmp 34) rfl g (p * 8) rfl x _ HSW.out.1 hu rfl HIX.out (hK _ _ ?_)
          clear hK K
          simp only [Act.put, List.getElem_toArray, List.getElem_cons_succ, List.getElem_cons_zero, List.setIfInBounds_toArray, List.set_cons_zero, List.set_cons_succ]
          refine wpAny_ready (rs := [13]) (by kernel_rfl) (by simp) ?_
          refine AllReady.cons rfl (fun K hK => ?_) AllReady.nil
          refine wp_load_mid 112 (.tmp 28) rfl g (q * 8) rfl y _ HSW.out.2.1 hu rfl HIY.out (hK _ _ ?_)
          clear hK K
          simp only [Act.put, List.getElem_toArray, List.getElem_cons_succ, List.getElem_cons_zero, List.setIfInBounds_toArray, List.set_cons_zero, List.set_cons_succ]
          refine wpAny_take (i := 20) (v := .pointer (some ⟨g, p * 8, none⟩)) rfl (by kernel_rfl) (by kernel_rfl) (by kernel_rfl) (fun _ _ _ h => nomatch h.1) (.inl ⟨by rfl, fun w => by go_simp <;> (intro h; omega)⟩) ?_
          simp only [Act.put, List.getElem_toArray, List.getElem_cons_succ, List.getElem_cons_zero, List.setIfInBounds_toArray, List.set_cons_zero, List.set_cons_succ]
          refine wpAny_ready (rs := [21]) (by kernel_rfl) (by simp) ?_
          refine AllReady.cons rfl (fun K hK => ?_) AllReady.nil
          refine wp_store_mid 112 (.tmp 36) (.tmp 29) rfl g (p * 8) y.toArray rfl rfl (by rw [List.size_toArray, HLY.out]; exact HSW.out.2.2.1) HAY.out HOY.out (hK _ _ ?_)
          clear hK K
          simp only [Act.put]
          refine wpAny_take (i := 22) (v := .pointer (some ⟨g, q * 8, none⟩)) rfl (by kernel_rfl) (by kernel_rfl) (by kernel_rfl) (fun _ _ _ h => nomatch h.1) (.inl ⟨by rfl, fun w => by go_simp <;> (intro h; omega)⟩) ?_
          simp only [Act.put, List.getElem_toArray, List.getElem_cons_succ, List.getElem_cons_zero, List.setIfInBounds_toArray, List.set_cons_zero, List.set_cons_succ]
          refine wpAny_ready (rs := [23]) (by kernel_rfl) (by simp) ?_
          refine AllReady.cons rfl (fun K hK => ?_) AllReady.nil
          refine wp_store_mid 112 (.tmp 37) (.tmp 35) rfl g (q * 8) x.toArray rfl rfl (by rw [List.size_toArray, HLX.out]; exact HSW.out.2.2.2.1) HAX.out HOX.out (hK _ _ ?_)
          clear hK K
          simp only [Act.put]
          refine wpAny_done (by kernel_rfl) ?_ _
          exact ⟨rfl, rfl, rfl⟩
      case hq =>
        have HBN := Lib.hid (HB.out.trans ((Below.refl B wr).drew.trans HSW.out.2.2.2.2.2))
        have HON := Lib.hid HSW.out.2.2.2.2.1
        go_wp2_with fail
        go_roundw
        case rel => exact ⟨i + 1, by omega, by go_num, HON, HBN⟩
        case measure => simp [intOf]; omega
    · obtain rfl : i = k := by omega
      have HON := HO.out
      rw [HEND.out] at HON
      have HOX := Lib.hid HON
      clear HON
      go_wp2_with fail
      go_end0
      exact ⟨rfl, HOX.out, HB.out⟩
end Go.Proofs.YtnkhnbpopdmkhaaGreat
