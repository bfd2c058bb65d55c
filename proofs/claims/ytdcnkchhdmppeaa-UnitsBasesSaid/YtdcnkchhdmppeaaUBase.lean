/-
  CONTRACT of the code's Base.
-/
import Derived.Test.YtdcnkchhdmppeaaUOf
namespace Go.Proofs.Ytdcnkchhdmppeaa
set_option linter.unusedVariables false
open Go.RowKit
open Pl (It)

theorem first_factor (x : It) (s : ByteArray) : (firstU (fun q => Pl.eqv q s) (Pl.unitsU x 4) = -1 ∧ Pl.factorU x s = 0) ∨ ∃ i, ∃ hi : i < (Pl.unitsU x 4).length, firstU (fun q => Pl.eqv q s) (Pl.unitsU x 4) = (i : Int) ∧ (Pl.unitsU x 4)[i].2 = Pl.factorU x s ∧ 1 ≤ Pl.factorU x s := by
  unfold firstU
  rw [Pl.factor_find]
  cases h : (Pl.unitsU x 4).findIdx? (fun p => Pl.eqv p.1 s) with
  | none =>
    left
    rw [List.findIdx?_eq_none_iff] at h
    rw [List.find?_eq_none.2 (fun p hp => by rw [h p hp]; simp)]
    exact ⟨rfl, rfl⟩
  | some i =>
    right
    obtain ⟨hi, h1, h2⟩ := List.findIdx?_eq_some_iff_getElem.1 h
    have hf : (Pl.unitsU x 4).find? (fun p => Pl.eqv p.1 s) = some (Pl.unitsU x 4)[i] := by
      rw [List.find?_eq_some_iff_getElem]
      exact ⟨h1, i, hi, rfl, fun j hj => by have := h2 j hj; simpa using this⟩
    refine ⟨i, hi, rfl, by rw [hf], ?_⟩
    rw [hf]
    show 1 ≤ (Pl.unitsU x 4)[i].2
    have hm := List.getElem_mem hi
    obtain ⟨u, hu⟩ : ∃ u, (Pl.unitsU x 4)[i] = u := ⟨_, rfl⟩
    rw [hu] at hm ⊢
    rw [Pl.unitsU_places, List.mem_map] at hm
    obtain ⟨a, ha, rfl⟩ := hm
    unfold Pl.placesU at ha
    rw [List.mem_cons, List.mem_map] at ha
    rcases ha with rfl | ⟨j, hj, rfl⟩
    · exact Int.le_refl _
    · rw [List.mem_filter, List.mem_range] at hj
      have := (Pl.valid_spec hj.2).2.2.1
      show 1 ≤ x.fc j
      omega

theorem unitsU_pos (x : It) (k : Nat) : 1 ≤ (Pl.unitsU x k).length := by rw [Pl.unitsU_places]; simp [Pl.placesU]

set_option maxRecDepth 100000 in
set_option maxHeartbeats 1600000 in
theorem base_any (x : It) (s : ByteArray) (n : Int) (w : World) (hn : -9223372036854775808 ≤ n) (hn2 : n ≤ 9223372036854775807) : Calls Try.prog 8 #[.agg x.cells.toArray, .string s, .int .i64 n] w fun e w' => e = .returned (.tuple #[.int .i64 (Pl.baseU x s n), .int .i64 (Pl.baseE x s n)]) ∧ Below w.heap.size w w' := by
  have hff := first_factor x s
  have hul := Pl.unitsU_len x 4
  have hup := unitsU_pos x 4
  have HUO : Hid (∀ W, Calls Try.prog 14 #[.agg x.cells.toArray] W fun e w' => ∃ A n c, n = (Pl.unitsU x 4).length ∧ e = .returned (.slice A n c) ∧ w'.ownsRow W.heap.size 23 2 (.slice A n c) n (prC (Pl.unitsU x 4)).flatten ∧ Below W.heap.size W w') := Lib.hid (fun W => unitsOf_any x W)
  obtain ⟨l, hl⟩ : ∃ l, Pl.unitsU x 4 = l := ⟨_, rfl⟩
  rw [hl] at HUO hff hul hup
  clear hl
  obtain ⟨f, hf⟩ : ∃ f, Pl.factorU x s = f := ⟨_, rfl⟩
  obtain ⟨r, hr⟩ : ∃ r, Pl.baseU x s n = r := ⟨_, rfl⟩
  obtain ⟨er, her⟩ : ∃ r, Pl.baseE x s n = r := ⟨_, rfl⟩
  rw [hr, her]
  unfold Pl.baseU at hr
  unfold Pl.baseE at her
  rw [hf] at hff hr her
  clear hf
  obtain ⟨fi, hfi⟩ : ∃ i, firstU (fun q => Pl.eqv q s) l = i := ⟨_, rfl⟩
  rw [hfi] at hff
  have HFI := Lib.hid hfi
  clear hfi
  have HBA : Hid (Below w.heap.size w (w.alloc (.cells x.cells.toArray 26))) := Lib.hid ((Below.refl _ w).alloc (Nat.le_refl _) _)
  have HX0 : Hid ((w.alloc (.cells x.cells.toArray 26)).heap[w.heap.size]? = some (.cells x.cells.toArray 26 (0, 0))) := Lib.hid (heap_alloc_new _ _)
  have hui := Try.underlying26
  have HSX : Hid ((Try.prog.info? 26).map (·.size) = some x.cells.toArray.size) := Lib.hid (by rw [show (Try.prog.info? 26).map (·.size) = some 14 from by kernel_rfl]; rfl)
  go_enter Try.func8, Try.ntmps8
  go_wp2_with (first
    | (refine wpList_load_row rfl 26 (.tmp 3) rfl w.heap.size rfl _ _ _ _ HX0.out hui rfl HSX.out ?_)
    | fail)
  refine (HUO.out _).mono ?_
  rintro e w1 ⟨A, m, c, hm, rfl, hown, hb1⟩
  have HM := Lib.hid hm
  have B1 := Lib.hid (HBA.out.trans (hb1.mono HBA.out.size))
  have hm5 : m ≤ 5 := by omega
  have hm1 : 1 ≤ m := by omega
  clear hm hb1
  obtain ⟨g, rfl⟩ := own_some hown (by omega)
  have HO1 := Lib.hid hown
  clear hown
  go_wp2_with fail
  refine (named_any s w1).mono ?_
  rintro e w2 ⟨rfl, ht2, hb2⟩
  have HT2 := Lib.hid ht2
  have HO2 := Lib.hid (own_below HO1.out hb2)
  have B2 := Lib.hid (B1.out.trans (hb2.mono B1.out.size))
  clear ht2 hb2
  go_wp2_with fail
  refine (index_any g c m _ _ _ l w2 (by omega) HM.out (UC.of_own HO2.out (own_lt HO2.out) HM.out) HT2.out).mono ?_
  rintro e w3 ⟨rfl, hb3⟩
  rw [HFI.out]
  have HO3 := Lib.hid (own_below HO2.out hb3)
  have B3 := Lib.hid (B2.out.trans (hb3.mono B2.out.size))
  have HC3 := Lib.hid (UC.of_own HO3.out (own_lt HO3.out) HM.out)
  clear hb3
  rcases hff with ⟨rfl, rfl⟩ | ⟨i, hi, rfl, hfi, hf1⟩
  · rw [if_pos rfl] at hr her
    subst hr her
    go_wp2_with fail
    go_ret2
    exact ⟨rfl, B3.out⟩
  · rw [if_neg (by omega)] at hr her
    have c1 := (HC3.out.2 i hi).2
    rw [hfi] at c1
    have him : i < m := by rw [HM.out]; exact hi
    have hgl := HC3.out.1
    have HFI2 := Lib.hid hfi
    clear hfi
    by_cases hn1 : n < 1
    · rw [if_pos (.inl hn1)] at hr her
      subst hr her
      go_wp2_with fail
      go_ret2
      exact ⟨rfl, B3.out⟩
    · have hov := Pl.over_iff (f := f) (n := n) hf1
      have htd := tdiv_pos f hf1
      obtain ⟨q, hq⟩ : ∃ q, (1000000000 : Int) / f = q := ⟨_, rfl⟩
      rw [hq] at hov htd
      have hm0 : 0 ≤ q := by rw [← hq]; exact Int.ediv_nonneg (by omega) (by omega)
      have hq1 : q ≤ 1000000000 := by rw [← hq]; exact Int.ediv_le_self _ (by omega)
      clear hq
      by_cases ho : q < n
      · have ho2 := hov.1 ho
        rw [if_pos (.inr ho2)] at hr her
        subst hr her
        clear hov ho2
        go_wp2_with fail
        go_ret2
        exact ⟨rfl, B3.out⟩
      · have ho2 : ¬ 1000000000 < n * f := fun h => ho (hov.2 h)
        rw [if_neg (by omega)] at hr her
        have hnf : 0 ≤ n * f := Int.mul_nonneg (by omega) (by omega)
        subst her
        rw [hr] at ho2 hnf
        have hw : wrap64 (n * f) = r := by rw [hr]; exact IntWalk.wrap64_in r ⟨by omega, by omega⟩
        have HP := Lib.hid hr
        have HWR := Lib.hid hw
        clear hov hr hw
        go_wp2_with fail
        go_ret2
        exact ⟨by rw [← HWR.out]; rfl, B3.out⟩
end Go.Proofs.Ytdcnkchhdmppeaa
