/-
  THE LAW LotsSerial, over the contracts.
-/
import Derived.Test.YthliomckpfeekaaLCon
import Derived.Test.YthliomckpfeekaaLRow
import Derived.Test.YthliomckpfeekaaLFacts
import Derived.Test.YthliomckpfeekaaHSmall
namespace Go.Proofs.Ythliomckpfeekaa.lotsSerial
set_option linter.unusedVariables false
open Go.RowKit
open Pl (It putG)

theorem item_at {h : Hs} {L : Nat → List (List Value)} {w : World} (hh : HT h L w) {k : Nat} (hk : k < (L 0).length) : ∃ b off, h.A 0 = some ⟨b, off, none⟩ ∧ ∀ W, Below w.heap.size w W → b < W.heap.size ∧ W.cell? ⟨b, off + k * 14, none⟩ = some (.string (codeOf (L 0)[k])) ∧ W.cell? ⟨b, off + k * 14 + 12, none⟩ = some (.bool (serI (L 0)[k])) := by
  obtain ⟨_, _, ht, hr⟩ := hh 0 (by decide)
  obtain ⟨b, off, hA, hb, hc⟩ := hr.thing ht (by decide) hk
  refine ⟨b, off, hA, fun W hW => ?_⟩
  have r1 := rangeAt_below (hc k hk) hb hW
  rw [show (kOf 0).length = 14 from rfl] at r1
  obtain ⟨x, hx⟩ := It.of (ht _ (List.getElem_mem hk))
  refine ⟨Nat.lt_of_lt_of_le hb hW.size, ?_, r1 12 _ (by rw [hx]; rfl)⟩
  have := r1 0 (.string (codeOf (L 0)[k])) (by rw [hx]; rfl)
  simpa using this
/-- What the answer of Fits for two pieces says. -/
theorem fit_two {LI LL LQ : List (List Value)} {s t : ByteArray} {i : Nat} (hi : i < LI.length) (h : atI LI s = some i) : (fitE LI LL LQ s t 2 = 0 ∨ fitE LI LL LQ s t 2 = 21 ∨ (fitE LI LL LQ s t 2 = 22 ∧ serI LI[i] = true)) ∧ (fitE LI LL LQ s t 2 = 0 → serI LI[i] = true → sumQ s t LQ 2 < 2) := by
  have hg : gotI LI s = LI[i] := by
    unfold gotI; rw [h]
    simp only [List.getD_eq_getElem?_getD, List.getElem?_eq_getElem hi, Option.getD_some]
  have he : fitE LI LL LQ s t 2 = if (lotsI LI[i] && !(atL LL s t).isSome || !lotsI LI[i] && decide (t.size ≠ 0)) = true then 21 else if (serI LI[i] && decide (1 < sumQ s t LQ 2)) = true then 22 else 0 := by
    unfold fitE
    rw [hg, h, if_neg (by simp)]
  rw [he]
  split
  · exact ⟨.inr (.inl rfl), fun h => by cases h⟩
  · split
    · rename_i h1
      rw [Bool.and_eq_true] at h1
      exact ⟨.inr (.inr ⟨rfl, h1.1⟩), fun h => by cases h⟩
    · rename_i h1
      refine ⟨.inl rfl, fun _ hs => ?_⟩
      rw [hs] at h1
      simp at h1
      omega

set_option maxRecDepth 100000 in
set_option maxHeartbeats 6400000 in
theorem walk (C : Cons) (h : Hs) (L : Nat → List (List Value)) (s t : ByteArray) (w : World) (hin : HIn h L w) (hs : s.size ≤ 140737488351232) (ht : t.size ≤ 140737488351232) :
    Calls Try.prog 5 #[.agg h.cells, .string s, .string t] w fun e w' => e = .returned (.bool true) ∧ Below w.heap.size w w' := by
  have HIN := Lib.hid hin
  have HCO := Lib.hid C
  have HAW : Hid (∀ W, Calls Try.prog 9 #[] W fun e w' => e = .returned (.bool true) ∧ Below W.heap.size W w') := Lib.hid (fun W => awake_any C W)
  clear hin hs ht
  have huh := Try.underlying37
  have HSH : Hid (∀ a : Hs, (Try.prog.info? 37).map (·.size) = some a.cells.size) := Lib.hid (fun a => by kernel_rfl)
  have HB0 : Hid (Below w.heap.size w (w.alloc (.cells h.cells 37))) := Lib.hid ((Below.refl _ _).alloc (Nat.le_refl _) _)
  have HH0 : Hid ((w.alloc (.cells h.cells 37)).heap[w.heap.size]? = some (.cells h.cells 37 (0, 0))) := Lib.hid (heap_alloc_new _ _)
  go_enter Try.func5, Try.ntmps5
  go_wp2_with (first
    | (refine wpList_load_row rfl 37 (.tmp 3) rfl w.heap.size rfl _ _ _ _ HH0.out huh rfl (HSH.out _) ?_)
    | fail)
  refine (small_calls h _).mono ?_
  rintro e w1 ⟨⟨b, rfl, hb⟩, hb1⟩
  have HH1 := Lib.hid ((hb1.block _ (lt_of_block HH0.out)).trans HH0.out)
  have HB1 := Lib.hid (HB0.out.trans (hb1.mono HB0.out.size))
  clear hb1
  cases b with
  | false =>
    clear hb
    go_wp2_with fail
    refine (HAW.out _).mono ?_
    rintro e w2 ⟨rfl, hb2⟩
    have HB2 := Lib.hid (HB1.out.trans (hb2.mono HB1.out.size))
    clear hb2
    go_wp2_with fail
    go_ret
    exact ⟨rfl, HB2.out⟩
  | true =>
    have HSM := Lib.hid (hb.1 rfl)
    have HHT := Lib.hid (HIN.out.ht (hb.1 rfl) HB1.out)
    clear hb
    go_wp2_with (first
      | (refine wpList_load_row rfl 37 (.tmp 3) rfl w.heap.size rfl _ _ _ _ HH1.out huh rfl (HSH.out _) ?_)
      | fail)
    refine (HCO.out.fits h L s t 2 _ HHT.out (by omega)).mono ?_
    rintro e w2 ⟨rfl, hb2⟩
    have HF2 := Lib.hid (fun (i : Nat) (hi : i < (L 0).length) (he : atI (L 0) s = some i) => fit_two (LL := L 1) (LQ := L 4) (t := t) hi he)
    have HF0 : Hid (atI (L 0) s = none → fitE (L 0) (L 1) (L 4) s t 2 = 12) := Lib.hid (fun he => by unfold fitE; rw [he]; rfl)
    obtain ⟨fe, hfe⟩ : ∃ r, fitE (L 0) (L 1) (L 4) s t 2 = r := ⟨_, rfl⟩
    rw [hfe] at HF2 HF0 ⊢
    have HH2 := Lib.hid ((hb2.block _ (lt_of_block HH1.out)).trans HH1.out)
    have HB2 := Lib.hid (HB1.out.trans (hb2.mono HB1.out.size))
    have HT2 := Lib.hid (HHT.out.below hb2)
    clear hfe hb2
    obtain ⟨n0, hn0⟩ : ∃ n, h.n 0 = n := ⟨_, rfl⟩
    obtain ⟨m, hm⟩ : ∃ n, h.n 4 = n := ⟨_, rfl⟩
    have hn6 : n0 ≤ 1000 := by rw [← hn0]; exact Nat.le_trans (HSM.out 0 (by decide)) (by decide)
    have hm6 : m ≤ 1000 := by rw [← hm]; exact Nat.le_trans (HSM.out 4 (by decide)) (by decide)
    have HN0 : Hid (n0 = (L 0).length) := Lib.hid (by rw [← hn0]; exact (HT2.out 0 (by decide)).1)
    have HN4 : Hid (m = (L 4).length) := Lib.hid (by rw [← hm]; exact (HT2.out 4 (by decide)).1)
    have d0 : w2.cell? ⟨w.heap.size, 0, none⟩ = some (.slice (h.A 0) n0 (h.c 0)) := by rw [cell_of_block HH2.out, ← hn0]; rfl
    have d4 : w2.cell? ⟨w.heap.size, 4, none⟩ = some (.slice (h.A 4) m (h.c 4)) := by rw [cell_of_block HH2.out, ← hm]; rfl
    have hlw : w.heap.size < w2.heap.size := lt_of_block HH2.out
    have D0 := Lib.hid d0
    have D4 := Lib.hid d4
    have HLW := Lib.hid hlw
    clear hn0 hm d0 d4 hlw
    go_wp2_with fail
    go_loopw [8] (fun iv wr => ∃ i : Nat, i ≤ n0 ∧ iv = .int .i64 (i : Int) ∧ Hid (∀ j (hj : j < (L 0).length), j < i → Pl.eqv (codeOf (L 0)[j]) s = false) ∧ Hid (wr = w2)) (fun iv _ => n0 - (intOf iv).toNat)
    case atStart => exact ⟨0, by omega, rfl, Lib.hid (fun j hj h => by omega), Lib.hid (by first | rfl | trivial)⟩
    case round =>
      obtain ⟨i, hi, rfl, hno, hw⟩ := hrel
      obtain rfl := hw.out
      have d0 := D0.out
      have hlw := HLW.out
      by_cases hlt : i < n0
      · have hil : i < (L 0).length := by rw [← HN0.out]; exact hlt
        obtain ⟨b, off, hA, hc⟩ := item_at HT2.out hil
        obtain ⟨hbl, q0, q12⟩ := hc _ (Below.refl _ _)
        have HA0 := Lib.hid hA
        rw [hA] at d0
        have hfi := fun he => HF2.out i hil he
        obtain ⟨u, hu⟩ : ∃ u, (L 0)[i] = u := ⟨_, rfl⟩
        rw [hu] at q0 q12 hfi
        obtain ⟨uc, huc⟩ : ∃ y, codeOf u = y := ⟨_, rfl⟩
        obtain ⟨us, hus⟩ : ∃ y, serI u = y := ⟨_, rfl⟩
        rw [huc] at q0
        rw [hus] at q12 hfi
        have HUC : Hid (codeOf (L 0)[i] = uc) := Lib.hid (by rw [hu, huc])
        clear hu huc hus hA hc
        cases hp : Pl.eqv uc s with
        | false =>
          have hp' : (uc.toList == s.toList) = false := hp
          have HNO : Hid (∀ j (hj : j < (L 0).length), j < i + 1 → Pl.eqv (codeOf (L 0)[j]) s = false) := Lib.hid (fun j hj hji => by
            by_cases e : j = i
            · subst e; rw [HUC.out]; exact hp
            · exact hno.out j hj (by omega))
          clear hp hfi
          go_wp2_with fail
          go_roundw
          case rel => exact ⟨i + 1, by omega, by go_num, HNO, Lib.hid (by first | rfl | trivial)⟩
          case measure => simp [intOf]; omega
        | true =>
          have hp' : (uc.toList == s.toList) = true := hp
          have hat : atI (L 0) s = some i := by
            rw [atI_first]
            exact Pl.firstG_some hil (fun j hj hji => hno.out j hj hji) (by rw [HUC.out]; exact hp)
          have HFI := Lib.hid (hfi hat)
          have D0b := Lib.hid d0
          have Q12 := Lib.hid q12
          have HBL := Lib.hid hbl
          clear hp hat hfi
          go_wp2_with fail
          go_loopw [9] (fun kv wx => ∃ k : Nat, k ≤ m ∧ kv = .int .i64 (k : Int) ∧ Hid (wx = wr)) (fun kv _ => m - (intOf kv).toNat)
          case atStart => exact ⟨0, by omega, rfl, Lib.hid (by first | rfl | trivial)⟩
          case round =>
            obtain ⟨k, hk, rfl, hw1⟩ := hrel
            obtain rfl := hw1.out
            have d4 := D4.out
            have hlw := HLW.out
            by_cases hlt4 : k < m
            · have hkl : k < (L 4).length := by rw [← HN4.out]; exact hlt4
              obtain ⟨b4, off4, hA4, hc4⟩ := quant_at HT2.out hkl
              obtain ⟨hbl4, _, _, q4⟩ := hc4 _ (Below.refl _ _)
              rw [hA4] at d4
              obtain ⟨uq, huq⟩ : ∃ y, qtyQ (L 4)[k] = y := ⟨_, rfl⟩
              rw [huq] at q4
              clear huq hA4 hc4
              by_cases hneg : uq < 0
              · go_wp2_with fail
                refine (HAW.out _).mono ?_
                rintro e w4 ⟨rfl, hb4⟩
                have HB4 := Lib.hid (HB2.out.trans (hb4.mono HB2.out.size))
                clear hb4
                go_wp2_with fail
                go_ret
                exact ⟨rfl, HB4.out⟩
              · go_wp2_with fail
                go_roundw
                case rel => exact ⟨k + 1, by omega, by go_num, Lib.hid (by first | rfl | trivial)⟩
                case measure => simp [intOf]; omega
            · obtain rfl : k = m := by omega
              have d0 := D0b.out
              have q12 := Q12.out
              have hbl := HBL.out
              obtain ⟨hf3, hf4⟩ := HFI.out
              have hcase : (us = true ∧ fe = 0) ∨ (fe = 0 ∧ us = false) ∨ fe = 21 ∨ (fe = 22 ∧ us = true) := by
                rcases hf3 with h1 | h1 | h1
                · cases us with
                  | true => exact .inl ⟨rfl, h1⟩
                  | false => exact .inr (.inl ⟨h1, rfl⟩)
                · exact .inr (.inr (.inl h1))
                · exact .inr (.inr (.inr h1))
              have HF4 := Lib.hid hf4
              clear hf3 hf4
              rcases hcase with ⟨rfl, rfl⟩ | ⟨rfl, rfl⟩ | rfl | ⟨rfl, rfl⟩
              · have HLT2 : Hid (sumQ s t (L 4) 2 < 2) := Lib.hid (HF4.out rfl rfl)
                go_wp2_with fail
                clear d4
                go_loopw [10, 11] (fun sv kv wx => ∃ k2 : Nat, k2 ≤ k ∧ kv = .int .i64 (k2 : Int) ∧ (∃ q : Int, sv = .int .i64 q ∧ Hid (q = sumQ s t ((L 4).take k2) 2)) ∧ Hid (wx = wr)) (fun _ kv _ => k - (intOf kv).toNat)
                case atStart => exact ⟨0, by omega, rfl, ⟨2, rfl, Lib.hid rfl⟩, Lib.hid (by first | rfl | trivial)⟩
                case round =>
                  obtain ⟨k2, hk2, rfl, ⟨q, rfl, hq⟩, hw2⟩ := hrel
                  obtain rfl := hw2.out
                  have d4 := D4.out
                  have hlw := HLW.out
                  by_cases hlt5 : k2 < k
                  · have hkl : k2 < (L 4).length := by rw [← HN4.out]; exact hlt5
                    obtain ⟨b4, off4, hA4, hc4⟩ := quant_at HT2.out hkl
                    obtain ⟨hbl4, q1, q2, q4⟩ := hc4 _ (Below.refl _ _)
                    rw [hA4] at d4
                    have hsn := sumQ_snoc s t (L 4) k2 hkl 2
                    obtain ⟨u4, hu4⟩ : ∃ u, (L 4)[k2] = u := ⟨_, rfl⟩
                    rw [hu4] at q1 q2 q4 hsn
                    rw [← hq.out] at hsn
                    obtain ⟨ui, hui⟩ : ∃ y, itemQ u4 = y := ⟨_, rfl⟩
                    obtain ⟨ul, hul⟩ : ∃ y, lotQ u4 = y := ⟨_, rfl⟩
                    obtain ⟨uq, huq⟩ : ∃ y, qtyQ u4 = y := ⟨_, rfl⟩
                    have hof : ofQ s t u4 = (Pl.eqv ui s && Pl.eqv ul t) := by unfold ofQ; rw [hui, hul]
                    rw [huq] at q4 hsn
                    rw [hof] at hsn
                    rw [hui] at q1
                    rw [hul] at q2
                    have HSN := Lib.hid hsn
                    clear hof hui hul huq hu4 hsn hc4 hA4 hkl
                    cases hp1 : Pl.eqv ui s with
                    | false =>
                      have hp1' : (ui.toList == s.toList) = false := hp1
                      have HS1 : Hid (q = sumQ s t ((L 4).take (k2 + 1)) 2) := Lib.hid (by rw [HSN.out, hp1]; rfl)
                      clear hp1
                      go_wp2_with fail
                      go_roundw
                      case rel => exact ⟨k2 + 1, by omega, by go_num, ⟨q, rfl, HS1⟩, Lib.hid (by first | rfl | trivial)⟩
                      case measure => simp [intOf]; omega
                    | true =>
                      have hp1' : (ui.toList == s.toList) = true := hp1
                      cases hp2 : Pl.eqv ul t with
                      | false =>
                        have hp2' : (ul.toList == t.toList) = false := hp2
                        have HS1 : Hid (q = sumQ s t ((L 4).take (k2 + 1)) 2) := Lib.hid (by rw [HSN.out, hp1, hp2]; rfl)
                        clear hp1 hp2
                        go_wp2_with fail
                        go_roundw
                        case rel => exact ⟨k2 + 1, by omega, by go_num, ⟨q, rfl, HS1⟩, Lib.hid (by first | rfl | trivial)⟩
                        case measure => simp [intOf]; omega
                      | true =>
                        have hp2' : (ul.toList == t.toList) = true := hp2
                        have HS1 : Hid (wrap64 (q + uq) = sumQ s t ((L 4).take (k2 + 1)) 2) := Lib.hid (by rw [HSN.out, hp1, hp2]; rfl)
                        clear hp1 hp2
                        go_wp2_with fail
                        go_roundw
                        case rel => exact ⟨k2 + 1, by omega, by go_num, ⟨_, rfl, HS1⟩, Lib.hid (by first | rfl | trivial)⟩
                        case measure => simp [intOf]; omega
                  · obtain rfl : k2 = k := by omega
                    have hq2 : q < 2 := by
                      have := hq.out
                      rw [List.take_of_length_le (by rw [HN4.out]; omega)] at this
                      rw [this]; exact HLT2.out
                    go_wp2_with fail
                    refine (HAW.out _).mono ?_
                    rintro e w4 ⟨rfl, hb4⟩
                    have HB4 := Lib.hid (HB2.out.trans (hb4.mono HB2.out.size))
                    clear hb4
                    go_wp2_with fail
                    go_ret
                    exact ⟨rfl, HB4.out⟩
              · go_wp2_with fail
                refine (HAW.out _).mono ?_
                rintro e w4 ⟨rfl, hb4⟩
                have HB4 := Lib.hid (HB2.out.trans (hb4.mono HB2.out.size))
                clear hb4
                go_wp2_with fail
                go_ret
                exact ⟨rfl, HB4.out⟩
              · cases us with
                | true =>
                  go_wp2_with fail
                  refine (HAW.out _).mono ?_
                  rintro e w4 ⟨rfl, hb4⟩
                  have HB4 := Lib.hid (HB2.out.trans (hb4.mono HB2.out.size))
                  clear hb4
                  go_wp2_with fail
                  go_ret
                  exact ⟨rfl, HB4.out⟩
                | false =>
                  go_wp2_with fail
                  refine (HAW.out _).mono ?_
                  rintro e w4 ⟨rfl, hb4⟩
                  have HB4 := Lib.hid (HB2.out.trans (hb4.mono HB2.out.size))
                  clear hb4
                  go_wp2_with fail
                  go_ret
                  exact ⟨rfl, HB4.out⟩
              · go_wp2_with fail
                refine (HAW.out _).mono ?_
                rintro e w4 ⟨rfl, hb4⟩
                have HB4 := Lib.hid (HB2.out.trans (hb4.mono HB2.out.size))
                clear hb4
                go_wp2_with fail
                go_ret
                exact ⟨rfl, HB4.out⟩
      · obtain rfl : i = n0 := by omega
        have HAT : Hid (fe = 12) := Lib.hid (HF0.out (by rw [atI_first]; exact Pl.firstG_none (fun j hj => hno.out j hj (by rw [HN0.out]; exact hj))))
        have hat := HAT.out
        subst hat
        go_wp2_with fail
        refine (HAW.out _).mono ?_
        rintro e w4 ⟨rfl, hb4⟩
        have HB4 := Lib.hid (HB2.out.trans (hb4.mono HB2.out.size))
        clear hb4
        go_wp2_with fail
        go_ret
        exact ⟨rfl, HB4.out⟩
end Go.Proofs.Ythliomckpfeekaa.lotsSerial
