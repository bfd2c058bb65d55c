/-
  THE LAW RoomAdds, over the contracts. (By wip/tools/gen_adds11.py.)
-/
import Derived.Test.YthoblccmdadmmaaZCon
import Derived.Test.YthoblccmdadmmaaZRow
import Derived.Test.YthoblccmdadmmaaZInv
import Derived.Test.YthoblccmdadmmaaHAppK
import Derived.Test.YthoblccmdadmmaaHSmall
import Derived.Test.YthoblccmdadmmaaHBoth
import Derived.Test.YthoblccmdadmmaaHA
import Derived.Deep.RegionHeld3
import Derived.Deep.CutRange
import Derived.BigQuiet
namespace Go.Proofs.Ythoblccmdadmmaa.roomAdds
set_option linter.unusedVariables false
open Go.RowKit
open Pl (firstG findG putG It)

set_option maxRecDepth 100000 in
set_option maxHeartbeats 12800000 in
theorem walk0 (C : Cons) (h : Hs) (L : Nat → List (List Value)) (sb si : ByteArray) (nq v u : Int) (w : World) (hin : HIn h L w) (hwn : Wf nq) :
    Calls Try.prog 6 #[.agg h.cells, .agg #[.string sb, .string si, .int .i64 nq, .int .i64 v, .int .i64 u]] w fun e w' => e = .returned (.bool true) ∧ Below w.heap.size w w' := by
  have HIN := Lib.hid hin
  have HCO := Lib.hid C
  have HWN := Lib.hid hwn
  have HAW : Hid (∀ W, Calls Try.prog 12 #[] W fun e w' => e = .returned (.bool true) ∧ Below W.heap.size W w') := Lib.hid (fun W => awake_any C W)
  obtain ⟨m, hm⟩ : ∃ m, h.n 3 = m := ⟨_, rfl⟩
  obtain ⟨m4, hm4⟩ : ∃ m, h.n 4 = m := ⟨_, rfl⟩
  have HM : Hid (m = (L 3).length) := Lib.hid (by rw [← hm]; exact hin.n 3 (by decide))
  have HM4 : Hid (m4 = (L 4).length) := Lib.hid (by rw [← hm4]; exact hin.n 4 (by decide))
  have HMM := Lib.hid hm
  have HMM4 := Lib.hid hm4
  clear hm hm4
  obtain ⟨i0, hi0, hz0, hz1, hz2⟩ := info_parts (show (Try.prog.info? 61).map (fun i => (i.zero, i.size, i.bytes)) = some (some (.agg #[.string ByteArray.empty, .string ByteArray.empty, .string ByteArray.empty, .int .i64 0, .int .i64 0, .int .i64 0]), 6, 72) from by kernel_rfl)
  obtain ⟨W0, hW0⟩ : ∃ W0, W0 = ((w.alloc (.cells h.cells 37)).alloc (.cells #[.string sb, .string si, .int .i64 nq, .int .i64 v, .int .i64 u] 39)) := ⟨_, rfl⟩
  have B0 : Hid (Below w.heap.size w W0) := Lib.hid (by rw [hW0]; exact ((Below.refl _ _).alloc (Nat.le_refl _) _).alloc (by simp <;> omega) _)
  have HH0 : Hid (W0.heap[w.heap.size]? = some (.cells h.cells 37 (0, 0))) := Lib.hid (by
    rw [hW0]
    have hq := heap_alloc_new w (.cells h.cells 37)
    exact (Below.heap_alloc _ _ _ (by simp <;> omega)).trans (by simpa using hq))
  have HX0 : Hid (W0.heap[w.heap.size + 1]? = some (.cells #[.string sb, .string si, .int .i64 nq, .int .i64 v, .int .i64 u] 39 (0, 0))) := Lib.hid (by
    rw [hW0]
    have hq := heap_alloc_new (w.alloc (.cells h.cells 37)) (.cells #[.string sb, .string si, .int .i64 nq, .int .i64 v, .int .i64 u] 39)
    exact by simpa using hq)
  have huh := Try.underlying37
  have HSH : Hid (∀ a : Hs, (Try.prog.info? 37).map (·.size) = some a.cells.size) := Lib.hid (fun a => by kernel_rfl)
  have HSHL : Hid (∀ a : Hs, (Try.prog.info? 37).map (·.size) = some a.cells.toList.length) := Lib.hid (fun a => by kernel_rfl)
  have H1C : Hid (∀ a : Hs, a.cells.all (·.oneCell') = true) := Lib.hid (fun a => by simp [Hs.cells, Value.oneCell'])
  have huAsk := Try.underlying39
  have HSAsk : Hid ((Try.prog.info? 39).map (·.size) = some 5) := Lib.hid (by kernel_rfl)
  clear hin C hwn
  subst hW0
  go_enter Try.func6, Try.ntmps6
  go_wp2_with (first
    | (refine wpList_load_row rfl 37 (.tmp 2) rfl w.heap.size rfl _ _ _ _ HH0.out huh rfl (HSH.out _) ?_)
    | fail)
  refine (small_calls h _).mono ?_
  rintro e w1 ⟨⟨b, rfl, hb⟩, hb1⟩
  have HH1 := Lib.hid ((hb1.block _ (lt_of_block HH0.out)).trans HH0.out)
  have HX1 := Lib.hid ((hb1.block _ (lt_of_block HX0.out)).trans HX0.out)
  have B1 := Lib.hid (B0.out.trans (hb1.mono B0.out.size))
  clear hb1
  cases b with
  | false =>
    clear hb
    go_wp2_with fail
    refine (HAW.out _).mono ?_
    rintro e w2 ⟨rfl, hb2⟩
    have HB2 := Lib.hid (B1.out.trans (hb2.mono B1.out.size))
    clear hb2
    go_wp2_with fail
    go_ret
    exact ⟨rfl, HB2.out⟩
  | true =>
    have HSM := Lib.hid (hb.1 rfl)
    clear hb
    have HT1 : Hid (HT h L w1) := Lib.hid (HIN.out.ht HSM.out B1.out)
    have HN : Hid (∀ i, i < 14 → h.n i ≤ 1000) := Lib.hid (fun i hi => Nat.le_trans (HSM.out i hi) (cap_le i hi))
    have hm9 : m ≤ 1000 := by rw [← HMM.out]; exact HN.out 3 (by decide)
    have hm49 : m4 ≤ 1000 := by rw [← HMM4.out]; exact HN.out 4 (by decide)
    have HCL : Hid (∀ W, Below w1.heap.size w1 W → W.cell? ⟨w.heap.size, 3, none⟩ = some (.slice (h.A 3) m (h.c 3)) ∧ w.heap.size < W.heap.size) := Lib.hid (fun W hW => by
      have q := (hW.block _ (lt_of_block HH1.out)).trans HH1.out
      exact ⟨by rw [cell_of_block q, ← HMM.out]; rfl, lt_of_block q⟩)
    have HLB : Hid (∀ k (hk : k < (L 3).length), ∃ b off, h.A 3 = some ⟨b, off, none⟩ ∧ b < w1.heap.size ∧ ∀ j (hj : j < (L 3).length), ∀ W, Below w1.heap.size w1 W → W.cell? ⟨b, off + j * 8, none⟩ = some (.string (codeOf (L 3)[j]))) := Lib.hid (fun k hk => by
      obtain ⟨b, off, hA, hb, hc⟩ := (HT1.out 3 (by decide)).2.2.2.thing (HT1.out 3 (by decide)).2.2.1 (by decide) hk
      refine ⟨b, off, hA, hb, fun j hj W hW => ?_⟩
      obtain ⟨r, hr⟩ := code_Bin ((HT1.out 3 (by decide)).2.2.1 _ (List.getElem_mem hj))
      have r0 := hc j hj
      rw [show (kOf 3).length = 8 from rfl] at r0
      have := rangeAt_below r0 hb hW 0 (.string (codeOf (L 3)[j])) (by rw [hr]; rfl)
      simpa using this)
    go_wp2_with fail
    go_loopw [5] (fun i wr => ∃ k : Nat, k ≤ m ∧ i = .int .i64 (k : Int) ∧ Hid (∀ i j (hi : i < (L 3).length) (hj : j < (L 3).length), i < j → j < k → Pl.eqv (codeOf (L 3)[i]) (codeOf (L 3)[j]) = false) ∧ Hid (Below w1.heap.size w1 wr)) (fun i _ => m - (intOf i).toNat)
    case atStart => exact ⟨0, by omega, rfl, Lib.hid (fun i j hi hj h1 h2 => by omega), Lib.hid (Below.refl _ _)⟩
    case round =>
      obtain ⟨k, hk, rfl, hun, hw⟩ := hrel
      obtain ⟨d3, dlt⟩ := HCL.out _ hw.out
      by_cases hlt : k < m
      · have hkl : k < (L 3).length := by rw [← HM.out]; exact hlt
        go_wp2_with fail
        clear d3 dlt
        go_loopw [6] (fun q wx => ∃ j : Nat, j ≤ k ∧ q = .int .i64 (j : Int) ∧ Hid (∀ i (hi : i < (L 3).length), i < j → Pl.eqv (codeOf (L 3)[i]) (codeOf (L 3)[k]) = false) ∧ Hid (Below w1.heap.size w1 wx)) (fun q _ => k - (intOf q).toNat)
        case atStart => exact ⟨0, by omega, rfl, Lib.hid (fun i hi h1 => by omega), hw⟩
        case round =>
          obtain ⟨j, hj, rfl, hno, hx⟩ := hrel
          obtain ⟨d3, dlt⟩ := HCL.out _ hx.out
          by_cases hjk : j < k
          · have hjl : j < (L 3).length := by omega
            obtain ⟨b, off, hA, hb, hc⟩ := HLB.out k hkl
            have z1 := hc j hjl _ hx.out
            have z2 := hc k hkl _ hx.out
            obtain ⟨cj, hcj⟩ : ∃ c, codeOf (L 3)[j] = c := ⟨_, rfl⟩
            obtain ⟨ck, hck⟩ : ∃ c, codeOf (L 3)[k] = c := ⟨_, rfl⟩
            rw [hcj] at z1
            rw [hck] at z2
            rw [hA] at d3
            have hbl : b < wr.heap.size := Nat.lt_of_lt_of_le hb hx.out.size
            have i1 : (0 : Int) ≤ (k : Int) := by omega
            have i2 : (k : Int) < (m : Int) := by omega
            have i3 : (0 : Int) ≤ (j : Int) := by omega
            have i4 : (j : Int) < (m : Int) := by omega
            have HCJ := Lib.hid hcj
            have HCK := Lib.hid hck
            clear hcj hck hc hA hb
            cases he : Pl.eqv cj ck with
            | true =>
              have he' : (cj.toList == ck.toList) = true := he
              clear he
              go_wp2_with fail
              go_quiet (fail)
              go_wp2_with fail
              refine (HAW.out _).mono ?_
              rintro e w9 ⟨rfl, hb9⟩
              have BN := Lib.hid (B1.out.trans (((below_drewN hx.out _).trans (hb9.mono (below_drewN hx.out _).size)).mono B1.out.size))
              clear hb9
              go_wp2_with fail
              go_ret
              exact ⟨rfl, BN.out⟩
            | false =>
              have he' : (cj.toList == ck.toList) = false := he
              have HNX : Hid (∀ i (hi : i < (L 3).length), i < j + 1 → Pl.eqv (codeOf (L 3)[i]) (codeOf (L 3)[k]) = false) := Lib.hid (fun i hi h1 => by
                by_cases h2 : i = j
                · subst h2; rw [HCJ.out, HCK.out]; exact he
                · exact hno.out i hi (by omega))
              clear he
              go_wp2_with fail
              go_quiet (fail)
              go_wp2_with fail
              go_roundw
              case rel => exact ⟨j + 1, by omega, by go_num, HNX, Lib.hid (below_drewN hx.out _)⟩
              case measure => simp [intOf]; omega
          · obtain rfl : j = k := by omega
            have HNX : Hid (∀ i q (hi : i < (L 3).length) (hq : q < (L 3).length), i < q → q < j + 1 → Pl.eqv (codeOf (L 3)[i]) (codeOf (L 3)[q]) = false) := Lib.hid (fun i q hi hq h1 h2 => by
              by_cases h3 : q = j
              · subst h3; exact hno.out i hi (by omega)
              · exact hun.out i q hi hq h1 (by omega))
            go_wp2_with fail
            go_roundw
            case rel => exact ⟨j + 1, by omega, by go_num, HNX, hx⟩
            case measure => simp [intOf]; omega
      · have hkm : k = m := by omega
        have HUN : Hid (Unlike (L 3)) := Lib.hid (fun i j hi hj hij => hun.out i j hi hj hij (by rw [hkm, HM.out]; exact hj))
        have HH2 := Lib.hid ((hw.out.block _ (lt_of_block HH1.out)).trans HH1.out)
        have HX2 := Lib.hid ((hw.out.block _ (lt_of_block HX1.out)).trans HX1.out)
        have B2 := Lib.hid (B1.out.trans (hw.out.mono B1.out.size))
        have HT2 := Lib.hid (HT1.out.below hw.out)
        obtain ⟨er, her⟩ : ∃ r : Nat, roomE (L 0) (L 3) (L 4) sb si nq = r := ⟨_, rfl⟩
        have HER := Lib.hid her
        have CFI : Hid (∀ W, HT h L W → Calls Try.prog 16 #[.agg h.cells, .string sb, .string si, .int .i64 nq] W fun e w' => e = .returned (.int .i64 (er : Int)) ∧ Below W.heap.size W w') := Lib.hid (fun W hW => by rw [← her]; exact HCO.out.fits h L sb si nq W hW HWN.out)
        clear her
        have x0 : wr.cell? ⟨w.heap.size + 1, 0, none⟩ = some (.string sb) := by rw [cell_of_block HX2.out]; rfl
        have x1 : wr.cell? ⟨w.heap.size + 1, 1, none⟩ = some (.string si) := by rw [cell_of_block HX2.out]; rfl
        have x2 : wr.cell? ⟨w.heap.size + 1, 2, none⟩ = some (.int .i64 nq) := by rw [cell_of_block HX2.out]; rfl
        have xlt : w.heap.size + 1 < wr.heap.size := lt_of_block HX2.out
        go_wp2_with (first
          | (refine wpList_load_row rfl 37 (.tmp 2) rfl w.heap.size rfl _ _ _ _ HH2.out huh rfl (HSH.out _) ?_)
          | fail)
        refine (CFI.out _ HT2.out).mono ?_
        rintro e w3 ⟨rfl, hb3⟩
        have HH3 := Lib.hid ((hb3.block _ (lt_of_block HH2.out)).trans HH2.out)
        have HX3 := Lib.hid ((hb3.block _ (lt_of_block HX2.out)).trans HX2.out)
        have B3 := Lib.hid (B2.out.trans (hb3.mono B2.out.size))
        have HT3 := Lib.hid (HT2.out.below hb3)
        clear hb3
        clear x0 x1 x2 xlt
        clear d3 dlt
        have HQ4 : Hid ((w3.alloc (.cells #[.slice none 0 0, .slice none 0 0, .slice none 0 0, .slice none 0 0, .slice none 0 0, .slice none 0 0, .slice none 0 0, .slice none 0 0, .slice none 0 0, .slice none 0 0, .slice none 0 0, .slice none 0 0, .slice none 0 0, .slice none 0 0, .int .i64 0] 37)).heap[w3.heap.size]? = some (.cells #[.slice none 0 0, .slice none 0 0, .slice none 0 0, .slice none 0 0, .slice none 0 0, .slice none 0 0, .slice none 0 0, .slice none 0 0, .slice none 0 0, .slice none 0 0, .slice none 0 0, .slice none 0 0, .slice none 0 0, .slice none 0 0, .int .i64 0] 37 (0, 0))) := Lib.hid (heap_alloc_new _ _)
        obtain ⟨w4, hw4⟩ : ∃ w', w' = (w3.alloc (.cells #[.slice none 0 0, .slice none 0 0, .slice none 0 0, .slice none 0 0, .slice none 0 0, .slice none 0 0, .slice none 0 0, .slice none 0 0, .slice none 0 0, .slice none 0 0, .slice none 0 0, .slice none 0 0, .slice none 0 0, .slice none 0 0, .int .i64 0] 37)).setRow w3.heap.size h.cells := ⟨_, rfl⟩
        have hb4 : Below w3.heap.size w3 w4 := by rw [hw4]; exact setRow_below ((Below.refl _ _).alloc (Nat.le_refl _) _) (Nat.le_refl _) _
        have HH4 := Lib.hid ((hb4.block _ (lt_of_block HH3.out)).trans HH3.out)
        have HX4 := Lib.hid ((hb4.block _ (lt_of_block HX3.out)).trans HX3.out)
        have B4 := Lib.hid (B3.out.trans (hb4.mono B3.out.size))
        have HT4 := Lib.hid (HT3.out.below hb4)
        have HG4 : Hid (w4.heap[w3.heap.size]? = some (.cells h.cells 37 (0, 0))) := Lib.hid (by rw [hw4]; exact setRow_heap _ _ _ _ _ _ HQ4.out)
        have HW4 := Lib.hid hw4
        clear hb4 hw4
        obtain ⟨gb, hgb⟩ : ∃ n, n = w3.heap.size := ⟨_, rfl⟩
        have HGB := Lib.hid hgb
        have HOFF : Hid (Off gb h L) := Lib.hid (HT3.out.offge (Nat.le_of_eq hgb.symm))
        go_upto_region 13 with (first
          | (refine wpList_store_row rfl 37 (.tmp 8) (.tmp 50) rfl w3.heap.size h.cells rfl rfl _ _ HQ4.out (HSH.out _) rfl (H1C.out _) ?_; rw [← HW4.out, ← HGB.out])
          | (refine wpList_load_row rfl 37 (.tmp 2) rfl w.heap.size rfl _ _ _ _ HH3.out huh rfl (HSH.out _) ?_)
          | fail)
        have HG : Hid (w4.heap[gb]? = some (.cells h.cells 37 (0, 0))) := Lib.hid (by rw [HGB.out]; exact HG4.out)
        have HGL : Hid (w.heap.size + 1 < gb) := Lib.hid (by rw [HGB.out]; exact lt_of_block HX3.out)
        have HGS : Hid (gb < w4.heap.size) := Lib.hid (lt_of_block HG.out)
        clear hgb
        simp only [Act.put]
        go_cut [64] from 51 to 66 (fun _ wx => ∃ a : Hs, Hid (HT a (setE 0 L 4 (L 4 ++ [[.string sb, .string si, .string ⟨#[109, 111, 114, 101]⟩, .int .i64 1, .int .i64 nq, .int .i64 0]])) wx ∧ wx.heap[gb]? = some (.cells a.cells 37 (0, 0)) ∧ wx.heap[w.heap.size + 1]? = some (.cells #[.string sb, .string si, .int .i64 nq, .int .i64 v, .int .i64 u] 39 (0, 0)) ∧ Below w.heap.size w wx))
        case first =>
          have HST : Hid (∀ W, Below w4.heap.size w4 W → W.cell? ⟨w.heap.size, 4, none⟩ = some (.slice (h.A 4) m4 (h.c 4)) ∧ W.cell? ⟨w.heap.size + 1, 0, none⟩ = some (.string sb) ∧ W.cell? ⟨w.heap.size + 1, 1, none⟩ = some (.string si) ∧ W.cell? ⟨w.heap.size + 1, 2, none⟩ = some (.int .i64 nq)) := Lib.hid (fun W hW => by
            have q := (hW.block _ (lt_of_block HH4.out)).trans HH4.out
            have qx := (hW.block _ (lt_of_block HX4.out)).trans HX4.out
            exact ⟨by rw [cell_of_block q, ← HMM4.out]; rfl, by rw [cell_of_block qx]; rfl, by rw [cell_of_block qx]; rfl, by rw [cell_of_block qx]; rfl⟩)
          go_wp2_with fail
          have B13 := Lib.hid (Below.refl w4.heap.size w4).drew
          refine wp_region_noPanic ?_
          refine wp_region_held_drew (S := (fun w' => w'.cell? ⟨w.heap.size, 4, none⟩ = some (.slice (h.A 4) m4 (h.c 4)) ∧ w'.cell? ⟨w.heap.size + 1, 0, none⟩ = some (.string sb) ∧ w'.cell? ⟨w.heap.size + 1, 1, none⟩ = some (.string si) ∧ w'.cell? ⟨w.heap.size + 1, 2, none⟩ = some (.int .i64 nq))) (by kernel_rfl) (HST.out _ B13.out) (fun dd0 => ?_)
          refine wpAnyH_take (i := 1) (v := .pointer (some ⟨w.heap.size, 4, none⟩)) rfl (by kernel_rfl) (by kernel_rfl) (by kernel_rfl) (fun _ _ _ h => h.elim) (.inl ⟨by kernel_rfl, fun w hw => by clear hw; go_simp⟩) (by assumption) ?_
          (try simp only [Act.put, List.getElem_toArray, List.getElem_cons_succ, List.getElem_cons_zero, List.setIfInBounds_toArray, List.set_cons_zero, List.set_cons_succ])
          refine wpAnyH_take (i := 2) (v := .slice (h.A 4) m4 (h.c 4)) rfl (by kernel_rfl) (by kernel_rfl) (by kernel_rfl) (fun _ _ _ h => h.elim) (.inl ⟨by kernel_rfl, fun w h => by have hw := h.1; clear h; go_simp⟩) (by assumption) ?_
          (try simp only [Act.put, List.getElem_toArray, List.getElem_cons_succ, List.getElem_cons_zero, List.setIfInBounds_toArray, List.set_cons_zero, List.set_cons_succ])
          refine wpAnyH_take (i := 4) (v := .pointer (some ⟨w.heap.size + 1, 0, none⟩)) rfl (by kernel_rfl) (by kernel_rfl) (by kernel_rfl) (fun _ _ _ h => h.elim) (.inl ⟨by kernel_rfl, fun w hw => by clear hw; go_simp⟩) (by assumption) ?_
          (try simp only [Act.put, List.getElem_toArray, List.getElem_cons_succ, List.getElem_cons_zero, List.setIfInBounds_toArray, List.set_cons_zero, List.set_cons_succ])
          refine wpAnyH_take (i := 5) (v := .string sb) rfl (by kernel_rfl) (by kernel_rfl) (by kernel_rfl) (fun _ _ _ h => h.elim) (.inl ⟨by kernel_rfl, fun w h => by have hw := h.2.1; clear h; go_simp⟩) (by assumption) ?_
          (try simp only [Act.put, List.getElem_toArray, List.getElem_cons_succ, List.getElem_cons_zero, List.setIfInBounds_toArray, List.set_cons_zero, List.set_cons_succ])
          refine wpAnyH_take (i := 6) (v := .pointer (some ⟨w.heap.size + 1, 1, none⟩)) rfl (by kernel_rfl) (by kernel_rfl) (by kernel_rfl) (fun _ _ _ h => h.elim) (.inl ⟨by kernel_rfl, fun w hw => by clear hw; go_simp⟩) (by assumption) ?_
          (try simp only [Act.put, List.getElem_toArray, List.getElem_cons_succ, List.getElem_cons_zero, List.setIfInBounds_toArray, List.set_cons_zero, List.set_cons_succ])
          refine wpAnyH_take (i := 7) (v := .string si) rfl (by kernel_rfl) (by kernel_rfl) (by kernel_rfl) (fun _ _ _ h => h.elim) (.inl ⟨by kernel_rfl, fun w h => by have hw := h.2.2.1; clear h; go_simp⟩) (by assumption) ?_
          (try simp only [Act.put, List.getElem_toArray, List.getElem_cons_succ, List.getElem_cons_zero, List.setIfInBounds_toArray, List.set_cons_zero, List.set_cons_succ])
          refine wpAnyH_take (i := 8) (v := .agg #[.string sb, .string si, .string ⟨#[109, 111, 114, 101]⟩, .int .i64 1]) rfl (by kernel_rfl) (by kernel_rfl) (by kernel_rfl) (fun _ _ _ h => h.elim) (.inl ⟨by kernel_rfl, fun w hw => by clear hw; go_simp⟩) (by assumption) ?_
          (try simp only [Act.put, List.getElem_toArray, List.getElem_cons_succ, List.getElem_cons_zero, List.setIfInBounds_toArray, List.set_cons_zero, List.set_cons_succ])
          refine wpAnyH_take (i := 9) (v := .pointer (some ⟨w.heap.size + 1, 2, none⟩)) rfl (by kernel_rfl) (by kernel_rfl) (by kernel_rfl) (fun _ _ _ h => h.elim) (.inl ⟨by kernel_rfl, fun w hw => by clear hw; go_simp⟩) (by assumption) ?_
          (try simp only [Act.put, List.getElem_toArray, List.getElem_cons_succ, List.getElem_cons_zero, List.setIfInBounds_toArray, List.set_cons_zero, List.set_cons_succ])
          refine wpAnyH_take (i := 10) (v := .int .i64 nq) rfl (by kernel_rfl) (by kernel_rfl) (by kernel_rfl) (fun _ _ _ h => h.elim) (.inl ⟨by kernel_rfl, fun w h => by have hw := h.2.2.2; clear h; go_simp⟩) (by assumption) ?_
          (try simp only [Act.put, List.getElem_toArray, List.getElem_cons_succ, List.getElem_cons_zero, List.setIfInBounds_toArray, List.set_cons_zero, List.set_cons_succ])
          refine wpAnyH_take (i := 11) (v := .agg #[.string sb, .string si, .string ⟨#[109, 111, 114, 101]⟩, .int .i64 1, .int .i64 nq, .int .i64 0]) rfl (by kernel_rfl) (by kernel_rfl) (by kernel_rfl) (fun _ _ _ h => h.elim) (.inl ⟨by kernel_rfl, fun w hw => by clear hw; go_simp⟩) (by assumption) ?_
          (try simp only [Act.put, List.getElem_toArray, List.getElem_cons_succ, List.getElem_cons_zero, List.setIfInBounds_toArray, List.set_cons_zero, List.set_cons_succ])
          have HFL : Hid ((L 4).flatten.length = m4 * 6) := Lib.hid (by rw [flat_length (HT4.out 4 (by decide)).2.2.1.len, ← HM4.out]; rfl)
          have HR4 : Hid (∀ W, Below w4.heap.size w4 W → Rd W W.heap.size (h.A 4) (L 4).flatten) := Lib.hid (fun W hW => (HT4.out.below hW 4 (by decide)).2.2.2)
          have HF1 : Hid (∀ u ∈ (L 4).flatten, u.oneCell' = true) := Lib.hid (fun u hu => by
            obtain ⟨e, he, hue⟩ := List.mem_flatten.1 hu
            exact fits_one ((HT4.out 4 (by decide)).2.2.1 e he) u hue)
          have HGS2 := HGS.out
          refine wpAnyH_ready (rs := [0, 12]) (by kernel_rfl) (by simp) ?_
          refine AllReadyH.cons rfl (fun K hK => ?_) (AllReadyH.cons rfl (fun K hK => ?_) AllReadyH.nil)
          ·
            go_simp
            obtain ⟨y1, hy1⟩ : ∃ W, W = (w4.alloc (.cells #[] 61)).drew := ⟨_, rfl⟩
            obtain ⟨g1, hg1⟩ : ∃ g, g = w4.heap.size := ⟨_, rfl⟩
            have HGN1 := Lib.hid hg1
            have BY1 : Hid (Below w4.heap.size w4 y1) := Lib.hid (by rw [hy1]; exact ((Lib.hid (Below.refl w4.heap.size w4)).out.alloc (Lib.hid (Below.refl w4.heap.size w4)).out.size _).drew)
            have HYS1 : Hid (y1.heap.size = w4.heap.size + 1) := Lib.hid (by rw [hy1]; simp [World.drew])
            have hold1 : Below w4.heap.size w4 y1 := by rw [hy1]; exact ((Below.refl _ _).alloc (Nat.le_refl _) _).drew
            have HO1 : Hid (y1.ownsRow w4.heap.size 61 6 (.slice (some ⟨g1, 0, none⟩) 0 0) 0 []) := Lib.hid (by rw [hy1, hg1]; exact (World.ownsRow_lit (base := w4.heap.size) w4 #[] 0 (Lib.hid (Below.refl w4.heap.size w4)).out.size (by decide) rfl).drew)
            rw [← hy1, ← hg1]
            refine hK.out _ _ (HST.out _ BY1.out) (fun _ => ?_)
            clear hK K hy1 hg1 hold1
            (try simp only [Act.put, List.getElem_toArray, List.getElem_cons_succ, List.getElem_cons_zero, List.setIfInBounds_toArray, List.set_cons_zero, List.set_cons_succ])
            refine wpAnyH_ready (rs := [3, 12]) (by kernel_rfl) (by simp) ?_
            refine AllReadyH.cons rfl (fun K hK => ?_) (AllReadyH.cons rfl (fun K hK => ?_) AllReadyH.nil)
            ·
              rw [if_pos (by kernel_rfl)]
              refine wp_appK (.tmp 51) (.tmp 53) _ rfl w4.heap.size 61 i0 _ 6 72 Try.underlying26 hi0 hz0 hz1 hz2 rfl (by decide) _ 0 0 [] rfl HO1.out y1.heap.size (h.A 4) m4 (h.c 4) (L 4).flatten rfl HFL.out (HR4.out _ BY1.out) HF1.out (by simp only [maxLen]; omega) (by omega) BY1.out.size ?_
              intro A2 c2 y2 hown hb hkp
              simp only [Nat.zero_add, List.nil_append] at hown ⊢
              have BY2 := Lib.hid (BY1.out.trans hb)
              have HO2 := Lib.hid hown
              refine hK.out _ _ (HST.out _ BY2.out) (fun _ => ?_)
              clear hK K hown hb hkp
              (try simp only [Act.put, List.getElem_toArray, List.getElem_cons_succ, List.getElem_cons_zero, List.setIfInBounds_toArray, List.set_cons_zero, List.set_cons_succ])
              refine wpAnyH_ready (rs := [12]) (by kernel_rfl) (by simp) ?_
              refine AllReadyH.cons rfl (fun K hK => ?_) AllReadyH.nil
              go_simp
              obtain ⟨y3, hy3⟩ : ∃ W, W = (y2.alloc (.cells #[.string sb, .string si, .string ⟨#[109, 111, 114, 101]⟩, .int .i64 1, .int .i64 nq, .int .i64 0] 61)) := ⟨_, rfl⟩
              obtain ⟨g3, hg3⟩ : ∃ g, g = y2.heap.size := ⟨_, rfl⟩
              have HGN3 := Lib.hid hg3
              have BY3 : Hid (Below w4.heap.size w4 y3) := Lib.hid (by rw [hy3]; exact (BY2.out.alloc BY2.out.size _))
              have HYS3 : Hid (y3.heap.size = y2.heap.size + 1) := Lib.hid (by rw [hy3]; simp)
              have hold3 : Below y2.heap.size y2 y3 := by rw [hy3]; exact ((Below.refl _ _).alloc (Nat.le_refl _) _)
              have HZ3 : Hid (Rd y3 y3.heap.size (some ⟨g3, 0, none⟩) [.string sb, .string si, .string ⟨#[109, 111, 114, 101]⟩, .int .i64 1, .int .i64 nq, .int .i64 0]) := Lib.hid (by rw [hy3, hg3]; exact (rd_one y2 [.string sb, .string si, .string ⟨#[109, 111, 114, 101]⟩, .int .i64 1, .int .i64 nq, .int .i64 0] 61).mono (by simp))
              have HO3 := Lib.hid (own_below HO2.out hold3)
              rw [← hy3, ← hg3]
              refine hK.out _ _ (HST.out _ BY3.out) (fun _ => ?_)
              clear hK K hy3 hg3 hold3
              (try simp only [Act.put, List.getElem_toArray, List.getElem_cons_succ, List.getElem_cons_zero, List.setIfInBounds_toArray, List.set_cons_zero, List.set_cons_succ])
              refine wpAnyH_ready (rs := [13]) (by kernel_rfl) (by simp) ?_
              refine AllReadyH.cons rfl (fun K hK => ?_) AllReadyH.nil
              rw [if_pos (by kernel_rfl)]
              refine wp_appK (.tmp 54) (.tmp 63) _ rfl w4.heap.size 61 i0 _ 6 72 Try.underlying26 hi0 hz0 hz1 hz2 rfl (by decide) _ m4 _ _ rfl HO3.out y3.heap.size _ 1 1 [.string sb, .string si, .string ⟨#[109, 111, 114, 101]⟩, .int .i64 1, .int .i64 nq, .int .i64 0] rfl rfl HZ3.out (by intro u hu; simp at hu; rcases hu with rfl | rfl | rfl | rfl | rfl | rfl <;> rfl) (by simp only [maxLen]; omega) (by omega) BY3.out.size ?_
              intro A4 c4 y4 hown hb hkp
              have BY4 := Lib.hid (BY3.out.trans hb)
              have HO4 := Lib.hid hown
              refine hK.out _ _ (HST.out _ BY4.out) (fun _ => ?_)
              clear hK K hown hb hkp
              (try simp only [Act.put, List.getElem_toArray, List.getElem_cons_succ, List.getElem_cons_zero, List.setIfInBounds_toArray, List.set_cons_zero, List.set_cons_succ])
              refine wpAnyH_take (i := 14) (v := .pointer (some ⟨gb, 4, none⟩)) rfl (by kernel_rfl) (by kernel_rfl) (by kernel_rfl) (fun _ _ _ h => h.elim) (.inl ⟨by kernel_rfl, fun w hw => by clear hw; go_simp⟩) (by assumption) ?_
              (try simp only [Act.put, List.getElem_toArray, List.getElem_cons_succ, List.getElem_cons_zero, List.setIfInBounds_toArray, List.set_cons_zero, List.set_cons_succ])
              refine wpAnyH_ready (rs := [15]) (by kernel_rfl) (by simp) ?_
              refine AllReadyH.cons rfl (fun K hK => ?_) AllReadyH.nil
              have HG9 := Lib.hid ((BY4.out.block _ HGS.out).trans HG.out)
              have c5 : y4.cell? ⟨gb, 4, none⟩ = some (.slice (h.A 4) (h.n 4) (h.c 4)) := by rw [cell_of_block HG9.out]; rfl
              have f5 : y4.frozen? ⟨gb, 4, none⟩ = false := frozen_of_block HG9.out
              have st := HST.out _ BY4.out
              have hgl := HGL.out
              go_simp
              refine hK.out _ _ ⟨(World.cell?_of_block (block_setCell_other (show w.heap.size ≠ gb by omega) _)).trans st.1, (World.cell?_of_block (block_setCell_other (show w.heap.size + 1 ≠ gb by omega) _)).trans st.2.1, (World.cell?_of_block (block_setCell_other (show w.heap.size + 1 ≠ gb by omega) _)).trans st.2.2.1, (World.cell?_of_block (block_setCell_other (show w.heap.size + 1 ≠ gb by omega) _)).trans st.2.2.2⟩ (fun _ => ?_)
              clear hK K c5 f5 st
              (try simp only [Act.put, List.getElem_toArray, List.getElem_cons_succ, List.getElem_cons_zero, List.setIfInBounds_toArray, List.set_cons_zero, List.set_cons_succ])
              refine wpAnyH_done (by kernel_rfl) ?_ _
              refine NoPanic.normal ?_
              go_wp2_with fail
              go_meet
              refine ⟨h.set 4 A4 (m4 + 1) c4, Lib.hid ⟨?_, ?_, ?_, ?_⟩⟩
              · exact HT.setList (HT4.out.below BY4.out) HOFF.out (by decide) (Things.app (HT4.out 4 (by decide)).2.2.1 (Things.one (Qn.fits (Qn.mk sb si ⟨#[109, 111, 114, 101]⟩ 1 nq 0)))) (by rw [List.length_append, ← HM4.out]; rfl) (by omega) (by have := Rd.of_own HO4.out; rw [show (L 4 ++ [(Qn.mk sb si ⟨#[109, 111, 114, 101]⟩ 1 nq 0).cells]).flatten = (L 4).flatten ++ [.string sb, .string si, .string ⟨#[109, 111, 114, 101]⟩, .int .i64 1, .int .i64 nq, .int .i64 0] from by simp [Qn.cells]]; exact this) (fun q hq => by have h1 := own_block HO4.out hq; have h2 := HGS.out; omega) _
              · rw [block_setCell HG9.out, h.set_cells _ _ _ 4 (by decide)]
              · exact (block_setCell_other (show w.heap.size + 1 ≠ gb by omega) _).trans ((BY4.out.block _ (lt_of_block HX4.out)).trans HX4.out)
              · exact (B4.out.trans (BY4.out.mono B4.out.size)).setCell (show w.heap.size ≤ gb by omega) _
            ·
              go_simp
              obtain ⟨y6, hy6⟩ : ∃ W, W = (y1.alloc (.cells #[.string sb, .string si, .string ⟨#[109, 111, 114, 101]⟩, .int .i64 1, .int .i64 nq, .int .i64 0] 61)) := ⟨_, rfl⟩
              obtain ⟨g6, hg6⟩ : ∃ g, g = y1.heap.size := ⟨_, rfl⟩
              have HGN6 := Lib.hid hg6
              have BY6 : Hid (Below w4.heap.size w4 y6) := Lib.hid (by rw [hy6]; exact (BY1.out.alloc BY1.out.size _))
              have HYS6 : Hid (y6.heap.size = y1.heap.size + 1) := Lib.hid (by rw [hy6]; simp)
              have hold6 : Below y1.heap.size y1 y6 := by rw [hy6]; exact ((Below.refl _ _).alloc (Nat.le_refl _) _)
              have HZ6 : Hid (Rd y6 y6.heap.size (some ⟨g6, 0, none⟩) [.string sb, .string si, .string ⟨#[109, 111, 114, 101]⟩, .int .i64 1, .int .i64 nq, .int .i64 0]) := Lib.hid (by rw [hy6, hg6]; exact (rd_one y1 [.string sb, .string si, .string ⟨#[109, 111, 114, 101]⟩, .int .i64 1, .int .i64 nq, .int .i64 0] 61).mono (by simp))
              have HO6 := Lib.hid (own_below HO1.out hold6)
              rw [← hy6, ← hg6]
              refine hK.out _ _ (HST.out _ BY6.out) (fun _ => ?_)
              clear hK K hy6 hg6 hold6
              (try simp only [Act.put, List.getElem_toArray, List.getElem_cons_succ, List.getElem_cons_zero, List.setIfInBounds_toArray, List.set_cons_zero, List.set_cons_succ])
              refine wpAnyH_ready (rs := [3]) (by kernel_rfl) (by simp) ?_
              refine AllReadyH.cons rfl (fun K hK => ?_) AllReadyH.nil
              rw [if_pos (by kernel_rfl)]
              refine wp_appK (.tmp 51) (.tmp 53) _ rfl w4.heap.size 61 i0 _ 6 72 Try.underlying26 hi0 hz0 hz1 hz2 rfl (by decide) _ 0 0 [] rfl HO6.out y6.heap.size (h.A 4) m4 (h.c 4) (L 4).flatten rfl HFL.out (HR4.out _ BY6.out) HF1.out (by simp only [maxLen]; omega) (by omega) BY6.out.size ?_
              intro A7 c7 y7 hown hb hkp
              simp only [Nat.zero_add, List.nil_append] at hown ⊢
              have BY7 := Lib.hid (BY6.out.trans hb)
              have HO7 := Lib.hid hown
              have HZ7 : Hid (Rd y7 y7.heap.size (some ⟨g6, 0, none⟩) [.string sb, .string si, .string ⟨#[109, 111, 114, 101]⟩, .int .i64 1, .int .i64 nq, .int .i64 0]) := Lib.hid (by
                intro hq
                obtain ⟨b, off, hA, hb2, hc⟩ := HZ6.out hq
                injection hA with hA
                have hne : (Value.slice (some ⟨g1, 0, none⟩) 0 0).ownBlock ≠ some b := by
                  injection hA with hA1 hA2 _
                  intro e
                  have e0 : g1 = b := by have e9 : some g1 = some b := e; injection e9
                  have e5 : g6 = b := hA1
                  have e1 := HGN1.out
                  have e2 := HGN6.out
                  have e3 := HYS1.out
                  have e4 := HYS6.out
                  omega
                have hkb := hkp b hb2 hne
                refine ⟨b, off, by rw [hA], ?_, fun j u hu => (World.cell?_of_block hkb).trans (hc j u hu)⟩
                have hlt := World.block_lt_of_cell? _ _ (hc 0 _ rfl)
                have : y7.heap[b]? ≠ none := by rw [hkb]; exact fun e => by have := Array.getElem?_eq_none_iff.1 e; omega
                exact Nat.lt_of_not_le (fun h' => this (Array.getElem?_eq_none_iff.2 h')))
              refine hK.out _ _ (HST.out _ BY7.out) (fun _ => ?_)
              clear hK K hown hb hkp
              (try simp only [Act.put, List.getElem_toArray, List.getElem_cons_succ, List.getElem_cons_zero, List.setIfInBounds_toArray, List.set_cons_zero, List.set_cons_succ])
              refine wpAnyH_ready (rs := [13]) (by kernel_rfl) (by simp) ?_
              refine AllReadyH.cons rfl (fun K hK => ?_) AllReadyH.nil
              rw [if_pos (by kernel_rfl)]
              refine wp_appK (.tmp 54) (.tmp 63) _ rfl w4.heap.size 61 i0 _ 6 72 Try.underlying26 hi0 hz0 hz1 hz2 rfl (by decide) _ m4 _ _ rfl HO7.out y7.heap.size _ 1 1 [.string sb, .string si, .string ⟨#[109, 111, 114, 101]⟩, .int .i64 1, .int .i64 nq, .int .i64 0] rfl rfl HZ7.out (by intro u hu; simp at hu; rcases hu with rfl | rfl | rfl | rfl | rfl | rfl <;> rfl) (by simp only [maxLen]; omega) (by omega) BY7.out.size ?_
              intro A8 c8 y8 hown hb hkp
              have BY8 := Lib.hid (BY7.out.trans hb)
              have HO8 := Lib.hid hown
              refine hK.out _ _ (HST.out _ BY8.out) (fun _ => ?_)
              clear hK K hown hb hkp
              (try simp only [Act.put, List.getElem_toArray, List.getElem_cons_succ, List.getElem_cons_zero, List.setIfInBounds_toArray, List.set_cons_zero, List.set_cons_succ])
              refine wpAnyH_take (i := 14) (v := .pointer (some ⟨gb, 4, none⟩)) rfl (by kernel_rfl) (by kernel_rfl) (by kernel_rfl) (fun _ _ _ h => h.elim) (.inl ⟨by kernel_rfl, fun w hw => by clear hw; go_simp⟩) (by assumption) ?_
              (try simp only [Act.put, List.getElem_toArray, List.getElem_cons_succ, List.getElem_cons_zero, List.setIfInBounds_toArray, List.set_cons_zero, List.set_cons_succ])
              refine wpAnyH_ready (rs := [15]) (by kernel_rfl) (by simp) ?_
              refine AllReadyH.cons rfl (fun K hK => ?_) AllReadyH.nil
              have HG9 := Lib.hid ((BY8.out.block _ HGS.out).trans HG.out)
              have c5 : y8.cell? ⟨gb, 4, none⟩ = some (.slice (h.A 4) (h.n 4) (h.c 4)) := by rw [cell_of_block HG9.out]; rfl
              have f5 : y8.frozen? ⟨gb, 4, none⟩ = false := frozen_of_block HG9.out
              have st := HST.out _ BY8.out
              have hgl := HGL.out
              go_simp
              refine hK.out _ _ ⟨(World.cell?_of_block (block_setCell_other (show w.heap.size ≠ gb by omega) _)).trans st.1, (World.cell?_of_block (block_setCell_other (show w.heap.size + 1 ≠ gb by omega) _)).trans st.2.1, (World.cell?_of_block (block_setCell_other (show w.heap.size + 1 ≠ gb by omega) _)).trans st.2.2.1, (World.cell?_of_block (block_setCell_other (show w.heap.size + 1 ≠ gb by omega) _)).trans st.2.2.2⟩ (fun _ => ?_)
              clear hK K c5 f5 st
              (try simp only [Act.put, List.getElem_toArray, List.getElem_cons_succ, List.getElem_cons_zero, List.setIfInBounds_toArray, List.set_cons_zero, List.set_cons_succ])
              refine wpAnyH_done (by kernel_rfl) ?_ _
              refine NoPanic.normal ?_
              go_wp2_with fail
              go_meet
              refine ⟨h.set 4 A8 (m4 + 1) c8, Lib.hid ⟨?_, ?_, ?_, ?_⟩⟩
              · exact HT.setList (HT4.out.below BY8.out) HOFF.out (by decide) (Things.app (HT4.out 4 (by decide)).2.2.1 (Things.one (Qn.fits (Qn.mk sb si ⟨#[109, 111, 114, 101]⟩ 1 nq 0)))) (by rw [List.length_append, ← HM4.out]; rfl) (by omega) (by have := Rd.of_own HO8.out; rw [show (L 4 ++ [(Qn.mk sb si ⟨#[109, 111, 114, 101]⟩ 1 nq 0).cells]).flatten = (L 4).flatten ++ [.string sb, .string si, .string ⟨#[109, 111, 114, 101]⟩, .int .i64 1, .int .i64 nq, .int .i64 0] from by simp [Qn.cells]]; exact this) (fun q hq => by have h1 := own_block HO8.out hq; have h2 := HGS.out; omega) _
              · rw [block_setCell HG9.out, h.set_cells _ _ _ 4 (by decide)]
              · exact (block_setCell_other (show w.heap.size + 1 ≠ gb by omega) _).trans ((BY8.out.block _ (lt_of_block HX4.out)).trans HX4.out)
              · exact (B4.out.trans (BY8.out.mono B4.out.size)).setCell (show w.heap.size ≤ gb by omega) _
          ·
            go_simp
            obtain ⟨y10, hy10⟩ : ∃ W, W = (w4.alloc (.cells #[.string sb, .string si, .string ⟨#[109, 111, 114, 101]⟩, .int .i64 1, .int .i64 nq, .int .i64 0] 61)).drew := ⟨_, rfl⟩
            obtain ⟨g10, hg10⟩ : ∃ g, g = w4.heap.size := ⟨_, rfl⟩
            have HGN10 := Lib.hid hg10
            have BY10 : Hid (Below w4.heap.size w4 y10) := Lib.hid (by rw [hy10]; exact ((Lib.hid (Below.refl w4.heap.size w4)).out.alloc (Lib.hid (Below.refl w4.heap.size w4)).out.size _).drew)
            have HYS10 : Hid (y10.heap.size = w4.heap.size + 1) := Lib.hid (by rw [hy10]; simp [World.drew])
            have hold10 : Below w4.heap.size w4 y10 := by rw [hy10]; exact ((Below.refl _ _).alloc (Nat.le_refl _) _).drew
            have HZ10 : Hid (Rd y10 y10.heap.size (some ⟨g10, 0, none⟩) [.string sb, .string si, .string ⟨#[109, 111, 114, 101]⟩, .int .i64 1, .int .i64 nq, .int .i64 0]) := Lib.hid (by rw [hy10, hg10]; exact (rd_one w4 [.string sb, .string si, .string ⟨#[109, 111, 114, 101]⟩, .int .i64 1, .int .i64 nq, .int .i64 0] 61).mono (by simp [World.drew]))
            rw [← hy10, ← hg10]
            refine hK.out _ _ (HST.out _ BY10.out) (fun _ => ?_)
            clear hK K hy10 hg10 hold10
            (try simp only [Act.put, List.getElem_toArray, List.getElem_cons_succ, List.getElem_cons_zero, List.setIfInBounds_toArray, List.set_cons_zero, List.set_cons_succ])
            refine wpAnyH_ready (rs := [0]) (by kernel_rfl) (by simp) ?_
            refine AllReadyH.cons rfl (fun K hK => ?_) AllReadyH.nil
            go_simp
            obtain ⟨y11, hy11⟩ : ∃ W, W = (y10.alloc (.cells #[] 61)) := ⟨_, rfl⟩
            obtain ⟨g11, hg11⟩ : ∃ g, g = y10.heap.size := ⟨_, rfl⟩
            have HGN11 := Lib.hid hg11
            have BY11 : Hid (Below w4.heap.size w4 y11) := Lib.hid (by rw [hy11]; exact (BY10.out.alloc BY10.out.size _))
            have HYS11 : Hid (y11.heap.size = y10.heap.size + 1) := Lib.hid (by rw [hy11]; simp)
            have hold11 : Below y10.heap.size y10 y11 := by rw [hy11]; exact ((Below.refl _ _).alloc (Nat.le_refl _) _)
            have HO11 : Hid (y11.ownsRow w4.heap.size 61 6 (.slice (some ⟨g11, 0, none⟩) 0 0) 0 []) := Lib.hid (by rw [hy11, hg11]; exact (World.ownsRow_lit (base := w4.heap.size) y10 #[] 0 BY10.out.size (by decide) rfl))
            have HZ11 := Lib.hid ((HZ10.out.below hold11).mono hold11.size)
            rw [← hy11, ← hg11]
            refine hK.out _ _ (HST.out _ BY11.out) (fun _ => ?_)
            clear hK K hy11 hg11 hold11
            (try simp only [Act.put, List.getElem_toArray, List.getElem_cons_succ, List.getElem_cons_zero, List.setIfInBounds_toArray, List.set_cons_zero, List.set_cons_succ])
            refine wpAnyH_ready (rs := [3]) (by kernel_rfl) (by simp) ?_
            refine AllReadyH.cons rfl (fun K hK => ?_) AllReadyH.nil
            rw [if_pos (by kernel_rfl)]
            refine wp_appK (.tmp 51) (.tmp 53) _ rfl w4.heap.size 61 i0 _ 6 72 Try.underlying26 hi0 hz0 hz1 hz2 rfl (by decide) _ 0 0 [] rfl HO11.out y11.heap.size (h.A 4) m4 (h.c 4) (L 4).flatten rfl HFL.out (HR4.out _ BY11.out) HF1.out (by simp only [maxLen]; omega) (by omega) BY11.out.size ?_
            intro A12 c12 y12 hown hb hkp
            simp only [Nat.zero_add, List.nil_append] at hown ⊢
            have BY12 := Lib.hid (BY11.out.trans hb)
            have HO12 := Lib.hid hown
            have HZ12 : Hid (Rd y12 y12.heap.size (some ⟨g10, 0, none⟩) [.string sb, .string si, .string ⟨#[109, 111, 114, 101]⟩, .int .i64 1, .int .i64 nq, .int .i64 0]) := Lib.hid (by
              intro hq
              obtain ⟨b, off, hA, hb2, hc⟩ := HZ11.out hq
              injection hA with hA
              have hne : (Value.slice (some ⟨g11, 0, none⟩) 0 0).ownBlock ≠ some b := by
                injection hA with hA1 hA2 _
                intro e
                have e0 : g11 = b := by have e9 : some g11 = some b := e; injection e9
                have e5 : g10 = b := hA1
                have e1 := HGN11.out
                have e2 := HGN10.out
                have e3 := HYS11.out
                have e4 := HYS10.out
                omega
              have hkb := hkp b hb2 hne
              refine ⟨b, off, by rw [hA], ?_, fun j u hu => (World.cell?_of_block hkb).trans (hc j u hu)⟩
              have hlt := World.block_lt_of_cell? _ _ (hc 0 _ rfl)
              have : y12.heap[b]? ≠ none := by rw [hkb]; exact fun e => by have := Array.getElem?_eq_none_iff.1 e; omega
              exact Nat.lt_of_not_le (fun h' => this (Array.getElem?_eq_none_iff.2 h')))
            refine hK.out _ _ (HST.out _ BY12.out) (fun _ => ?_)
            clear hK K hown hb hkp
            (try simp only [Act.put, List.getElem_toArray, List.getElem_cons_succ, List.getElem_cons_zero, List.setIfInBounds_toArray, List.set_cons_zero, List.set_cons_succ])
            refine wpAnyH_ready (rs := [13]) (by kernel_rfl) (by simp) ?_
            refine AllReadyH.cons rfl (fun K hK => ?_) AllReadyH.nil
            rw [if_pos (by kernel_rfl)]
            refine wp_appK (.tmp 54) (.tmp 63) _ rfl w4.heap.size 61 i0 _ 6 72 Try.underlying26 hi0 hz0 hz1 hz2 rfl (by decide) _ m4 _ _ rfl HO12.out y12.heap.size _ 1 1 [.string sb, .string si, .string ⟨#[109, 111, 114, 101]⟩, .int .i64 1, .int .i64 nq, .int .i64 0] rfl rfl HZ12.out (by intro u hu; simp at hu; rcases hu with rfl | rfl | rfl | rfl | rfl | rfl <;> rfl) (by simp only [maxLen]; omega) (by omega) BY12.out.size ?_
            intro A13 c13 y13 hown hb hkp
            have BY13 := Lib.hid (BY12.out.trans hb)
            have HO13 := Lib.hid hown
            refine hK.out _ _ (HST.out _ BY13.out) (fun _ => ?_)
            clear hK K hown hb hkp
            (try simp only [Act.put, List.getElem_toArray, List.getElem_cons_succ, List.getElem_cons_zero, List.setIfInBounds_toArray, List.set_cons_zero, List.set_cons_succ])
            refine wpAnyH_take (i := 14) (v := .pointer (some ⟨gb, 4, none⟩)) rfl (by kernel_rfl) (by kernel_rfl) (by kernel_rfl) (fun _ _ _ h => h.elim) (.inl ⟨by kernel_rfl, fun w hw => by clear hw; go_simp⟩) (by assumption) ?_
            (try simp only [Act.put, List.getElem_toArray, List.getElem_cons_succ, List.getElem_cons_zero, List.setIfInBounds_toArray, List.set_cons_zero, List.set_cons_succ])
            refine wpAnyH_ready (rs := [15]) (by kernel_rfl) (by simp) ?_
            refine AllReadyH.cons rfl (fun K hK => ?_) AllReadyH.nil
            have HG9 := Lib.hid ((BY13.out.block _ HGS.out).trans HG.out)
            have c5 : y13.cell? ⟨gb, 4, none⟩ = some (.slice (h.A 4) (h.n 4) (h.c 4)) := by rw [cell_of_block HG9.out]; rfl
            have f5 : y13.frozen? ⟨gb, 4, none⟩ = false := frozen_of_block HG9.out
            have st := HST.out _ BY13.out
            have hgl := HGL.out
            go_simp
            refine hK.out _ _ ⟨(World.cell?_of_block (block_setCell_other (show w.heap.size ≠ gb by omega) _)).trans st.1, (World.cell?_of_block (block_setCell_other (show w.heap.size + 1 ≠ gb by omega) _)).trans st.2.1, (World.cell?_of_block (block_setCell_other (show w.heap.size + 1 ≠ gb by omega) _)).trans st.2.2.1, (World.cell?_of_block (block_setCell_other (show w.heap.size + 1 ≠ gb by omega) _)).trans st.2.2.2⟩ (fun _ => ?_)
            clear hK K c5 f5 st
            (try simp only [Act.put, List.getElem_toArray, List.getElem_cons_succ, List.getElem_cons_zero, List.setIfInBounds_toArray, List.set_cons_zero, List.set_cons_succ])
            refine wpAnyH_done (by kernel_rfl) ?_ _
            refine NoPanic.normal ?_
            go_wp2_with fail
            go_meet
            refine ⟨h.set 4 A13 (m4 + 1) c13, Lib.hid ⟨?_, ?_, ?_, ?_⟩⟩
            · exact HT.setList (HT4.out.below BY13.out) HOFF.out (by decide) (Things.app (HT4.out 4 (by decide)).2.2.1 (Things.one (Qn.fits (Qn.mk sb si ⟨#[109, 111, 114, 101]⟩ 1 nq 0)))) (by rw [List.length_append, ← HM4.out]; rfl) (by omega) (by have := Rd.of_own HO13.out; rw [show (L 4 ++ [(Qn.mk sb si ⟨#[109, 111, 114, 101]⟩ 1 nq 0).cells]).flatten = (L 4).flatten ++ [.string sb, .string si, .string ⟨#[109, 111, 114, 101]⟩, .int .i64 1, .int .i64 nq, .int .i64 0] from by simp [Qn.cells]]; exact this) (fun q hq => by have h1 := own_block HO13.out hq; have h2 := HGS.out; omega) _
            · rw [block_setCell HG9.out, h.set_cells _ _ _ 4 (by decide)]
            · exact (block_setCell_other (show w.heap.size + 1 ≠ gb by omega) _).trans ((BY13.out.block _ (lt_of_block HX4.out)).trans HX4.out)
            · exact (B4.out.trans (BY13.out.mono B4.out.size)).setCell (show w.heap.size ≤ gb by omega) _
        case rest =>
          obtain ⟨a, HR⟩ := hcut
          have HTA := Lib.hid HR.out.1
          have HGC := Lib.hid HR.out.2.1
          have HXC := Lib.hid HR.out.2.2.1
          have BC := Lib.hid HR.out.2.2.2
          clear HR
          go_wp2_with (first
            | (refine wpList_load_row rfl 37 (.tmp 8) rfl gb rfl _ _ _ _ HGC.out huh rfl (HSH.out _) ?_)
            | fail)
          refine (HCO.out.over a _ _ HTA.out).mono ?_
          rintro e w8 ⟨A9, n9, c9, rfl, hn9, _, _, ho9, hb9⟩
          have BV := Lib.hid (BC.out.trans (hb9.mono BC.out.size))
          have HXV := Lib.hid ((hb9.block _ (lt_of_block HXC.out)).trans HXC.out)
          have hov : overL (setE 0 L 4 (L 4 ++ [[.string sb, .string si, .string ⟨#[109, 111, 114, 101]⟩, .int .i64 1, .int .i64 nq, .int .i64 0]]) 0) (setE 0 L 4 (L 4 ++ [[.string sb, .string si, .string ⟨#[109, 111, 114, 101]⟩, .int .i64 1, .int .i64 nq, .int .i64 0]]) 3) (setE 0 L 4 (L 4 ++ [[.string sb, .string si, .string ⟨#[109, 111, 114, 101]⟩, .int .i64 1, .int .i64 nq, .int .i64 0]]) 4) = overL (L 0) (L 3) (L 4 ++ [(Qn.mk sb si ⟨#[109, 111, 114, 101]⟩ 1 nq 0).cells]) := rfl
          rw [hov] at hn9 ho9
          have hle : (overL (L 0) (L 3) (L 4 ++ [(Qn.mk sb si ⟨#[109, 111, 114, 101]⟩ 1 nq 0).cells])).length ≤ 1000 := Nat.le_trans (overL_le _ _ _) (by rw [← HM.out]; exact hm9)
          obtain ⟨ov, hov2⟩ : ∃ o, overL (L 0) (L 3) (L 4 ++ [(Qn.mk sb si ⟨#[109, 111, 114, 101]⟩ 1 nq 0).cells]) = o := ⟨_, rfl⟩
          rw [hov2] at hn9 ho9 hle
          have HOV := Lib.hid hov2
          have HN9 := Lib.hid hn9
          have HO9 := Lib.hid ho9
          have hn10 : n9 ≤ 1000 := by rw [hn9]; exact hle
          clear hov hov2 hn9 ho9 hb9 hle
          have HXS : Hid (∀ W, Below w8.heap.size w8 W → W.cell? ⟨w.heap.size + 1, 0, none⟩ = some (.string sb) ∧ w.heap.size + 1 < W.heap.size) := Lib.hid (fun W hW => by
            have q := (hW.block _ (lt_of_block HXV.out)).trans HXV.out
            exact ⟨by rw [cell_of_block q]; rfl, lt_of_block q⟩)
          go_wp2_with fail
          go_loopw [10, 11] (fun o i wr => ∃ k : Nat, k ≤ n9 ∧ i = .int .i64 (k : Int) ∧ o = .bool ((ov.take k).any fun c => Pl.eqv c sb) ∧ Hid (Below w8.heap.size w8 wr)) (fun _ i _ => n9 - (intOf i).toNat)
          case atStart => exact ⟨0, by omega, rfl, rfl, Lib.hid (Below.refl _ _)⟩
          case round =>
            obtain ⟨k2, hk2, rfl, rfl, hy⟩ := hrel
            obtain ⟨β, hβ⟩ : ∃ β, ((ov.take k2).any fun c => Pl.eqv c sb) = β := ⟨_, rfl⟩
            rw [hβ]
            by_cases hlt2 : k2 < n9
            · have hkl2 : k2 < ov.length := by rw [← HN9.out]; exact hlt2
              obtain ⟨b, off, hA, hb, hc⟩ := text_at (HO9.out.below hy.out) hkl2
              obtain ⟨x0, xlt⟩ := HXS.out _ hy.out
              have hsn : ((ov.take (k2 + 1)).any fun c => Pl.eqv c sb) = (β || Pl.eqv ov[k2] sb) := by rw [← hβ, List.take_succ_eq_append_getElem hkl2, List.any_append]; simp
              obtain ⟨s, hs⟩ : ∃ s, ov[k2] = s := ⟨_, rfl⟩
              rw [hs] at hc hsn
              have HSN := Lib.hid hsn
              have q1 : b < wr.heap.size := Nat.lt_of_lt_of_le hb hy.out.size
              have i1 : (0 : Int) ≤ (k2 : Int) := by omega
              have i2 : (k2 : Int) < (n9 : Int) := by omega
              subst hA
              clear hs hkl2 hb hβ hsn
              cases β with
              | true =>
                have HEQ : Hid (((ov.take (k2 + 1)).any fun c => Pl.eqv c sb) = true) := Lib.hid (by rw [HSN.out]; simp)
                clear HSN
                go_wp2_with fail
                go_quiet (fail)
                go_wp2_with fail
                go_roundw
                case rel => exact ⟨k2 + 1, by omega, by go_num, by rw [HEQ.out], Lib.hid (below_drewN hy.out _)⟩
                case measure => simp [intOf]; omega
              | false =>
                cases he : Pl.eqv s sb with
                | true =>
                  have he' : (s.toList == sb.toList) = true := he
                  rw [he] at HSN
                  clear he
                  have HEQ : Hid (((ov.take (k2 + 1)).any fun c => Pl.eqv c sb) = true) := Lib.hid (by rw [HSN.out]; simp)
                  clear HSN
                  go_wp2_with fail
                  go_quiet (fail)
                  go_wp2_with fail
                  go_roundw
                  case rel => exact ⟨k2 + 1, by omega, by go_num, by rw [HEQ.out], Lib.hid (below_drewN hy.out _)⟩
                  case measure => simp [intOf]; omega
                | false =>
                  have he' : (s.toList == sb.toList) = false := he
                  rw [he] at HSN
                  clear he
                  have HEQ : Hid (((ov.take (k2 + 1)).any fun c => Pl.eqv c sb) = false) := Lib.hid (by rw [HSN.out]; simp)
                  clear HSN
                  go_wp2_with fail
                  go_quiet (fail)
                  go_wp2_with fail
                  go_roundw
                  case rel => exact ⟨k2 + 1, by omega, by go_num, by rw [HEQ.out], Lib.hid (below_drewN hy.out _)⟩
                  case measure => simp [intOf]; omega
            · have hall : (ov.any fun c => Pl.eqv c sb) = β := by rw [← hβ, List.take_of_length_le (by rw [← HN9.out]; omega)]
              have B9 := Lib.hid (BV.out.trans (hy.out.mono BV.out.size))
              clear hβ
              by_cases h12 : er = 12
              · subst h12
                clear hall
                go_wp2_with fail
                refine (HAW.out _).mono ?_
                rintro e w9 ⟨rfl, hb9⟩
                have BN := Lib.hid (B9.out.trans (hb9.mono B9.out.size))
                clear hb9
                go_wp2_with fail
                go_ret
                exact ⟨rfl, BN.out⟩
              · have had := adds_over (LI := L 0) (LB := L 3) (LQ := L 4) (s := sb) (t := si) (lot := ⟨#[109, 111, 114, 101]⟩) (st := 1) (n := nq) (hd := 0) (HT1.out 3 (by decide)).2.2.1 HUN.out (by rw [HER.out]; exact h12)
                rw [HOV.out, hall, HER.out] at had
                obtain ⟨h5, h6⟩ := had
                clear hall h12
                rcases h6 with h6 | h6
                · subst h6
                  obtain rfl : β = false := h5
                  go_wp2_with fail
                  refine (HAW.out _).mono ?_
                  rintro e w9 ⟨rfl, hb9⟩
                  have BN := Lib.hid (B9.out.trans (hb9.mono B9.out.size))
                  clear hb9
                  go_wp2_with fail
                  go_ret
                  exact ⟨rfl, BN.out⟩
                · subst h6
                  obtain rfl : β = true := h5
                  go_wp2_with fail
                  refine (HAW.out _).mono ?_
                  rintro e w9 ⟨rfl, hb9⟩
                  have BN := Lib.hid (B9.out.trans (hb9.mono B9.out.size))
                  clear hb9
                  go_wp2_with fail
                  go_ret
                  exact ⟨rfl, BN.out⟩
theorem walk (C : Cons) (h : Hs) (L : Nat → List (List Value)) (cs : List Value) (w : World) (hin : HIn h L w) (fs : Fits kAsk cs) (ms : ∀ u ∈ cs, Mild u) :
    Calls Try.prog 6 #[.agg h.cells, .agg cs.toArray] w fun e w' => e = .returned (.bool true) ∧ Below w.heap.size w w' := by
  obtain ⟨s, t, n, v, u, rfl⟩ := ask_cells fs
  exact walk0 C h L s t n v u w hin (wf_of (ms (.int .i64 n) (by simp)))
end Go.Proofs.Ythoblccmdadmmaa.roomAdds
