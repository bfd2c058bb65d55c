/-
  THE LAW AllocDrops, over the contracts. (By wip/tools/gen_drops16.py.)
-/
import Derived.Test.YtlkmccmbpnbgbaaGreatARow
import Derived.Test.YtlkmccmbpnbgbaaGreatADPb
import Derived.Test.YtlkmccmbpnbgbaaGreatADCon
import Derived.Test.YtlkmccmbpnbgbaaGreatKAlloc
import Derived.Test.YtlkmccmbpnbgbaaGreatKDrop
import Derived.Test.YtlkmccmbpnbgbaaGreatOOrder
import Derived.Test.YtlkmccmbpnbgbaaGreatHSmall
import Derived.Test.YtlkmccmbpnbgbaaGreatHA
import Derived.Deep.RegionHeld3
namespace Go.Proofs.YtlkmccmbpnbgbaaGreat.allocDrops
set_option linter.unusedVariables false
open Go.RowKit
open Pl (firstG findG putG It)

set_option maxRecDepth 100000 in
set_option maxHeartbeats 6400000 in
theorem walk0 (h : Hs) (L : HL) (s : ByteArray) (w : World) (hin : HIn h L w) :
    Calls Tryz.prog 5 #[.agg h.cells, .string s] w fun e w' => e = .returned (.bool true) ∧ Below w.heap.size w w' := by
  have HIN := Lib.hid hin
  have HAW : Hid (∀ W, Calls Tryz.prog 9 #[] W fun e w' => e = .returned (.bool true) ∧ Below W.heap.size W w') := Lib.hid (fun W => awake_any W)
  have huq := Tryz.underlying62
  have HSQ6 : Hid ((Tryz.prog.info? 62).map (·.size) = some 6) := Lib.hid (by kernel_rfl)
  obtain ⟨W0, hW0⟩ : ∃ W0, W0 = (w.alloc (.cells h.cells 37)) := ⟨_, rfl⟩
  have B0 : Hid (Below w.heap.size w W0) := Lib.hid (by rw [hW0]; exact (Below.refl _ _).alloc (Nat.le_refl _) _)
  have HH0 : Hid (W0.heap[w.heap.size]? = some (.cells h.cells 37 (0, 0))) := Lib.hid (by
    rw [hW0]
    have hq := heap_alloc_new w (.cells h.cells 37)
    exact by simpa using hq)
  have huh := Tryz.underlying37
  have HSH : Hid (∀ a : Hs, (Tryz.prog.info? 37).map (·.size) = some a.cells.size) := Lib.hid (fun a => by kernel_rfl)
  have HSHL : Hid (∀ a : Hs, (Tryz.prog.info? 37).map (·.size) = some a.cells.toList.length) := Lib.hid (fun a => by kernel_rfl)
  have H1C : Hid (∀ a : Hs, a.cells.all (·.oneCell') = true) := Lib.hid (fun a => by simp [Hs.cells, Value.oneCell'])
  have huOrder := Tryz.underlying42
  have HSOrder : Hid ((Tryz.prog.info? 42).map (·.size) = some 50) := Lib.hid (by kernel_rfl)
  clear hin
  subst hW0
  go_enter Tryz.func5, Tryz.ntmps5
  go_wp2_with (first
    | (refine wpList_load_row rfl 37 (.tmp 2) rfl w.heap.size rfl _ _ _ _ HH0.out huh rfl (HSH.out _) ?_)
    | fail)
  refine (small_calls h _).mono ?_
  rintro e w1 ⟨⟨b, rfl, hb⟩, hb1⟩
  have HH1 := Lib.hid ((hb1.block _ (lt_of_block HH0.out)).trans HH0.out)
  have B1 := Lib.hid (B0.out.trans (hb1.mono B0.out.size))
  clear hb1
  cases b with
  | false =>
    clear hb
    go_wp2_with fail
    refine (HAW.out _).mono ?_
    rintro e w2 ⟨rfl, hb2⟩
    have HB2 := Lib.hid (B1.out.trans (hb2.mono B1.out.size))
    clear hb2
    go_wp2_with fail
    go_ret
    exact ⟨rfl, HB2.out⟩
  | true =>
    have HSM := Lib.hid (hb.1 rfl)
    clear hb
    have HT1 : Hid (HT h L w1) := Lib.hid (HIN.out.ht HSM.out B1.out)
    have HN : Hid (∀ i, i < 14 → h.n i ≤ 1000) := Lib.hid (fun i hi => Nat.le_trans (HSM.out i hi) (cap_le i hi))
    go_wp2_with (first
      | (refine BigFrame.wpList_want (by kernel_rfl) (fun K hK => Go.wp_load_mid 37 (.tmp 2) rfl w.heap.size 0 rfl h.cells.toList _ (range_row0 HH1.out) huh rfl (HSHL.out _) (hK _ _ ?_)); clear hK K)
      | fail)
    refine (cplain h L _ HT1.out).mono ?_
    rintro e w2 ⟨hb2, b, rfl, hp⟩
    have HH2 := Lib.hid ((hb2.block _ (lt_of_block HH1.out)).trans HH1.out)
    have B2 := Lib.hid (B1.out.trans (hb2.mono B1.out.size))
    have HT2 := Lib.hid (HT1.out.below hb2)
    clear hb2
    cases b with
    | false =>
      clear hp
      go_wp2_with fail
      refine (HAW.out _).mono ?_
      rintro e wz ⟨rfl, hbz⟩
      have BZ := Lib.hid (B2.out.trans (hbz.mono B2.out.size))
      clear hbz
      go_wp2_with fail
      go_ret
      exact ⟨rfl, BZ.out⟩
    | true =>
      have HPQ : Hid (PlainQ (L 4)) := Lib.hid (hp rfl)
      clear hp
      go_wp2_with (first
        | (refine BigFrame.wpList_want (by kernel_rfl) (fun K hK => Go.wp_load_mid 37 (.tmp 2) rfl w.heap.size 0 rfl h.cells.toList _ (range_row0 HH2.out) huh rfl (HSHL.out _) (hK _ _ ?_)); clear hK K)
        | fail)
      refine (cclaims h L _ HT2.out).mono ?_
      rintro e w3 ⟨hb3, b, rfl, hp⟩
      have HH3 := Lib.hid ((hb3.block _ (lt_of_block HH2.out)).trans HH2.out)
      have B3 := Lib.hid (B2.out.trans (hb3.mono B2.out.size))
      have HT3 := Lib.hid (HT2.out.below hb3)
      clear hb3
      cases b with
      | false =>
        clear hp
        go_wp2_with fail
        refine (HAW.out _).mono ?_
        rintro e wz ⟨rfl, hbz⟩
        have BZ := Lib.hid (B3.out.trans (hbz.mono B3.out.size))
        clear hbz
        go_wp2_with fail
        go_ret
        exact ⟨rfl, BZ.out⟩
      | true =>
        clear hp
        obtain ⟨m8, hm8⟩ : ∃ z, h.n 8 = z := ⟨_, rfl⟩
        have HM8 : Hid (m8 = (L 8).length) := Lib.hid (by rw [← hm8]; exact (HT3.out 8 (by decide)).1)
        have hl8 : m8 ≤ 1000 := by rw [← hm8]; exact HN.out 8 (by decide)
        have HE8 := Lib.hid hm8
        have HC8 : Hid (∀ X, Below w3.heap.size w3 X → X.cell? ⟨w.heap.size, 8, none⟩ = some (.slice (h.A 8) m8 (h.c 8)) ∧ w.heap.size < X.heap.size) := Lib.hid (fun X hX => by
          have q := (hX.block _ (lt_of_block HH3.out)).trans HH3.out
          exact ⟨by rw [cell_of_block q, ← HE8.out]; rfl, lt_of_block q⟩)
        clear hm8
        go_wp2_with fail
        go_loopw [5] (fun i wx => ∃ X : World, X = wx ∧ ∃ k : Nat, k ≤ m8 ∧ i = .int .i64 (k : Int) ∧ Hid (∀ j (hj : j < (L 8).length), j < k → ofOrd s (L 8)[j] = false) ∧ Hid (Below w3.heap.size w3 wx)) (fun i _ => m8 - (intOf i).toNat)
        case atStart => exact ⟨_, rfl, 0, by omega, rfl, Lib.hid (fun j hj h => by omega), Lib.hid (Below.refl _ _)⟩
        case round =>
          obtain ⟨wx, rfl, k, hk, rfl, hno, hx⟩ := hrel
          obtain ⟨d8, dlt⟩ := HC8.out _ hx.out
          have BX := Lib.hid (B3.out.trans (hx.out.mono B3.out.size))
          by_cases hlt : k < m8
          · have hkl : k < (L 8).length := by rw [← HM8.out]; exact hlt
            obtain ⟨b, off, hA, hb, r1⟩ := claim_at (HT3.out.below hx.out) hkl
            obtain ⟨q, hq⟩ : ∃ q, clOf (L 8)[k] = q := ⟨_, rfl⟩
            have HQC : Hid (ofOrd s (L 8)[k] = Pl.eqv q.ord s) := Lib.hid (by unfold ofOrd; rw [hq])
            rw [hq] at r1
            obtain ⟨yo, yn, yb, yi, yl, ys, yq, yt⟩ := q
            unfold Cl.cells at r1
            have z0 : wx.cell? ⟨b, off + k * 8, none⟩ = some (.string yo) := by have := r1 0 _ rfl; simpa using this
            rw [hA] at d8
            have h1 : (0 : Int) ≤ (k : Int) := by omega
            have h2 : (k : Int) < (m8 : Int) := by omega
            clear r1 hq hA hb
            cases e1 : Pl.eqv yo s with
            | true =>
              have f1 : (yo.toList == s.toList) = true := e1
              clear e1 HQC
              go_wp2_with fail
              refine (HAW.out _).mono ?_
              rintro e wz ⟨rfl, hbz⟩
              have BZ := Lib.hid (BX.out.trans (hbz.mono BX.out.size))
              clear hbz
              go_wp2_with fail
              go_ret
              exact ⟨rfl, BZ.out⟩
            | false =>
              have f1 : (yo.toList == s.toList) = false := e1
              have HNO : Hid (∀ j (hj : j < (L 8).length), j < k + 1 → ofOrd s (L 8)[j] = false) := Lib.hid (fun j hj hjk => by
                by_cases e : j = k
                · subst e; rw [HQC.out]; exact e1
                · exact hno.out j hj (by omega))
              clear e1 HQC hkl
              go_wp2_with fail
              go_roundw
              case rel => exact ⟨_, rfl, k + 1, by omega, by go_num, HNO, hx⟩
              case measure => simp [intOf]; omega
          · have HNC : Hid (∀ e ∈ L 8, ofOrd s e = false) := Lib.hid (fun e he => by
              obtain ⟨j, hj, rfl⟩ := List.getElem_of_mem he
              exact hno.out j hj (by have := HM8.out; omega))
            clear hno
            have hcw := hx.out
            obtain ⟨w4, hwx⟩ : ∃ W, W = wx := ⟨_, rfl⟩
            rw [← hwx] at hcw d8 ⊢
            clear hwx
            have HH4 := Lib.hid ((hcw.block _ (lt_of_block HH3.out)).trans HH3.out)
            have B4 := Lib.hid (B3.out.trans (hcw.mono B3.out.size))
            have HT4 := Lib.hid (HT3.out.below hcw)
            clear BX hx dlt hcw
            obtain ⟨X, hX⟩ : ∃ X, gotOrder (L 7) s = X := ⟨_, rfl⟩
            have HX := Lib.hid hX
            have HXF : Hid (Fits kOrder X) := Lib.hid (hX ▸ order_things HT4.out s)
            obtain ⟨is, his⟩ : ∃ b, (atOrder (L 7) s).isSome = b := ⟨_, rfl⟩
            have HIS := Lib.hid his
            have CFO : Hid (∀ W, HT h L W → Calls Tryz.prog 25 #[.agg h.cells, .string s] W fun e w' => e = .returned (.tuple #[.agg X.toArray, .bool is]) ∧ Below W.heap.size W w') := Lib.hid (fun W hW => by have := frOrder hW s; rw [HX.out, HIS.out] at this; exact this)
            clear hX his
            have dlt : w.heap.size < w4.heap.size := lt_of_block HH4.out
            go_wp2_with (first
              | (refine wpList_load_row rfl 37 (.tmp 2) rfl w.heap.size rfl _ _ _ _ HH4.out huh rfl (HSH.out _) ?_)
              | fail)
            clear d8 dlt
            refine (CFO.out _ HT4.out).mono ?_
            rintro e w5 ⟨rfl, hb5⟩
            have HH5 := Lib.hid ((hb5.block _ (lt_of_block HH4.out)).trans HH4.out)
            have B5 := Lib.hid (B4.out.trans (hb5.mono B4.out.size))
            have HT5 := Lib.hid (HT4.out.below hb5)
            clear hb5
            have HQ6 : Hid ((w5.alloc (.cells #[.string ⟨#[]⟩, .string ⟨#[]⟩, .string ⟨#[]⟩, .int .i64 0, .int .i64 0, .int .i64 0, .int .i64 0, .int .i64 0, .string ⟨#[]⟩, .int .i64 0, .int .i64 0, .int .i64 0, .int .i64 0, .int .i64 0, .string ⟨#[]⟩, .int .i64 0, .int .i64 0, .int .i64 0, .int .i64 0, .int .i64 0, .string ⟨#[]⟩, .int .i64 0, .int .i64 0, .int .i64 0, .int .i64 0, .int .i64 0, .string ⟨#[]⟩, .int .i64 0, .int .i64 0, .int .i64 0, .int .i64 0, .int .i64 0, .string ⟨#[]⟩, .int .i64 0, .int .i64 0, .int .i64 0, .int .i64 0, .int .i64 0, .string ⟨#[]⟩, .int .i64 0, .int .i64 0, .int .i64 0, .int .i64 0, .int .i64 0, .string ⟨#[]⟩, .int .i64 0, .int .i64 0, .int .i64 0, .int .i64 0, .int .i64 0] 42)).heap[w5.heap.size]? = some (.cells #[.string ⟨#[]⟩, .string ⟨#[]⟩, .string ⟨#[]⟩, .int .i64 0, .int .i64 0, .int .i64 0, .int .i64 0, .int .i64 0, .string ⟨#[]⟩, .int .i64 0, .int .i64 0, .int .i64 0, .int .i64 0, .int .i64 0, .string ⟨#[]⟩, .int .i64 0, .int .i64 0, .int .i64 0, .int .i64 0, .int .i64 0, .string ⟨#[]⟩, .int .i64 0, .int .i64 0, .int .i64 0, .int .i64 0, .int .i64 0, .string ⟨#[]⟩, .int .i64 0, .int .i64 0, .int .i64 0, .int .i64 0, .int .i64 0, .string ⟨#[]⟩, .int .i64 0, .int .i64 0, .int .i64 0, .int .i64 0, .int .i64 0, .string ⟨#[]⟩, .int .i64 0, .int .i64 0, .int .i64 0, .int .i64 0, .int .i64 0, .string ⟨#[]⟩, .int .i64 0, .int .i64 0, .int .i64 0, .int .i64 0, .int .i64 0] 42 (0, 0))) := Lib.hid (heap_alloc_new _ _)
            have HFHX := Lib.hid (HXF.out)
            have HLHX : Hid ((Tryz.prog.info? 42).map (·.size) = some X.length) := Lib.hid (by rw [show (Tryz.prog.info? 42).map (·.size) = some 50 from by kernel_rfl, HFHX.out.length]; rfl)
            have HAHX : Hid ((Tryz.prog.info? 42).map (·.size) = some X.toArray.size) := Lib.hid (by have := HLHX.out; rwa [← List.size_toArray] at this)
            have HZHX : Hid ((#[.string ⟨#[]⟩, .string ⟨#[]⟩, .string ⟨#[]⟩, .int .i64 0, .int .i64 0, .int .i64 0, .int .i64 0, .int .i64 0, .string ⟨#[]⟩, .int .i64 0, .int .i64 0, .int .i64 0, .int .i64 0, .int .i64 0, .string ⟨#[]⟩, .int .i64 0, .int .i64 0, .int .i64 0, .int .i64 0, .int .i64 0, .string ⟨#[]⟩, .int .i64 0, .int .i64 0, .int .i64 0, .int .i64 0, .int .i64 0, .string ⟨#[]⟩, .int .i64 0, .int .i64 0, .int .i64 0, .int .i64 0, .int .i64 0, .string ⟨#[]⟩, .int .i64 0, .int .i64 0, .int .i64 0, .int .i64 0, .int .i64 0, .string ⟨#[]⟩, .int .i64 0, .int .i64 0, .int .i64 0, .int .i64 0, .int .i64 0, .string ⟨#[]⟩, .int .i64 0, .int .i64 0, .int .i64 0, .int .i64 0, .int .i64 0] : Array Value).size = X.toArray.size) := Lib.hid (by rw [List.size_toArray, List.size_toArray, HFHX.out.length]; rfl)
            have HOHX : Hid (X.toArray.all (·.oneCell') = true) := Lib.hid (all_oneCell_toArray (fits_one HFHX.out))
            obtain ⟨w6, hw6⟩ : ∃ w', w' = (w5.alloc (.cells #[.string ⟨#[]⟩, .string ⟨#[]⟩, .string ⟨#[]⟩, .int .i64 0, .int .i64 0, .int .i64 0, .int .i64 0, .int .i64 0, .string ⟨#[]⟩, .int .i64 0, .int .i64 0, .int .i64 0, .int .i64 0, .int .i64 0, .string ⟨#[]⟩, .int .i64 0, .int .i64 0, .int .i64 0, .int .i64 0, .int .i64 0, .string ⟨#[]⟩, .int .i64 0, .int .i64 0, .int .i64 0, .int .i64 0, .int .i64 0, .string ⟨#[]⟩, .int .i64 0, .int .i64 0, .int .i64 0, .int .i64 0, .int .i64 0, .string ⟨#[]⟩, .int .i64 0, .int .i64 0, .int .i64 0, .int .i64 0, .int .i64 0, .string ⟨#[]⟩, .int .i64 0, .int .i64 0, .int .i64 0, .int .i64 0, .int .i64 0, .string ⟨#[]⟩, .int .i64 0, .int .i64 0, .int .i64 0, .int .i64 0, .int .i64 0] 42)).setRow w5.heap.size X.toArray := ⟨_, rfl⟩
            have hb6 : Below w5.heap.size w5 w6 := by rw [hw6]; exact setRow_below ((Below.refl _ _).alloc (Nat.le_refl _) _) (Nat.le_refl _) _
            have HH6 := Lib.hid ((hb6.block _ (lt_of_block HH5.out)).trans HH5.out)
            have B6 := Lib.hid (B5.out.trans (hb6.mono B5.out.size))
            have HT6 := Lib.hid (HT5.out.below hb6)
            have HX6 : Hid (w6.heap[w5.heap.size]? = some (.cells X.toArray 42 (0, 0))) := Lib.hid (by rw [hw6]; exact setRow_heap _ _ _ _ _ _ HQ6.out)
            have HW6 := Lib.hid hw6
            clear hb6 hw6
            go_upto_region 9 with (first | (refine wpList_store_row rfl 42 (.tmp 6) (.tmp 48) rfl w5.heap.size X.toArray rfl rfl _ _ HQ6.out HAHX.out HZHX.out HOHX.out ?_; rw [← HW6.out]) | fail)
            have HCX : Hid (∀ V, Below w6.heap.size w6 V → ∀ j, j < 8 → V.cell? ⟨w5.heap.size, 2 + j * 6 + 2, none⟩ = some (.int .i64 (lnAt (oLines X) j).got) ∧ w5.heap.size < V.heap.size) := Lib.hid (fun V hV j hj => by
              have q := (hV.block _ (lt_of_block HX6.out)).trans HX6.out
              exact ⟨by have := range_row0 q (2 + j * 6 + 2) _ (got_cell HXF.out hj); simpa using this, lt_of_block q⟩)
            go_wp2_with fail
            go_loopw [8] (fun i wx => ∃ X_ : World, X_ = wx ∧ ∃ k : Nat, k ≤ 8 ∧ i = .int .i64 (k : Int) ∧ Hid (∀ j, j < k → (lnAt (oLines X) j).got = 0) ∧ Hid (Below w6.heap.size w6 wx)) (fun i _ => 8 - (intOf i).toNat)
            case atStart => exact ⟨_, rfl, 0, by omega, rfl, Lib.hid (fun j h => by omega), Lib.hid (Below.refl _ _)⟩
            case round =>
              obtain ⟨wx, rfl, k, hk, rfl, hno, hx⟩ := hrel
              have BX := Lib.hid (B6.out.trans (hx.out.mono B6.out.size))
              by_cases hlt : k < 8
              · obtain ⟨z2, xlt⟩ := HCX.out _ hx.out k hlt
                obtain ⟨g, hg⟩ : ∃ g, (lnAt (oLines X) k).got = g := ⟨_, rfl⟩
                have HG := Lib.hid hg
                rw [hg] at z2
                clear hg
                have h1 : (0 : Int) ≤ (k : Int) := by omega
                have h2 : (k : Int) < 8 := by omega
                by_cases e1 : g = 0
                case neg =>
                  have f1 : (g != 0) = true := by simpa using e1
                  clear e1
                  go_wp2_with fail
                  refine (HAW.out _).mono ?_
                  rintro e wz ⟨rfl, hbz⟩
                  have BZ := Lib.hid (BX.out.trans (hbz.mono BX.out.size))
                  clear hbz
                  go_wp2_with fail
                  go_ret
                  exact ⟨rfl, BZ.out⟩
                have f1 : (g != 0) = false := by simpa using e1
                have HNO : Hid (∀ j, j < k + 1 → (lnAt (oLines X) j).got = 0) := Lib.hid (fun j hjk => by
                  by_cases e : j = k
                  · subst e; rw [HG.out]; exact e1
                  · exact hno.out j (by omega))
                clear e1 HG
                go_wp2_with fail
                go_roundw
                case rel => exact ⟨_, rfl, k + 1, by omega, by go_num, HNO, hx⟩
                case measure => simp [intOf]; omega
              · have HNG : Hid (∀ j, j < 8 → (lnAt (oLines X) j).got = 0) := Lib.hid (fun j hj => hno.out j (by omega))
                clear hno
                have hcw := hx.out
                obtain ⟨w7, hwx⟩ : ∃ W, W = wx := ⟨_, rfl⟩
                rw [← hwx] at hcw ⊢
                clear hwx
                have HH7 := Lib.hid ((hcw.block _ (lt_of_block HH6.out)).trans HH6.out)
                have HX7 := Lib.hid ((hcw.block _ (lt_of_block HX6.out)).trans HX6.out)
                have B7 := Lib.hid (B6.out.trans (hcw.mono B6.out.size))
                have HT7 := Lib.hid (HT6.out.below hcw)
                clear BX hx hcw HCX
                obtain ⟨ea, hea⟩ : ∃ r : Int, ((allE L s : Nat) : Int) = r := ⟨_, rfl⟩
                have HEA := Lib.hid hea
                clear hea
                go_wp2_with (first
                  | (refine wpList_load_row rfl 37 (.tmp 2) rfl w.heap.size rfl _ _ _ _ HH7.out huh rfl (HSH.out _) ?_)
                  | fail)
                refine (calloc h L s _ HT7.out HN.out HIN.out.c).mono ?_
                rintro e w8 ⟨hb8, g, rfl, hat, haz, hac, _⟩
                rw [HEA.out]
                have HH8 := Lib.hid ((hb8.block _ (lt_of_block HH7.out)).trans HH7.out)
                have HX8 := Lib.hid ((hb8.block _ (lt_of_block HX7.out)).trans HX7.out)
                have B8 := Lib.hid (B7.out.trans (hb8.mono B7.out.size))
                have HT8 := Lib.hid (HT7.out.below hb8)
                have HTg8 := Lib.hid hat
                have HCG := Lib.hid (hac HIN.out.c)
                clear hat haz hac hb8
                have HQ9 : Hid ((w8.alloc (.cells #[.slice none 0 0, .slice none 0 0, .slice none 0 0, .slice none 0 0, .slice none 0 0, .slice none 0 0, .slice none 0 0, .slice none 0 0, .slice none 0 0, .slice none 0 0, .slice none 0 0, .slice none 0 0, .slice none 0 0, .slice none 0 0, .int .i64 0] 37)).heap[w8.heap.size]? = some (.cells #[.slice none 0 0, .slice none 0 0, .slice none 0 0, .slice none 0 0, .slice none 0 0, .slice none 0 0, .slice none 0 0, .slice none 0 0, .slice none 0 0, .slice none 0 0, .slice none 0 0, .slice none 0 0, .slice none 0 0, .slice none 0 0, .int .i64 0] 37 (0, 0))) := Lib.hid (heap_alloc_new _ _)
                obtain ⟨w9, hw9⟩ : ∃ w', w' = (w8.alloc (.cells #[.slice none 0 0, .slice none 0 0, .slice none 0 0, .slice none 0 0, .slice none 0 0, .slice none 0 0, .slice none 0 0, .slice none 0 0, .slice none 0 0, .slice none 0 0, .slice none 0 0, .slice none 0 0, .slice none 0 0, .slice none 0 0, .int .i64 0] 37)).setRow w8.heap.size g.cells := ⟨_, rfl⟩
                have hb9 : Below w8.heap.size w8 w9 := by rw [hw9]; exact setRow_below ((Below.refl _ _).alloc (Nat.le_refl _) _) (Nat.le_refl _) _
                have HH9 := Lib.hid ((hb9.block _ (lt_of_block HH8.out)).trans HH8.out)
                have HX9 := Lib.hid ((hb9.block _ (lt_of_block HX8.out)).trans HX8.out)
                have B9 := Lib.hid (B8.out.trans (hb9.mono B8.out.size))
                have HT9 := Lib.hid (HT8.out.below hb9)
                have HTg9 := Lib.hid (HTg8.out.below hb9)
                have HG9 : Hid (w9.heap[w8.heap.size]? = some (.cells g.cells 37 (0, 0))) := Lib.hid (by rw [hw9]; exact setRow_heap _ _ _ _ _ _ HQ9.out)
                have HW9 := Lib.hid hw9
                clear hb9 hw9
                go_upto_region 15 with (first | (refine wpList_store_row rfl 37 (.tmp 9) (.tmp 65) rfl w8.heap.size g.cells rfl rfl _ _ HQ9.out (HSH.out _) rfl (H1C.out _) ?_; rw [← HW9.out]) | fail)
                by_cases he0 : allE L s = 0
                case neg =>
                  have f1 : (ea != 0) = true := by
                    have := HEA.out
                    have h3 : ea ≠ 0 := by omega
                    simpa using h3
                  clear he0
                  go_wp2_with fail
                  refine (HAW.out _).mono ?_
                  rintro e wz ⟨rfl, hbz⟩
                  have BZ := Lib.hid (B9.out.trans (hbz.mono B9.out.size))
                  clear hbz
                  go_wp2_with fail
                  go_ret
                  exact ⟨rfl, BZ.out⟩
                have hda := drop_back (HT9.out 7 (by decide)).2.2.1 (HT9.out 8 (by decide)).2.2.1 HPQ.out HNC.out (by rw [HX.out]; exact HNG.out) he0
                have hal := alc_len L (gotOrder (L 7) s) s 8 (by have := he0; unfold allE at this; rw [if_neg (by rw [hda.1]; simp)] at this; exact this)
                obtain ⟨M, hM⟩ : ∃ M, allM L s = M := ⟨_, rfl⟩
                have HG4 : Hid (g.n 4 ≤ 1000) := Lib.hid (by
                  have h3 := (HTg9.out 4 (by decide)).1
                  rw [setX_ok he0] at h3
                  rw [h3]
                  unfold allM
                  rw [setE_off rfl _ (by decide)]
                  have h4 := (HT9.out 4 (by decide)).1
                  have h5 := HN.out 4 (by decide)
                  omega)
                have HG8 : Hid (g.n 8 ≤ 1000) := Lib.hid (by
                  have h3 := (HTg9.out 8 (by decide)).1
                  rw [setX_ok he0] at h3
                  rw [h3]
                  unfold allM
                  rw [setE_off rfl _ (by decide)]
                  have h4 := (HT9.out 8 (by decide)).1
                  have h5 := HN.out 8 (by decide)
                  omega)
                rw [setX_ok he0, hM] at HTg9
                rw [hM] at hda
                have HDA := Lib.hid hda
                have hea0 : ea = 0 := by have := HEA.out; omega
                have his : is = true := by rw [← HIS.out]; exact hda.1
                clear hda hal hM he0 HEA
                subst hea0 his
                obtain ⟨ed, hed⟩ : ∃ r : Int, ((dropE M s : Nat) : Int) = r := ⟨_, rfl⟩
                have HED := Lib.hid hed
                clear hed
                go_wp2_with (first
                  | (refine wpList_load_row rfl 37 (.tmp 9) rfl w8.heap.size rfl _ _ _ _ HG9.out huh rfl (HSH.out _) ?_)
                  | fail)
                refine (cdrop g M s _ HTg9.out HG4.out HG8.out HCG.out).mono ?_
                rintro e w10 ⟨hb10, d, rfl, hat, haz, hac, _⟩
                rw [HED.out]
                have HH10 := Lib.hid ((hb10.block _ (lt_of_block HH9.out)).trans HH9.out)
                have HX10 := Lib.hid ((hb10.block _ (lt_of_block HX9.out)).trans HX9.out)
                have HG10 := Lib.hid ((hb10.block _ (lt_of_block HG9.out)).trans HG9.out)
                have B10 := Lib.hid (B9.out.trans (hb10.mono B9.out.size))
                have HT10 := Lib.hid (HT9.out.below hb10)
                have HTg10 := Lib.hid (HTg9.out.below hb10)
                have HTd10 := Lib.hid hat
                clear hat haz hac hb10
                have HQ11 : Hid ((w10.alloc (.cells #[.slice none 0 0, .slice none 0 0, .slice none 0 0, .slice none 0 0, .slice none 0 0, .slice none 0 0, .slice none 0 0, .slice none 0 0, .slice none 0 0, .slice none 0 0, .slice none 0 0, .slice none 0 0, .slice none 0 0, .slice none 0 0, .int .i64 0] 37)).heap[w10.heap.size]? = some (.cells #[.slice none 0 0, .slice none 0 0, .slice none 0 0, .slice none 0 0, .slice none 0 0, .slice none 0 0, .slice none 0 0, .slice none 0 0, .slice none 0 0, .slice none 0 0, .slice none 0 0, .slice none 0 0, .slice none 0 0, .slice none 0 0, .int .i64 0] 37 (0, 0))) := Lib.hid (heap_alloc_new _ _)
                obtain ⟨w11, hw11⟩ : ∃ w', w' = (w10.alloc (.cells #[.slice none 0 0, .slice none 0 0, .slice none 0 0, .slice none 0 0, .slice none 0 0, .slice none 0 0, .slice none 0 0, .slice none 0 0, .slice none 0 0, .slice none 0 0, .slice none 0 0, .slice none 0 0, .slice none 0 0, .slice none 0 0, .int .i64 0] 37)).setRow w10.heap.size d.cells := ⟨_, rfl⟩
                have hb11 : Below w10.heap.size w10 w11 := by rw [hw11]; exact setRow_below ((Below.refl _ _).alloc (Nat.le_refl _) _) (Nat.le_refl _) _
                have HH11 := Lib.hid ((hb11.block _ (lt_of_block HH10.out)).trans HH10.out)
                have HX11 := Lib.hid ((hb11.block _ (lt_of_block HX10.out)).trans HX10.out)
                have HG11 := Lib.hid ((hb11.block _ (lt_of_block HG10.out)).trans HG10.out)
                have B11 := Lib.hid (B10.out.trans (hb11.mono B10.out.size))
                have HT11 := Lib.hid (HT10.out.below hb11)
                have HTg11 := Lib.hid (HTg10.out.below hb11)
                have HTd11 := Lib.hid (HTd10.out.below hb11)
                have HD11 : Hid (w11.heap[w10.heap.size]? = some (.cells d.cells 37 (0, 0))) := Lib.hid (by rw [hw11]; exact setRow_heap _ _ _ _ _ _ HQ11.out)
                have HW11 := Lib.hid hw11
                clear hb11 hw11
                go_upto_region 18 with (first | (refine wpList_store_row rfl 37 (.tmp 11) (.tmp 82) rfl w10.heap.size d.cells rfl rfl _ _ HQ11.out (HSH.out _) rfl (H1C.out _) ?_; rw [← HW11.out]) | fail)
                have hed0 : ed = 0 := by have h3 := HED.out; rw [HDA.out.2.1] at h3; omega
                subst hed0
                clear HED
                rw [setX_ok HDA.out.2.1] at HTd11
                obtain ⟨m4_, hm4_⟩ : ∃ z, h.n 4 = z := ⟨_, rfl⟩
                obtain ⟨q4_, hq4_⟩ : ∃ z, d.n 4 = z := ⟨_, rfl⟩
                have c4 : w11.cell? ⟨w.heap.size, 4, none⟩ = some (.slice (h.A 4) m4_ (h.c 4)) := by rw [cell_of_block HH11.out, ← hm4_]; rfl
                have y4 : w11.cell? ⟨w10.heap.size, 4, none⟩ = some (.slice (d.A 4) q4_ (d.c 4)) := by rw [cell_of_block HD11.out, ← hq4_]; rfl
                obtain ⟨m8_, hm8_⟩ : ∃ z, h.n 8 = z := ⟨_, rfl⟩
                obtain ⟨q8_, hq8_⟩ : ∃ z, d.n 8 = z := ⟨_, rfl⟩
                have c8 : w11.cell? ⟨w.heap.size, 8, none⟩ = some (.slice (h.A 8) m8_ (h.c 8)) := by rw [cell_of_block HH11.out, ← hm8_]; rfl
                have y8 : w11.cell? ⟨w10.heap.size, 8, none⟩ = some (.slice (d.A 8) q8_ (d.c 8)) := by rw [cell_of_block HD11.out, ← hq8_]; rfl
                obtain ⟨m7_, hm7_⟩ : ∃ z, h.n 7 = z := ⟨_, rfl⟩
                obtain ⟨q7_, hq7_⟩ : ∃ z, d.n 7 = z := ⟨_, rfl⟩
                have c7 : w11.cell? ⟨w.heap.size, 7, none⟩ = some (.slice (h.A 7) m7_ (h.c 7)) := by rw [cell_of_block HH11.out, ← hm7_]; rfl
                have y7 : w11.cell? ⟨w10.heap.size, 7, none⟩ = some (.slice (d.A 7) q7_ (d.c 7)) := by rw [cell_of_block HD11.out, ← hq7_]; rfl
                have clt : w.heap.size < w11.heap.size := lt_of_block HH11.out
                have ylt : w10.heap.size < w11.heap.size := lt_of_block HD11.out
                have e4 : q4_ = m4_ := by
                  have h3 := (HTd11.out 4 (by decide)).1
                  have h4 := (HT11.out 4 (by decide)).1
                  rw [HDA.out.2.2.1] at h3
                  omega
                have e8 : q8_ = m8_ := by
                  have h3 := (HTd11.out 8 (by decide)).1
                  have h4 := (HT11.out 8 (by decide)).1
                  rw [HDA.out.2.2.2.1] at h3
                  omega
                have e7 : q7_ + 1 = m7_ := by
                  have h3 := (HTd11.out 7 (by decide)).1
                  have h4 := (HT11.out 7 (by decide)).1
                  have h5 := HDA.out.2.2.2.2
                  omega
                have HM4 : Hid (m4_ = (L 4).length) := Lib.hid (by have h4 := (HT11.out 4 (by decide)).1; omega)
                have hl4 : m4_ ≤ 1000 := by have := HN.out 4 (by decide); omega
                have hl7 : m7_ ≤ 1000 := by have := HN.out 7 (by decide); omega
                have H4H := Lib.hid hm4_
                have H4D := Lib.hid hq4_
                have f4 : ((q4_ : Int) != (m4_ : Int)) = false := by rw [e4]; simp
                have f8 : ((q8_ : Int) != (m8_ : Int)) = false := by rw [e8]; simp
                have hw7 : IntKind.i64.wrap ((m7_ : Int) - 1) = (q7_ : Int) := by rw [IntWalk.i64_in _ (by omega)]; omega
                have f7 : ((q7_ : Int) != (q7_ : Int)) = false := by simp
                have E4 := Lib.hid e4
                clear e4 e8 e7 hm4_ hq4_ hm8_ hq8_ hm7_ hq7_
                go_upto_region 20 with fail
                clear c4 c8 c7 y4 y8 y7 clt ylt f4 f8 f7 hw7
                have HCQ : Hid (∀ V, Below w11.heap.size w11 V → V.cell? ⟨w.heap.size, 4, none⟩ = some (.slice (h.A 4) m4_ (h.c 4)) ∧ V.cell? ⟨w10.heap.size, 4, none⟩ = some (.slice (d.A 4) m4_ (d.c 4)) ∧ w.heap.size < V.heap.size ∧ w10.heap.size < V.heap.size) := Lib.hid (fun V hV => by
                  have q := (hV.block _ (lt_of_block HH11.out)).trans HH11.out
                  have q2 := (hV.block _ (lt_of_block HD11.out)).trans HD11.out
                  exact ⟨by rw [cell_of_block q, ← H4H.out]; rfl, by rw [cell_of_block q2, ← E4.out, ← H4D.out]; rfl, lt_of_block q, lt_of_block q2⟩)
                go_wp2_with fail
                go_loopw [13] (fun i wx => ∃ X_ : World, X_ = wx ∧ ∃ k : Nat, k ≤ m4_ ∧ i = .int .i64 (k : Int) ∧ Hid (Below w11.heap.size w11 wx)) (fun i _ => m4_ - (intOf i).toNat)
                case atStart => exact ⟨_, rfl, 0, by omega, rfl, Lib.hid (Below.refl _ _)⟩
                case round =>
                  obtain ⟨wx, rfl, k, hk, rfl, hx⟩ := hrel
                  obtain ⟨d4, y4, dlt, ylt⟩ := HCQ.out _ hx.out
                  have BX := Lib.hid (B11.out.trans (hx.out.mono B11.out.size))
                  by_cases hlt : k < m4_
                  · have hkl : k < (L 4).length := by rw [← HM4.out]; exact hlt
                    obtain ⟨b, off, hA, hb, r1⟩ := quant_atW (HT11.out.below hx.out) hkl
                    obtain ⟨b2, off2, hA2, hb2, r2⟩ := quant_atW (HTd11.out.below hx.out) (by rw [HDA.out.2.2.1]; exact hkl)
                    rw [HDA.out.2.2.1] at r2
                    obtain ⟨x, hxq⟩ : ∃ x, qnOf (qA (L 4) k) = x := ⟨_, rfl⟩
                    rw [hxq] at r1 r2
                    have RJ : Hid (∀ X : BW wx, X.W.rangeAt b (off + k * 6) x.cells) := Lib.hid (fun X => rangeAt_below r1 hb X.h)
                    have RK : Hid (∀ X : BW wx, X.W.rangeAt b2 (off2 + k * 6) x.cells) := Lib.hid (fun X => rangeAt_below r2 hb2 X.h)
                    have x4 : ∀ X : BW wx, X.W.cell? ⟨w.heap.size, 4, none⟩ = some (.slice (some ⟨b, off, none⟩) m4_ (h.c 4)) := fun X => by have := (HCQ.out _ (hx.out.trans (X.h.mono hx.out.size))).1; rwa [hA] at this
                    have x5 : ∀ X : BW wx, X.W.cell? ⟨w10.heap.size, 4, none⟩ = some (.slice (some ⟨b2, off2, none⟩) m4_ (d.c 4)) := fun X => by have := (HCQ.out _ (hx.out.trans (X.h.mono hx.out.size))).2.1; rwa [hA2] at this
                    have hne : ∀ W, (binOp .neq 62 (.agg x.cells.toArray) (.agg x.cells.toArray)).run Tryz.prog W = .ok (.bool false) W := fun W => neq_self eqQuant (by decide) x.cells (Qn.fits x) W
                    have h1 : (0 : Int) ≤ (k : Int) := by omega
                    have h2 : (k : Int) < (m4_ : Int) := by omega
                    have HXC : Hid ((Tryz.prog.info? 62).map (·.size) = some x.cells.length) := HSQ6
                    obtain ⟨xc, hxc⟩ : ∃ l, x.cells = l := ⟨_, rfl⟩
                    rw [hxc] at RJ RK hne HXC
                    clear r1 r2 hxq hxc hA hA2 hb hb2 hkl d4
                    go_wp2_with fail
                    refine wp_grow wx (by kernel_rfl) (by kernel_rfl) (Below.refl _ _) ?_
                    simp only []
                    iterate 4 go_big_quiet_step (fail)
                    refine BigFrame.wpQuiet_want (by kernel_rfl) (fun K hK => quiet_load_mid 62 (.tmp 124) rfl b2 (off2 + k * 6) rfl xc _ (fun W ⟨X, hX⟩ => by rw [hX]; exact RK.out X) huq rfl HXC.out (hK _ ?_))
                    simp only [ax]
                    iterate 4 go_big_quiet_step (fail)
                    refine BigFrame.wpQuiet_want (by kernel_rfl) (fun K hK => quiet_load_mid 62 (.tmp 129) rfl b (off + k * 6) rfl xc _ (fun W ⟨X, hX⟩ => by rw [hX]; exact RJ.out X) huq rfl HXC.out (hK _ ?_))
                    simp only [ax]
                    go_big_quiet_step (fail)
                    refine wpQuiet_nil ?_
                    intro X
                    clear x4 x5 hne RJ RK
                    obtain ⟨wn, hb1⟩ := X
                    simp only []
                    have HV1 := Lib.hid (hx.out.trans (hb1.mono hx.out.size))
                    clear hb1
                    go_wp2_with fail
                    go_roundw
                    case rel => exact ⟨_, rfl, k + 1, by omega, by go_num, HV1⟩
                    case measure => simp [intOf]; omega
                  · skip
                    go_wp2_with fail
                    refine (HAW.out _).mono ?_
                    rintro e wz ⟨rfl, hbz⟩
                    have BZ := Lib.hid (BX.out.trans (hbz.mono BX.out.size))
                    clear hbz
                    go_wp2_with fail
                    go_ret
                    exact ⟨rfl, BZ.out⟩
theorem walk (C : ConsA) (h : Hs) (L : HL) (s : ByteArray) (w : World) (hin : HIn h L w) (hs : s.size ≤ 140737488351232) :
    Calls Tryz.prog 5 #[.agg h.cells, .string s] w fun e w' => e = .returned (.bool true) ∧ Below w.heap.size w w' := walk0 h L s w hin
end Go.Proofs.YtlkmccmbpnbgbaaGreat.allocDrops
