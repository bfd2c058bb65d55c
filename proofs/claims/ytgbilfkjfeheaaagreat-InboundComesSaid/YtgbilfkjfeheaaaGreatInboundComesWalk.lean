/-
 THE LAW InboundComes, over the contracts. (By wip/tools/gen_comes14.py.)
-/
import Derived.Test.YtgbilfkjfeheaaaGreatJCon
import Derived.Test.YtgbilfkjfeheaaaGreatJCame
import Derived.Test.YtgbilfkjfeheaaaGreatJInv
import Derived.Test.YtgbilfkjfeheaaaGreatONoticeFind
import Derived.Test.YtgbilfkjfeheaaaGreatTFind
import Derived.Test.YtgbilfkjfeheaaaGreatHSmall
import Derived.Test.YtgbilfkjfeheaaaGreatHA
import Derived.Deep.RegionHeld3
import Derived.Deep.CutBlock
import Derived.BigQuiet
namespace Go.Proofs.YtgbilfkjfeheaaaGreat.inboundComes
set_option linter.unusedVariables false
open Go.RowKit
open Pl (firstG findG putG It)

theorem quant_at {h : Hs} {L : Nat → List (List Value)} {w : World} (hh : HT h L w) {k : Nat} (hk : k < (L 4).length) : ∃ b off, h.A 4 = some ⟨b, off, none⟩ ∧ b < w.heap.size ∧ ∀ j (hj : j < (L 4).length), w.rangeAt b (off + j * 6) (qnOf (L 4)[j]).cells := by
 obtain ⟨b, off, hA, hb, hc⟩ := (hh 4 (by decide)).2.2.2.thing (hh 4 (by decide)).2.2.1 (by decide) hk
 refine ⟨b, off, hA, hb, fun j hj => ?_⟩
 have := hc j hj
 rw [show (kOf 4).length = 6 from rfl] at this
 rw [← qn_cells ((hh 4 (by decide)).2.2.1 _ (List.getElem_mem hj))]; exact this
theorem notice_at {h : Hs} {L : Nat → List (List Value)} {w : World} (hh : HT h L w) {k : Nat} (hk : k < (L 6).length) : ∃ b off, h.A 6 = some ⟨b, off, none⟩ ∧ b < w.heap.size ∧ ∀ i, i < 8 → w.rangeAt b (off + k * 51 + 2 + i * 6) (lnAt (nlines (L 6)[k]) i).cells := by
 obtain ⟨b, off, hA, hb, hc⟩ := (hh 6 (by decide)).2.2.2.thing (hh 6 (by decide)).2.2.1 (by decide) hk
 have := hc k hk
 rw [show (kOf 6).length = 51 from rfl] at this
 have hf := (hh 6 (by decide)).2.2.1 _ (List.getElem_mem hk)
 refine ⟨b, off, hA, hb, fun i hi => line_at (notice_parts hf).2.2.1 (fun j v hv => ?_) hi⟩
 unfold nlines at hv
 have hj : j < 48 := by
  have := (List.getElem?_eq_some_iff.1 hv).1
  rw [List.length_take] at this; omega
 rw [List.getElem?_take, if_pos hj, List.getElem?_drop] at hv
 have := this (2 + j) v hv
 rwa [show off + k * 51 + 2 + j = off + k * 51 + (2 + j) from by omega]
set_option maxRecDepth 100000 in
set_option maxHeartbeats 12800000 in
theorem walk (C : Cons) (h : Hs) (L : Nat → List (List Value)) (A1 : Option Addr) (n1 c1 : Nat) (LA : List (List Value)) (w : World) (hin : HIn h L w) (hla : LIn kCame w (.slice A1 n1 c1) A1 n1 c1 LA) :
 Calls Tryz.prog 6 #[.agg h.cells, .slice A1 n1 c1] w fun e w' => e = .returned (.bool true) ∧ Below w.heap.size w w' := by
 have HIN := Lib.hid hin
 have HCO := Lib.hid C
 have HLA := Lib.hid hla
 have hn1 : n1 ≤ 9223372036854775807 := Nat.le_trans hla.2.2.1 hla.2.2.2.1
 have HAW : Hid (∀ W, Calls Tryz.prog 10 #[] W fun e w' => e = .returned (.bool true) ∧ Below W.heap.size W w') := Lib.hid (fun W => awake_any C W)
 obtain ⟨W0, hW0⟩ : ∃ W0, W0 = (w.alloc (.cells h.cells 37)) := ⟨_, rfl⟩
 have B0 : Hid (Below w.heap.size w W0) := Lib.hid (by rw [hW0]; exact (Below.refl _ _).alloc (Nat.le_refl _) _)
 have HH0 : Hid (W0.heap[w.heap.size]? = some (.cells h.cells 37 (0, 0))) := Lib.hid (by
  rw [hW0]
  have hq := heap_alloc_new w (.cells h.cells 37)
  exact by simpa using hq)
 have huh := Tryz.underlying37
 have HSH : Hid (∀ a : Hs, (Tryz.prog.info? 37).map (·.size) = some a.cells.size) := Lib.hid (fun a => by kernel_rfl)
 have HSHL : Hid (∀ a : Hs, (Tryz.prog.info? 37).map (·.size) = some a.cells.toList.length) := Lib.hid (fun a => by kernel_rfl)
 have H1C : Hid (∀ a : Hs, a.cells.all (·.oneCell') = true) := Lib.hid (fun a => by simp [Hs.cells, Value.oneCell'])
 have huKY := Tryz.underlying60
 have HSKY : Hid ((Tryz.prog.info? 60).map (·.size) = some 4) := Lib.hid (by kernel_rfl)
 have huLI := Tryz.underlying39
 have HSLI : Hid ((Tryz.prog.info? 39).map (·.size) = some 6) := Lib.hid (by kernel_rfl)
 clear hin hla C
 subst hW0
 go_enter Tryz.func6, Tryz.ntmps6
 go_wp2_with (first
  | (refine wpList_load_row rfl 37 (.tmp 2) rfl w.heap.size rfl _ _ _ _ HH0.out huh rfl (HSH.out _) ?_)
  | fail)
 refine (small_calls h _).mono ?_
 rintro e w1 ⟨⟨b, rfl, hb⟩, hb1⟩
 have HH1 := Lib.hid ((hb1.block _ (lt_of_block HH0.out)).trans HH0.out)
 have B1 := Lib.hid (B0.out.trans (hb1.mono B0.out.size))
 clear hb1
 cases b with
 | false =>
  clear hb
  go_wp2_with fail
  refine (HAW.out _).mono ?_
  rintro e w2 ⟨rfl, hb2⟩
  have HB2 := Lib.hid (B1.out.trans (hb2.mono B1.out.size))
  clear hb2
  go_wp2_with fail
  go_ret
  exact ⟨rfl, HB2.out⟩
 | true =>
  have HSM := Lib.hid (hb.1 rfl)
  clear hb
  have HT1 : Hid (HT h L w1) := Lib.hid (HIN.out.ht HSM.out B1.out)
  obtain ⟨m, hm⟩ : ∃ n, h.n 4 = n := ⟨_, rfl⟩
  obtain ⟨m6, hm6⟩ : ∃ n, h.n 6 = n := ⟨_, rfl⟩
  have HM : Hid (m = (L 4).length) := Lib.hid (by rw [← hm]; exact (HT1.out 4 (by decide)).1)
  have HM6 : Hid (m6 = (L 6).length) := Lib.hid (by rw [← hm6]; exact (HT1.out 6 (by decide)).1)
  have hm9 : m ≤ 1000000 := by rw [← hm]; exact (HT1.out 4 (by decide)).2.1
  have hm69 : m6 ≤ 1000000 := by rw [← hm6]; exact (HT1.out 6 (by decide)).2.1
  have HHX : Hid (∀ X, Below w1.heap.size w1 X → X.cell? ⟨w.heap.size, 4, none⟩ = some (.slice (h.A 4) m (h.c 4)) ∧ X.cell? ⟨w.heap.size, 6, none⟩ = some (.slice (h.A 6) m6 (h.c 6)) ∧ w.heap.size < X.heap.size) := Lib.hid (fun X hX => by
   have q := (hX.block _ (lt_of_block HH1.out)).trans HH1.out
   exact ⟨by rw [cell_of_block q, ← hm]; rfl, by rw [cell_of_block q, ← hm6]; rfl, lt_of_block q⟩)
  clear hm hm6
  go_wp2_with fail
  go_loopw [5] (fun i wr => ∃ W : World, W = wr ∧ ∃ k : Nat, k ≤ m ∧ i = .int .i64 (k : Int) ∧ Hid (Below w1.heap.size w1 wr)) (fun i _ => m - (intOf i).toNat)
  case atStart => exact ⟨_, rfl, 0, by omega, rfl, Lib.hid (Below.refl _ _)⟩
  case round =>
   obtain ⟨wr, rfl, k, hk, rfl, hw⟩ := hrel
   obtain ⟨d4, _, dlt⟩ := HHX.out _ hw.out
   by_cases hlt : k < m
   · have hkl : k < (L 4).length := by rw [← HM.out]; exact hlt
     have HKM := Lib.hid hlt
     as_aux_lemma =>
      obtain ⟨b, off, hA, hb, hr⟩ := quant_at HT1.out hkl
      have HQR := Lib.hid hr
      have HBL := Lib.hid hb
      have HAA := Lib.hid hA
      rw [hA] at d4
      clear hr hb hA hkl
      go_wp2_with fail
      clear d4 dlt
      go_loopw [6] (fun j wx => ∃ W : World, W = wx ∧ ∃ q : Nat, q ≤ k ∧ j = .int .i64 (q : Int) ∧ Hid (Below w1.heap.size w1 wx)) (fun j _ => k - (intOf j).toNat)
      case atStart => exact ⟨_, rfl, 0, by omega, rfl, hw⟩
      case round =>
       obtain ⟨wx, rfl, q, hq, rfl, hx⟩ := hrel
       by_cases hqt : q < k
       · have hql : q < (L 4).length := by have := HM.out; have := HKM.out; omega
         have hkl : k < (L 4).length := by have := HM.out; have := HKM.out; omega
         have ra := HQR.out q hql
         have rb := HQR.out k hkl
         obtain ⟨⟨fb, fi, fl, fs, fq, fh⟩, hy⟩ : ∃ z, qnOf (L 4)[q] = z := ⟨_, rfl⟩
         obtain ⟨⟨zb, zi, zl, zs, zq, zh⟩, hz⟩ : ∃ z, qnOf (L 4)[k] = z := ⟨_, rfl⟩
         rw [hy] at ra
         rw [hz] at rb
         have hxb : b < wx.heap.size := Nat.lt_of_lt_of_le HBL.out hx.out.size
         have RA : Hid (∀ X : BW wx, X.W.rangeAt b (off + q * 6) [.string fb, .string fi, .string fl, .int .i64 fs]) := Lib.hid (fun X i v hv => (rangeAt_below ra HBL.out (hx.out.trans (X.h.mono hx.out.size))) i v (by unfold Qn.cells; have hi : i < 4 := (List.getElem?_eq_some_iff.1 hv).1; match i, hi with | 0, _ | 1, _ | 2, _ | 3, _ => exact hv))
         have RB : Hid (∀ X : BW wx, X.W.rangeAt b (off + k * 6) [.string zb, .string zi, .string zl, .int .i64 zs]) := Lib.hid (fun X i v hv => (rangeAt_below rb HBL.out (hx.out.trans (X.h.mono hx.out.size))) i v (by unfold Qn.cells; have hi : i < 4 := (List.getElem?_eq_some_iff.1 hv).1; match i, hi with | 0, _ | 1, _ | 2, _ | 3, _ => exact hv))
         have RHH : Hid (∀ X : BW wx, X.W.cell? ⟨w.heap.size, 4, none⟩ = some (.slice (some ⟨b, off, none⟩) m (h.c 4)) ∧ w.heap.size < X.W.heap.size) := Lib.hid (fun X => by have := HHX.out _ (hx.out.trans (X.h.mono hx.out.size)); rw [HAA.out] at this; exact ⟨this.1, this.2.2⟩)
         have h1 : (0 : Int) ≤ (q : Int) := by omega
         have h2 : (q : Int) < (m : Int) := by have := HKM.out; omega
         have h3 : (0 : Int) ≤ (k : Int) := by omega
         have h4 : (k : Int) < (m : Int) := by have := HKM.out; omega
         clear ra rb hy hz hxb hql hkl
         go_wp2_with fail
         by_cases he : ([.string fb, .string fi, .string fl, .int .i64 fs] : List Value) = [.string zb, .string zi, .string zl, .int .i64 zs]
         · have heq : ∀ W, (binOp .eql 60 (.agg #[.string fb, .string fi, .string fl, .int .i64 fs]) (.agg #[.string zb, .string zi, .string zl, .int .i64 zs])).run Tryz.prog W = .ok (.bool true) W := fun W => by
            obtain ⟨c, e1, e2⟩ := eql_struct (P := Tryz.prog) eqKey (by decide) [.string fb, .string fi, .string fl, .int .i64 fs] [.string zb, .string zi, .string zl, .int .i64 zs] W ⟨⟨_, rfl⟩, ⟨_, rfl⟩, ⟨_, rfl⟩, ⟨_, rfl⟩, trivial⟩ ⟨⟨_, rfl⟩, ⟨_, rfl⟩, ⟨_, rfl⟩, ⟨_, rfl⟩, trivial⟩
            rw [show c = true from e2.2 he] at e1
            exact e1
           clear he
           have x4 : ∀ X : BW wx, X.W.cell? ⟨w.heap.size, 4, none⟩ = some (.slice (some ⟨b, off, none⟩) m (h.c 4)) := fun X => (RHH.out X).1
           refine wp_grow wx (by kernel_rfl) (by kernel_rfl) (Below.refl _ _) ?_
           simp only []
           iterate 5 go_big_quiet_step (fail)
           refine BigFrame.wpQuiet_want (by kernel_rfl) (fun K hK => quiet_load_mid 60 (.tmp 45) rfl b (off + q * 6) rfl [.string fb, .string fi, .string fl, .int .i64 fs] _ (fun W ⟨X, hX⟩ => by rw [hX]; exact RA.out X) huKY rfl HSKY.out (hK _ ?_))
           simp only [ax]
           iterate 5 go_big_quiet_step (fail)
           refine BigFrame.wpQuiet_want (by kernel_rfl) (fun K hK => quiet_load_mid 60 (.tmp 51) rfl b (off + k * 6) rfl [.string zb, .string zi, .string zl, .int .i64 zs] _ (fun W ⟨X, hX⟩ => by rw [hX]; exact RB.out X) huKY rfl HSKY.out (hK _ ?_))
           simp only [ax]
           go_big_quiet_step (fail)
           refine wpQuiet_nil ?_
           intro X
           clear x4 heq
           obtain ⟨w2, hb2⟩ := X
           simp only []
           have H2 := Lib.hid (hx.out.trans (hb2.mono hx.out.size))
           clear hb2 RA RB RHH
           go_wp2_with fail
           refine (HAW.out _).mono ?_
           rintro e w3 ⟨rfl, hb3⟩
           have HB3 := Lib.hid (B1.out.trans ((H2.out.trans (hb3.mono H2.out.size)).mono B1.out.size))
           clear hb3
           go_wp2_with fail
           go_ret
           exact ⟨rfl, HB3.out⟩
         · have heq : ∀ W, (binOp .eql 60 (.agg #[.string fb, .string fi, .string fl, .int .i64 fs]) (.agg #[.string zb, .string zi, .string zl, .int .i64 zs])).run Tryz.prog W = .ok (.bool false) W := fun W => by
            obtain ⟨c, e1, e2⟩ := eql_struct (P := Tryz.prog) eqKey (by decide) [.string fb, .string fi, .string fl, .int .i64 fs] [.string zb, .string zi, .string zl, .int .i64 zs] W ⟨⟨_, rfl⟩, ⟨_, rfl⟩, ⟨_, rfl⟩, ⟨_, rfl⟩, trivial⟩ ⟨⟨_, rfl⟩, ⟨_, rfl⟩, ⟨_, rfl⟩, ⟨_, rfl⟩, trivial⟩
            rw [show c = false from by cases c with | false => rfl | true => exact absurd (e2.1 rfl) he] at e1
            exact e1
           clear he
           have x4 : ∀ X : BW wx, X.W.cell? ⟨w.heap.size, 4, none⟩ = some (.slice (some ⟨b, off, none⟩) m (h.c 4)) := fun X => (RHH.out X).1
           refine wp_grow wx (by kernel_rfl) (by kernel_rfl) (Below.refl _ _) ?_
           simp only []
           iterate 5 go_big_quiet_step (fail)
           refine BigFrame.wpQuiet_want (by kernel_rfl) (fun K hK => quiet_load_mid 60 (.tmp 45) rfl b (off + q * 6) rfl [.string fb, .string fi, .string fl, .int .i64 fs] _ (fun W ⟨X, hX⟩ => by rw [hX]; exact RA.out X) huKY rfl HSKY.out (hK _ ?_))
           simp only [ax]
           iterate 5 go_big_quiet_step (fail)
           refine BigFrame.wpQuiet_want (by kernel_rfl) (fun K hK => quiet_load_mid 60 (.tmp 51) rfl b (off + k * 6) rfl [.string zb, .string zi, .string zl, .int .i64 zs] _ (fun W ⟨X, hX⟩ => by rw [hX]; exact RB.out X) huKY rfl HSKY.out (hK _ ?_))
           simp only [ax]
           go_big_quiet_step (fail)
           refine wpQuiet_nil ?_
           intro X
           clear x4 heq
           obtain ⟨w2, hb2⟩ := X
           simp only []
           have H2 := Lib.hid (hx.out.trans (hb2.mono hx.out.size))
           clear hb2 RA RB RHH
           go_wp2_with fail
           go_roundw
           case rel => exact ⟨_, rfl, q + 1, by omega, by go_num, H2⟩
           case measure => simp [intOf]; omega
       · go_wp2_with fail
         go_roundw
         case rel => exact ⟨_, rfl, k + 1, by omega, by go_num, hx⟩
         case measure => simp [intOf]; omega
   · go_wp2_with fail
     clear d4 dlt
     go_loopw [7] (fun i wx => ∃ W : World, W = wx ∧ ∃ k : Nat, k ≤ m6 ∧ i = .int .i64 (k : Int) ∧ Hid (∀ j (hj : j < (L 6).length), j < k → ∀ i, i < 8 → LnOk (lnAt (nlines (L 6)[j]) i)) ∧ Hid (Below w1.heap.size w1 wx)) (fun i _ => m6 - (intOf i).toNat)
     case atStart => exact ⟨_, rfl, 0, by omega, rfl, Lib.hid (fun j hj h => by omega), hw⟩
     case round =>
      obtain ⟨wx, rfl, t, ht, rfl, hok, hx⟩ := hrel
      obtain ⟨_, d6, dlt⟩ := HHX.out _ hx.out
      by_cases htl : t < m6
      · have htl6 : t < (L 6).length := by rw [← HM6.out]; exact htl
        have HTM := Lib.hid htl
        as_aux_lemma =>
         obtain ⟨b, off, hA, hb, hr⟩ := notice_at HT1.out htl6
         have HQR := Lib.hid hr
         have HBL := Lib.hid hb
         have HAA := Lib.hid hA
         have HT6 := Lib.hid htl6
         clear hr hb hA
         go_wp2_with fail
         clear d6 dlt
         go_loopw [8] (fun j wy => ∃ W : World, W = wy ∧ ∃ q : Nat, q ≤ 8 ∧ j = .int .i64 (q : Int) ∧ Hid (∀ i, i < q → LnOk (lnAt (nlines ((L 6)[t]'htl6)) i)) ∧ Hid (Below w1.heap.size w1 wy)) (fun j _ => 8 - (intOf j).toNat)
         case atStart => exact ⟨_, rfl, 0, by omega, rfl, Lib.hid (fun i hi => by omega), hx⟩
         case round =>
          obtain ⟨wy, rfl, q, hq, rfl, hlo, hy⟩ := hrel
          obtain ⟨_, d6, dlt⟩ := HHX.out _ hy.out
          rw [HAA.out] at d6
          by_cases hqt : q < 8
          · have r1 := rangeAt_below (HQR.out q hqt) HBL.out hy.out
            obtain ⟨⟨yi, ya, yg, yb, yp, yo⟩, hz⟩ : ∃ z, lnAt (nlines ((L 6)[t]'htl6)) q = z := ⟨_, rfl⟩
            rw [hz] at r1
            have HZ := Lib.hid hz
            have HQ8 := Lib.hid hqt
            have HRE : Hid (wy.rangeAt b (off + t * 51 + 2 + q * 6) [.string yi, .int .i64 ya, .int .i64 yg, .int .i64 yb, .int .i64 yp, .int .i64 yo]) := Lib.hid r1
            have h1 : (0 : Int) ≤ (q : Int) := by omega
            have h2 : (q : Int) < 8 := by omega
            have h3 : (0 : Int) ≤ (t : Int) := by omega
            have h4 : (t : Int) < (m6 : Int) := by have := HTM.out; omega
            have hyb : b < wy.heap.size := Nat.lt_of_lt_of_le HBL.out hy.out.size
            have HBY := Lib.hid (hy.out.alloc hy.out.size (.cells #[.string yi, .int .i64 ya, .int .i64 yg, .int .i64 yb, .int .i64 yp, .int .i64 yo] 39))
            clear r1 hz
            by_cases q1 : ya < 0
            ·
             go_wp2_with (first
              | (refine wpList_load_mid rfl 39 (.tmp 72) rfl b (off + t * 51 + 2 + q * 6) rfl [.string yi, .int .i64 ya, .int .i64 yg, .int .i64 yb, .int .i64 yp, .int .i64 yo] _ HRE.out huLI rfl HSLI.out ?_)
              | fail)
             refine (HAW.out _).mono ?_
             rintro e w3 ⟨rfl, hb3⟩
             have HB3 := Lib.hid (B1.out.trans ((HBY.out.trans (hb3.mono HBY.out.size)).mono B1.out.size))
             clear hb3
             go_wp2_with fail
             go_ret
             exact ⟨rfl, HB3.out⟩
            ·
             by_cases q2 : 1099511627776 < ya
             ·
              go_wp2_with (first
               | (refine wpList_load_mid rfl 39 (.tmp 72) rfl b (off + t * 51 + 2 + q * 6) rfl [.string yi, .int .i64 ya, .int .i64 yg, .int .i64 yb, .int .i64 yp, .int .i64 yo] _ HRE.out huLI rfl HSLI.out ?_)
               | fail)
              refine (HAW.out _).mono ?_
              rintro e w3 ⟨rfl, hb3⟩
              have HB3 := Lib.hid (B1.out.trans ((HBY.out.trans (hb3.mono HBY.out.size)).mono B1.out.size))
              clear hb3
              go_wp2_with fail
              go_ret
              exact ⟨rfl, HB3.out⟩
             ·
              by_cases q3 : yg < 0
              ·
               go_wp2_with (first
                | (refine wpList_load_mid rfl 39 (.tmp 72) rfl b (off + t * 51 + 2 + q * 6) rfl [.string yi, .int .i64 ya, .int .i64 yg, .int .i64 yb, .int .i64 yp, .int .i64 yo] _ HRE.out huLI rfl HSLI.out ?_)
                | fail)
               refine (HAW.out _).mono ?_
               rintro e w3 ⟨rfl, hb3⟩
               have HB3 := Lib.hid (B1.out.trans ((HBY.out.trans (hb3.mono HBY.out.size)).mono B1.out.size))
               clear hb3
               go_wp2_with fail
               go_ret
               exact ⟨rfl, HB3.out⟩
              ·
               by_cases q4 : 1099511627776 < yg
               ·
                go_wp2_with (first
                 | (refine wpList_load_mid rfl 39 (.tmp 72) rfl b (off + t * 51 + 2 + q * 6) rfl [.string yi, .int .i64 ya, .int .i64 yg, .int .i64 yb, .int .i64 yp, .int .i64 yo] _ HRE.out huLI rfl HSLI.out ?_)
                 | fail)
                refine (HAW.out _).mono ?_
                rintro e w3 ⟨rfl, hb3⟩
                have HB3 := Lib.hid (B1.out.trans ((HBY.out.trans (hb3.mono HBY.out.size)).mono B1.out.size))
                clear hb3
                go_wp2_with fail
                go_ret
                exact ⟨rfl, HB3.out⟩
               ·
                go_wp2_with (first
                 | (refine wpList_load_mid rfl 39 (.tmp 72) rfl b (off + t * 51 + 2 + q * 6) rfl [.string yi, .int .i64 ya, .int .i64 yg, .int .i64 yb, .int .i64 yp, .int .i64 yo] _ HRE.out huLI rfl HSLI.out ?_)
                 | fail)
                go_roundw
                case rel => exact ⟨_, rfl, q + 1, by omega, by go_num, Lib.hid (fun i hi => by
                 by_cases e : i = q
                 · subst e; rw [HZ.out]; exact ⟨by show 0 ≤ ya; omega, by show ya ≤ _; omega, by show 0 ≤ yg; omega, by show yg ≤ _; omega⟩
                 · exact hlo.out i (by omega)), HBY⟩
                case measure => simp [intOf]; omega
          · have hq8 : q = 8 := by omega
            subst hq8
            go_wp2_with fail
            go_roundw
            case rel => exact ⟨_, rfl, t + 1, by omega, by go_num, Lib.hid (fun j hj hjt i hi => by
             by_cases e : j = t
             · subst e; exact hlo.out i hi
             · exact hok.out j hj (by omega) i hi), hy⟩
            case measure => simp [intOf]; omega
      · have HNK : Hid (NotesOk (L 6)) := Lib.hid (fun X hX i hi => by
         obtain ⟨j, hj, rfl⟩ := List.mem_iff_getElem.1 hX
         exact hok.out j hj (by have := HM6.out; omega) i hi)
        clear hok
        go_wp2_with fail
        clear d6 dlt
        have HC0 : Hid (CInv w h L 0 wx) := Lib.hid ⟨⟨HT1.out.below hx.out, HIN.out.c, (HIN.out.ht HSM.out (Below.refl _ _)).offge (Nat.le_refl _), (hx.out.block _ (lt_of_block HH1.out)).trans HH1.out, B1.out.trans (hx.out.mono B1.out.size), by have := hx.out.size; have := lt_of_block HH1.out; omega⟩, by have := HSM.out 4 (by decide); have := cap_le 4 (by decide); have := (HT1.out 4 (by decide)).1; omega, by have := HSM.out 6 (by decide); have := cap_le 6 (by decide); have := (HT1.out 6 (by decide)).1; omega, by have := HSM.out 13 (by decide); have := cap_le 13 (by decide); have := (HT1.out 13 (by decide)).1; omega, HNK.out⟩
        have huCA := Tryz.underlying54
        have HSCA : Hid ((Tryz.prog.info? 54).map (·.size) = some 6) := Lib.hid (by kernel_rfl)
        have huTO := Tryz.underlying75
        have HSTO : Hid ((Tryz.prog.info? 75).map (·.size) = some 6) := Lib.hid (by kernel_rfl)
        have huNO := Tryz.underlying42
        have HSNO : Hid ((Tryz.prog.info? 42).map (·.size) = some 51) := Lib.hid (by kernel_rfl)
        clear hm9 hm69 hw hx HH0 HH1 B0 B1 HT1 HIN HM HM6 HNK HHX
        go_loopw [10] (fun i wr => ∃ W : World, W = wr ∧ ∃ (k : Nat) (a : Hs) (L : Nat → List (List Value)), k ≤ n1 ∧ k ≤ 20 ∧ i = .int .i64 (k : Int) ∧ Hid (CInv w a L k wr)) (fun i _ => n1 - (intOf i).toNat)
        case atStart => exact ⟨_, rfl, 0, h, L, by omega, by omega, rfl, HC0⟩
        case round =>
         clear HC0 HSM
         obtain ⟨w50, rfl, k, a, L, hk, hk2, rfl, HI50⟩ := hrel
         have hcase : (k < n1 ∧ k < 20) ∨ (k < n1 ∧ ¬ k < 20) ∨ ¬ k < n1 := by omega
         rcases hcase with ⟨hlt, hlt2⟩ | ⟨hlt, hlt2⟩ | hlt
         case inr.inl =>
          as_aux_lemma =>
           go_wp2_with fail
           refine (HAW.out _).mono ?_
           rintro e w3 ⟨rfl, hb3⟩
           have HB3 := Lib.hid (HI50.out.b.bel.trans (hb3.mono HI50.out.b.bel.size))
           clear hb3
           go_wp2_with fail
           go_ret
           exact ⟨rfl, HB3.out⟩
         case inr.inr =>
          as_aux_lemma =>
           go_wp2_with fail
           refine (HAW.out _).mono ?_
           rintro e w3 ⟨rfl, hb3⟩
           have HB3 := Lib.hid (HI50.out.b.bel.trans (hb3.mono HI50.out.b.bel.size))
           clear hb3
           go_wp2_with fail
           go_ret
           exact ⟨rfl, HB3.out⟩
         have hkl : k < LA.length := by rw [← HLA.out.2.1]; exact hlt
         obtain ⟨b, off, hA1, hb, hc⟩ := HLA.out.2.2.2.2.2.2.thing HLA.out.2.2.2.2.1 (by decide) hkl
         have fe := HLA.out.2.2.2.2.1 _ (List.getElem_mem hkl)
         have me := HLA.out.2.2.2.2.2.1 _ (List.getElem_mem hkl)
         have r0 := hc k hkl
         rw [show kCame.length = 6 from rfl] at r0
         have hx := cm_cells fe
         obtain ⟨⟨cn, ci, cu, n, cl, cd⟩, hz⟩ : ∃ z, cmOf LA[k] = z := ⟨_, rfl⟩
         rw [hz] at hx
         rw [hx] at r0 me
         have HWN : Hid (Wf n) := Lib.hid (wf_of (me (.int .i64 n) (by simp [Cm.cells])))
         have HLX : Hid (∀ W, Below w.heap.size w W → W.rangeAt b (off + k * 6) [.string cn, .string ci, .string cu, .int .i64 n, .string cl, .string cd]) := Lib.hid (fun W hW => rangeAt_below r0 hb hW)
         subst hA1
         have h1 : (0 : Int) ≤ (k : Int) := by omega
         have h2 : (k : Int) < (n1 : Int) := by omega
         have h3 : (k : Int) < 20 := by omega
         have h4 : (k : Int) ≤ 9223372036854775806 := by omega
         clear hc r0 fe me hb hx hz hkl
         have HH50 : Hid (w50.heap[w.heap.size]? = some (.cells a.cells 37 (0, 0))) := Lib.hid HI50.out.b.box
         have B50 := Lib.hid HI50.out.b.bel
         obtain ⟨w51, hw51⟩ : ∃ w', w' = w50.alloc (.cells #[.string cn, .string ci, .string cu, .int .i64 n, .string cl, .string cd] 54) := ⟨_, rfl⟩
         have hb51 : Below w50.heap.size w50 w51 := by rw [hw51]; exact (Below.refl _ _).alloc (Nat.le_refl _) _
         have HH51 := Lib.hid ((hb51.block _ (lt_of_block HH50.out)).trans HH50.out)
         have B51 := Lib.hid (B50.out.trans (hb51.mono B50.out.size))
         have HI51 := Lib.hid (HI50.out.below hb51)
         have HX51 : Hid (w51.heap[w50.heap.size]? = some (.cells #[.string cn, .string ci, .string cu, .int .i64 n, .string cl, .string cd] 54 (0, 0))) := Lib.hid (by rw [hw51]; exact heap_alloc_new _ _)
         have HW51 := Lib.hid hw51
         clear hb51 hw51
         have HRX := Lib.hid (HLX.out _ B50.out)
         go_upto_region 24 with (first
          | (refine wpList_load_mid rfl 54 (.tmp 105) rfl b (off + k * 6) rfl [.string cn, .string ci, .string cu, .int .i64 n, .string cl, .string cd] _ HRX.out huCA rfl HSCA.out ?_)
          | fail)
         rw [← HW51.out]
         obtain ⟨er, her⟩ : ∃ z, recE L (Cm.mk cn ci cu n cl cd) = z := ⟨_, rfl⟩
         obtain ⟨M, hM⟩ : ∃ z, recM L (Cm.mk cn ci cu n cl cd) = z := ⟨_, rfl⟩
         have HER := Lib.hid her
         have HMM := Lib.hid hM
         have CRV : Hid (Calls Tryz.prog 20 #[.agg a.cells, .agg #[.string cn, .string ci, .string cu, .int .i64 n, .string cl, .string cd]] w51 (HouseP er M a L w51)) := Lib.hid (by
          have hn4 := (HI51.out.b.ht 4 (by decide)).1; have hn6 := (HI51.out.b.ht 6 (by decide)).1; have hn13 := (HI51.out.b.ht 13 (by decide)).1
          have g4 := HI51.out.n4; have g6 := HI51.out.n6; have g13 := HI51.out.n13
          have := HCO.out.recv a L (Cm.mk cn ci cu n cl cd) w51 HI51.out.b.ht (by omega) (by omega) (by omega) HI51.out.b.caps HWN.out
          rw [her, hM] at this
          exact this)
         clear her hM
         go_wp2_with (first
          | (refine wpList_load_row rfl 37 (.tmp 2) rfl w.heap.size rfl _ _ _ _ HH51.out huh rfl (HSH.out _) ?_)
          | (refine wpList_load_row rfl 54 (.tmp 11) rfl w50.heap.size rfl _ _ _ _ HX51.out huCA rfl HSCA.out ?_)
          | fail)
         refine CRV.out.mono ?_
         intro e w52 hP
         obtain ⟨hb52, p, rfl, htp, hzp, hcp, hop⟩ := hP
         have HH52 := Lib.hid ((hb52.block _ (lt_of_block HH51.out)).trans HH51.out)
         have HX52 := Lib.hid ((hb52.block _ (lt_of_block HX51.out)).trans HX51.out)
         have B52 := Lib.hid (B51.out.trans (hb52.mono B51.out.size))
         have HI52 := Lib.hid (HI51.out.below hb52)
         have HTP52 := Lib.hid htp
         have HCP := Lib.hid (hcp HI51.out.b.caps)
         have HOP := Lib.hid (hop w.heap.size HI51.out.b.off (by have := HI51.out.b.sz; omega))
         clear hb52 htp hzp hcp hop
         have HQ53 : Hid ((w52.alloc (.cells #[.slice none 0 0, .slice none 0 0, .slice none 0 0, .slice none 0 0, .slice none 0 0, .slice none 0 0, .slice none 0 0, .slice none 0 0, .slice none 0 0, .slice none 0 0, .slice none 0 0, .slice none 0 0, .slice none 0 0, .slice none 0 0, .int .i64 0] 37)).heap[w52.heap.size]? = some (.cells #[.slice none 0 0, .slice none 0 0, .slice none 0 0, .slice none 0 0, .slice none 0 0, .slice none 0 0, .slice none 0 0, .slice none 0 0, .slice none 0 0, .slice none 0 0, .slice none 0 0, .slice none 0 0, .slice none 0 0, .slice none 0 0, .int .i64 0] 37 (0, 0))) := Lib.hid (heap_alloc_new _ _)
         obtain ⟨w53, hw53⟩ : ∃ w', w' = (w52.alloc (.cells #[.slice none 0 0, .slice none 0 0, .slice none 0 0, .slice none 0 0, .slice none 0 0, .slice none 0 0, .slice none 0 0, .slice none 0 0, .slice none 0 0, .slice none 0 0, .slice none 0 0, .slice none 0 0, .slice none 0 0, .slice none 0 0, .int .i64 0] 37)).setRow w52.heap.size p.cells := ⟨_, rfl⟩
         have hb53 : Below w52.heap.size w52 w53 := by rw [hw53]; exact setRow_below ((Below.refl _ _).alloc (Nat.le_refl _) _) (Nat.le_refl _) _
         have HH53 := Lib.hid ((hb53.block _ (lt_of_block HH52.out)).trans HH52.out)
         have HX53 := Lib.hid ((hb53.block _ (lt_of_block HX52.out)).trans HX52.out)
         have B53 := Lib.hid (B52.out.trans (hb53.mono B52.out.size))
         have HI53 := Lib.hid (HI52.out.below hb53)
         have HTP53 := Lib.hid (HTP52.out.below hb53)
         have HG53 : Hid (w53.heap[w52.heap.size]? = some (.cells p.cells 37 (0, 0))) := Lib.hid (by rw [hw53]; exact setRow_heap _ _ _ _ _ _ HQ53.out)
         have HW53 := Lib.hid hw53
         clear hb53 hw53
         go_upto_region 25 with (first | (refine wpList_store_row rfl 37 (.tmp 12) (.tmp 111) rfl w52.heap.size p.cells rfl rfl _ _ HQ53.out (HSH.out _) rfl (H1C.out _) ?_; rw [← HW53.out]) | fail)
         by_cases he0 : er = 0
         case neg =>
          have hk0 : ((er : Int) != 0) = true := by simpa using he0
          clear he0
          as_aux_lemma =>
           go_wp2_with fail
           go_roundw
           case rel => exact ⟨_, rfl, k + 1, a, L, by omega, by omega, by go_num, Lib.hid HI53.out.next⟩
           case measure => simp [intOf]; omega
         subst he0
         rw [setX_ok rfl] at HTP52 HTP53 HOP
         have HCM : Hid (Came L (Cm.mk cn ci cu n cl cd)) := Lib.hid (came_of HER.out)
         have hcn := came_notice (HI50.out.b.ht 6 (by decide)).2.2.1 HI50.out.ok HCM.out
         rw [HMM.out] at hcn
         obtain ⟨NX, hNX⟩ : ∃ z, recN L (Cm.mk cn ci cu n cl cd) = z := ⟨_, rfl⟩
         rw [hNX] at hcn
         have HCN := Lib.hid hcn
         have HXF : Hid (Fits kNotice NX) := Lib.hid hcn.2.2.1
         have HNM : Hid (NotesOk (M 6)) := Lib.hid hcn.2.2.2.1
         have HLB : Hid (∀ k, k < 8 → forB (nlines NX) ci k = true → (∀ j, j < k → forB (nlines NX) ci j = false) → (lnAt (nlines NX) k).got ≤ (lnAt (nlines NX) k).asked) := Lib.hid hcn.2.2.2.2
         clear hcn hNX
         obtain ⟨q, hq⟩ : ∃ q, recQ L (Cm.mk cn ci cu n cl cd) = q := ⟨_, rfl⟩
         have HQQ := Lib.hid hq
         have hq1 : 1 ≤ q := by rw [← hq]; exact HCM.out.lo
         have hq2 : q ≤ 1000000000 := by rw [← hq]; exact HCM.out.hi
         obtain ⟨t, ht⟩ : ∃ t, tlOf (gotT (L 13) ci cl) = t := ⟨_, rfl⟩
         have hgt : gotT (L 13) ci cl = t.cells := by rw [← ht]; exact tl_cells (gotT_fits (HI50.out.b.ht 13 (by decide)).2.2.1 _ _)
         have hky := gotT_key (HI50.out.b.ht 13 (by decide)).2.2.1 ci cl
         rw [ht] at hky
         have hgm : gotT (M 13) ci cl = (t.add q).cells := by
          have := came_total (x := (Cm.mk cn ci cu n cl cd)) (HI50.out.b.ht 13 (by decide)).2.2.1 (by simp only []; rw [ht]; exact hky)
          rw [HMM.out] at this
          rw [this]; unfold recT; simp only []; rw [ht, hq]
         obtain ⟨bw, hbw⟩ : ∃ z, (atL (L 13) ci cl).isSome = z := ⟨_, rfl⟩
         obtain ⟨bn, hbn⟩ : ∃ z, (atL (M 13) ci cl).isSome = z := ⟨_, rfl⟩
         have CF : Hid (∀ W, HT p M W → Calls Tryz.prog 26 #[.agg p.cells, .string cn] W fun e w' => e = .returned (.tuple #[.agg NX.toArray, .bool true]) ∧ Below W.heap.size W w') := Lib.hid (fun W hW => by have := rfindNotice p (M 6) cn W (hW 6 (by decide)).1 (hW 6 (by decide)).2.1 (hW 6 (by decide)).2.2.1 (hW 6 (by decide)).2.2.2; rw [HCN.out.2.1, HCN.out.1] at this; exact this)
         have CW : Hid (∀ W, HT a L W → Calls Tryz.prog 27 #[.agg a.cells, .string ci, .string cl] W fun e w' => e = .returned (.tuple #[.agg #[.string t.item, .string t.lot, .int .i64 t.inn, .int .i64 t.out, .int .i64 t.back, .int .i64 t.fixed], .bool bw]) ∧ Below W.heap.size W w') := Lib.hid (fun W hW => by have := rfindt_any a (L 13) ci cl W (hW 13 (by decide)).1 (hW 13 (by decide)).2.1 (hW 13 (by decide)).2.2.1 (hW 13 (by decide)).2.2.2; rw [hgt, hbw] at this; exact this)
         have CN : Hid (∀ W, HT p M W → Calls Tryz.prog 27 #[.agg p.cells, .string ci, .string cl] W fun e w' => e = .returned (.tuple #[.agg #[.string t.item, .string t.lot, .int .i64 (wrap64 (t.inn + q)), .int .i64 t.out, .int .i64 t.back, .int .i64 t.fixed], .bool bn]) ∧ Below W.heap.size W w') := Lib.hid (fun W hW => by have := rfindt_any p (M 13) ci cl W (hW 13 (by decide)).1 (hW 13 (by decide)).2.1 (hW 13 (by decide)).2.2.1 (hW 13 (by decide)).2.2.2; rw [hgm, hbn] at this; exact this)
         have CT1 : Hid (∀ W, HT p M W → Calls Tryz.prog 25 #[.agg p.cells, .string ci, .string cl] W fun e w' => e = .returned (.int .i64 (stockQ (M 4) ci cl)) ∧ Below W.heap.size W w') := Lib.hid (fun W hW => HCO.out.total p M ci cl W hW)
         have CT2 : Hid (∀ W, HT a L W → Calls Tryz.prog 25 #[.agg a.cells, .string ci, .string cl] W fun e w' => e = .returned (.int .i64 (stockQ (L 4) ci cl)) ∧ Below W.heap.size W w') := Lib.hid (fun W hW => HCO.out.total a L ci cl W hW)
         have HTT : Hid (wrap64 (stockQ (M 4) ci cl - stockQ (L 4) ci cl) = q) := Lib.hid (by have := came_tot HCM.out; rw [HMM.out, hq] at this; exact this)
         have HDD : Hid (wrap64 (sumP (dockK cd ci cl) (M 4) - sumP (dockK cd ci cl) (L 4)) = q) := Lib.hid (by have := came_dock HCM.out; rw [HMM.out, hq] at this; exact this)
         have HIQ : Hid (wrap64 (wrap64 (t.inn + q) - t.inn) = q) := Lib.hid (by have := came_in2 HCM.out t.inn; rwa [hq] at this)
         clear hq ht hgt hky hgm hbw hbn
         have x0 : w53.cell? ⟨w50.heap.size, 0, none⟩ = some (.string cn) := by rw [cell_of_block HX53.out]; rfl
         have xlt : w50.heap.size < w53.heap.size := lt_of_block HX53.out
         go_wp2_with (first
          | (refine wpList_load_row rfl 37 (.tmp 12) rfl w52.heap.size rfl _ _ _ _ HG53.out huh rfl (HSH.out _) ?_)
          | fail)
         refine (CF.out _ HTP53.out).mono ?_
         rintro e w54 ⟨rfl, hb54⟩
         have HH54 := Lib.hid ((hb54.block _ (lt_of_block HH53.out)).trans HH53.out)
         have HX54 := Lib.hid ((hb54.block _ (lt_of_block HX53.out)).trans HX53.out)
         have HG54 := Lib.hid ((hb54.block _ (lt_of_block HG53.out)).trans HG53.out)
         have B54 := Lib.hid (B53.out.trans (hb54.mono B53.out.size))
         have HI54 := Lib.hid (HI53.out.below hb54)
         have HTP54 := Lib.hid (HTP53.out.below hb54)
         clear hb54
         clear x0 xlt
         have HQ55 : Hid ((w54.alloc (.cells #[.string ⟨#[]⟩, .string ⟨#[]⟩, .string ⟨#[]⟩, .int .i64 0, .int .i64 0, .int .i64 0, .int .i64 0, .int .i64 0, .string ⟨#[]⟩, .int .i64 0, .int .i64 0, .int .i64 0, .int .i64 0, .int .i64 0, .string ⟨#[]⟩, .int .i64 0, .int .i64 0, .int .i64 0, .int .i64 0, .int .i64 0, .string ⟨#[]⟩, .int .i64 0, .int .i64 0, .int .i64 0, .int .i64 0, .int .i64 0, .string ⟨#[]⟩, .int .i64 0, .int .i64 0, .int .i64 0, .int .i64 0, .int .i64 0, .string ⟨#[]⟩, .int .i64 0, .int .i64 0, .int .i64 0, .int .i64 0, .int .i64 0, .string ⟨#[]⟩, .int .i64 0, .int .i64 0, .int .i64 0, .int .i64 0, .int .i64 0, .string ⟨#[]⟩, .int .i64 0, .int .i64 0, .int .i64 0, .int .i64 0, .int .i64 0, .bool false] 42)).heap[w54.heap.size]? = some (.cells #[.string ⟨#[]⟩, .string ⟨#[]⟩, .string ⟨#[]⟩, .int .i64 0, .int .i64 0, .int .i64 0, .int .i64 0, .int .i64 0, .string ⟨#[]⟩, .int .i64 0, .int .i64 0, .int .i64 0, .int .i64 0, .int .i64 0, .string ⟨#[]⟩, .int .i64 0, .int .i64 0, .int .i64 0, .int .i64 0, .int .i64 0, .string ⟨#[]⟩, .int .i64 0, .int .i64 0, .int .i64 0, .int .i64 0, .int .i64 0, .string ⟨#[]⟩, .int .i64 0, .int .i64 0, .int .i64 0, .int .i64 0, .int .i64 0, .string ⟨#[]⟩, .int .i64 0, .int .i64 0, .int .i64 0, .int .i64 0, .int .i64 0, .string ⟨#[]⟩, .int .i64 0, .int .i64 0, .int .i64 0, .int .i64 0, .int .i64 0, .string ⟨#[]⟩, .int .i64 0, .int .i64 0, .int .i64 0, .int .i64 0, .int .i64 0, .bool false] 42 (0, 0))) := Lib.hid (heap_alloc_new _ _)
         have HFHN := Lib.hid (HXF.out)
         have HLHN : Hid ((Tryz.prog.info? 42).map (·.size) = some NX.length) := Lib.hid (by rw [show (Tryz.prog.info? 42).map (·.size) = some 51 from by kernel_rfl, HFHN.out.length]; rfl)
         have HAHN : Hid ((Tryz.prog.info? 42).map (·.size) = some NX.toArray.size) := Lib.hid (by have := HLHN.out; rwa [← List.size_toArray] at this)
         have HZHN : Hid ((#[.string ⟨#[]⟩, .string ⟨#[]⟩, .string ⟨#[]⟩, .int .i64 0, .int .i64 0, .int .i64 0, .int .i64 0, .int .i64 0, .string ⟨#[]⟩, .int .i64 0, .int .i64 0, .int .i64 0, .int .i64 0, .int .i64 0, .string ⟨#[]⟩, .int .i64 0, .int .i64 0, .int .i64 0, .int .i64 0, .int .i64 0, .string ⟨#[]⟩, .int .i64 0, .int .i64 0, .int .i64 0, .int .i64 0, .int .i64 0, .string ⟨#[]⟩, .int .i64 0, .int .i64 0, .int .i64 0, .int .i64 0, .int .i64 0, .string ⟨#[]⟩, .int .i64 0, .int .i64 0, .int .i64 0, .int .i64 0, .int .i64 0, .string ⟨#[]⟩, .int .i64 0, .int .i64 0, .int .i64 0, .int .i64 0, .int .i64 0, .string ⟨#[]⟩, .int .i64 0, .int .i64 0, .int .i64 0, .int .i64 0, .int .i64 0, .bool false] : Array Value).size = NX.toArray.size) := Lib.hid (by rw [List.size_toArray, List.size_toArray, HFHN.out.length]; rfl)
         have HOHN : Hid (NX.toArray.all (·.oneCell') = true) := Lib.hid (all_oneCell_toArray (fits_one HFHN.out))
         obtain ⟨w55, hw55⟩ : ∃ w', w' = (w54.alloc (.cells #[.string ⟨#[]⟩, .string ⟨#[]⟩, .string ⟨#[]⟩, .int .i64 0, .int .i64 0, .int .i64 0, .int .i64 0, .int .i64 0, .string ⟨#[]⟩, .int .i64 0, .int .i64 0, .int .i64 0, .int .i64 0, .int .i64 0, .string ⟨#[]⟩, .int .i64 0, .int .i64 0, .int .i64 0, .int .i64 0, .int .i64 0, .string ⟨#[]⟩, .int .i64 0, .int .i64 0, .int .i64 0, .int .i64 0, .int .i64 0, .string ⟨#[]⟩, .int .i64 0, .int .i64 0, .int .i64 0, .int .i64 0, .int .i64 0, .string ⟨#[]⟩, .int .i64 0, .int .i64 0, .int .i64 0, .int .i64 0, .int .i64 0, .string ⟨#[]⟩, .int .i64 0, .int .i64 0, .int .i64 0, .int .i64 0, .int .i64 0, .string ⟨#[]⟩, .int .i64 0, .int .i64 0, .int .i64 0, .int .i64 0, .int .i64 0, .bool false] 42)).setRow w54.heap.size NX.toArray := ⟨_, rfl⟩
         have hb55 : Below w54.heap.size w54 w55 := by rw [hw55]; exact setRow_below ((Below.refl _ _).alloc (Nat.le_refl _) _) (Nat.le_refl _) _
         have HH55 := Lib.hid ((hb55.block _ (lt_of_block HH54.out)).trans HH54.out)
         have HX55 := Lib.hid ((hb55.block _ (lt_of_block HX54.out)).trans HX54.out)
         have HG55 := Lib.hid ((hb55.block _ (lt_of_block HG54.out)).trans HG54.out)
         have B55 := Lib.hid (B54.out.trans (hb55.mono B54.out.size))
         have HI55 := Lib.hid (HI54.out.below hb55)
         have HTP55 := Lib.hid (HTP54.out.below hb55)
         have HN55 : Hid (w55.heap[w54.heap.size]? = some (.cells NX.toArray 42 (0, 0))) := Lib.hid (by rw [hw55]; exact setRow_heap _ _ _ _ _ _ HQ55.out)
         have HW55 := Lib.hid hw55
         clear hb55 hw55
         go_upto_region 27 with (first | (refine wpList_store_row rfl 42 (.tmp 14) (.tmp 120) rfl w54.heap.size NX.toArray rfl rfl _ _ HQ55.out HAHN.out HZHN.out HOHN.out ?_; rw [← HW55.out]) | fail)
         have x1 : w55.cell? ⟨w50.heap.size, 1, none⟩ = some (.string ci) := by rw [cell_of_block HX55.out]; rfl
         have x4 : w55.cell? ⟨w50.heap.size, 4, none⟩ = some (.string cl) := by rw [cell_of_block HX55.out]; rfl
         have xlt : w50.heap.size < w55.heap.size := lt_of_block HX55.out
         go_wp2_with (first
          | (refine wpList_load_row rfl 37 (.tmp 2) rfl w.heap.size rfl _ _ _ _ HH55.out huh rfl (HSH.out _) ?_)
          | fail)
         refine (CW.out _ HI55.out.b.ht).mono ?_
         rintro e w56 ⟨rfl, hb56⟩
         have HH56 := Lib.hid ((hb56.block _ (lt_of_block HH55.out)).trans HH55.out)
         have HX56 := Lib.hid ((hb56.block _ (lt_of_block HX55.out)).trans HX55.out)
         have HG56 := Lib.hid ((hb56.block _ (lt_of_block HG55.out)).trans HG55.out)
         have HN56 := Lib.hid ((hb56.block _ (lt_of_block HN55.out)).trans HN55.out)
         have B56 := Lib.hid (B55.out.trans (hb56.mono B55.out.size))
         have HI56 := Lib.hid (HI55.out.below hb56)
         have HTP56 := Lib.hid (HTP55.out.below hb56)
         clear hb56
         clear x1 x4 xlt
         obtain ⟨w57, hw57⟩ : ∃ w', w' = w56.alloc (.cells #[.string t.item, .string t.lot, .int .i64 t.inn, .int .i64 t.out, .int .i64 t.back, .int .i64 t.fixed] 75) := ⟨_, rfl⟩
         have hb57 : Below w56.heap.size w56 w57 := by rw [hw57]; exact (Below.refl _ _).alloc (Nat.le_refl _) _
         have HH57 := Lib.hid ((hb57.block _ (lt_of_block HH56.out)).trans HH56.out)
         have HX57 := Lib.hid ((hb57.block _ (lt_of_block HX56.out)).trans HX56.out)
         have HG57 := Lib.hid ((hb57.block _ (lt_of_block HG56.out)).trans HG56.out)
         have HN57 := Lib.hid ((hb57.block _ (lt_of_block HN56.out)).trans HN56.out)
         have B57 := Lib.hid (B56.out.trans (hb57.mono B56.out.size))
         have HI57 := Lib.hid (HI56.out.below hb57)
         have HTP57 := Lib.hid (HTP56.out.below hb57)
         have HWA57 : Hid (w57.heap[w56.heap.size]? = some (.cells #[.string t.item, .string t.lot, .int .i64 t.inn, .int .i64 t.out, .int .i64 t.back, .int .i64 t.fixed] 75 (0, 0))) := Lib.hid (by rw [hw57]; exact heap_alloc_new _ _)
         have HW57 := Lib.hid hw57
         clear hb57 hw57
         go_upto_region 28 with fail
         rw [← HW57.out]
         have x1 : w57.cell? ⟨w50.heap.size, 1, none⟩ = some (.string ci) := by rw [cell_of_block HX57.out]; rfl
         have x4 : w57.cell? ⟨w50.heap.size, 4, none⟩ = some (.string cl) := by rw [cell_of_block HX57.out]; rfl
         have xlt : w50.heap.size < w57.heap.size := lt_of_block HX57.out
         go_wp2_with (first
          | (refine wpList_load_row rfl 37 (.tmp 12) rfl w52.heap.size rfl _ _ _ _ HG57.out huh rfl (HSH.out _) ?_)
          | fail)
         refine (CN.out _ HTP57.out).mono ?_
         rintro e w58 ⟨rfl, hb58⟩
         have HH58 := Lib.hid ((hb58.block _ (lt_of_block HH57.out)).trans HH57.out)
         have HX58 := Lib.hid ((hb58.block _ (lt_of_block HX57.out)).trans HX57.out)
         have HG58 := Lib.hid ((hb58.block _ (lt_of_block HG57.out)).trans HG57.out)
         have HN58 := Lib.hid ((hb58.block _ (lt_of_block HN57.out)).trans HN57.out)
         have HWA58 := Lib.hid ((hb58.block _ (lt_of_block HWA57.out)).trans HWA57.out)
         have B58 := Lib.hid (B57.out.trans (hb58.mono B57.out.size))
         have HI58 := Lib.hid (HI57.out.below hb58)
         have HTP58 := Lib.hid (HTP57.out.below hb58)
         clear hb58
         clear x1 x4 xlt
         obtain ⟨w59, hw59⟩ : ∃ w', w' = w58.alloc (.cells #[.string t.item, .string t.lot, .int .i64 (wrap64 (t.inn + q)), .int .i64 t.out, .int .i64 t.back, .int .i64 t.fixed] 75) := ⟨_, rfl⟩
         have hb59 : Below w58.heap.size w58 w59 := by rw [hw59]; exact (Below.refl _ _).alloc (Nat.le_refl _) _
         have HH59 := Lib.hid ((hb59.block _ (lt_of_block HH58.out)).trans HH58.out)
         have HX59 := Lib.hid ((hb59.block _ (lt_of_block HX58.out)).trans HX58.out)
         have HG59 := Lib.hid ((hb59.block _ (lt_of_block HG58.out)).trans HG58.out)
         have HN59 := Lib.hid ((hb59.block _ (lt_of_block HN58.out)).trans HN58.out)
         have HWA59 := Lib.hid ((hb59.block _ (lt_of_block HWA58.out)).trans HWA58.out)
         have B59 := Lib.hid (B58.out.trans (hb59.mono B58.out.size))
         have HI59 := Lib.hid (HI58.out.below hb59)
         have HTP59 := Lib.hid (HTP58.out.below hb59)
         have HNO59 : Hid (w59.heap[w58.heap.size]? = some (.cells #[.string t.item, .string t.lot, .int .i64 (wrap64 (t.inn + q)), .int .i64 t.out, .int .i64 t.back, .int .i64 t.fixed] 75 (0, 0))) := Lib.hid (by rw [hw59]; exact heap_alloc_new _ _)
         have HW59 := Lib.hid hw59
         clear hb59 hw59
         go_upto_region 29 with fail
         rw [← HW59.out]
         have y2 : w59.cell? ⟨w56.heap.size, 2, none⟩ = some (.int .i64 t.inn) := by rw [cell_of_block HWA59.out]; rfl
         have z2 : w59.cell? ⟨w58.heap.size, 2, none⟩ = some (.int .i64 (wrap64 (t.inn + q))) := by rw [cell_of_block HNO59.out]; rfl
         have y3 : w59.cell? ⟨w56.heap.size, 3, none⟩ = some (.int .i64 t.out) := by rw [cell_of_block HWA59.out]; rfl
         have z3 : w59.cell? ⟨w58.heap.size, 3, none⟩ = some (.int .i64 t.out) := by rw [cell_of_block HNO59.out]; rfl
         have y4 : w59.cell? ⟨w56.heap.size, 4, none⟩ = some (.int .i64 t.back) := by rw [cell_of_block HWA59.out]; rfl
         have z4 : w59.cell? ⟨w58.heap.size, 4, none⟩ = some (.int .i64 t.back) := by rw [cell_of_block HNO59.out]; rfl
         have y5 : w59.cell? ⟨w56.heap.size, 5, none⟩ = some (.int .i64 t.fixed) := by rw [cell_of_block HWA59.out]; rfl
         have z5 : w59.cell? ⟨w58.heap.size, 5, none⟩ = some (.int .i64 t.fixed) := by rw [cell_of_block HNO59.out]; rfl
         have ylt : w56.heap.size < w59.heap.size := lt_of_block HWA59.out
         have zlt : w58.heap.size < w59.heap.size := lt_of_block HNO59.out
         have hiq := HIQ.out
         have hq0 : ¬ q < 1 := by omega
         go_upto_block 10 with fail
         clear y2 y3 y4 y5 z2 z3 z4 z5 ylt zlt hiq
         rw [HIQ.out]
         have HNL : Hid (∀ W, Below w59.heap.size w59 W → W.rangeAt w54.heap.size 2 (nlines NX) ∧ w54.heap.size < W.heap.size) := Lib.hid (fun W hW => notice_box2 ((hW.block _ (lt_of_block HN59.out)).trans HN59.out) HXF.out)
         have HLF : Hid (Fits kLine8 (nlines NX)) := Lib.hid (notice_parts HXF.out).2.2.1
         have HXB : Hid (∀ W, Below w59.heap.size w59 W → W.cell? ⟨w50.heap.size, 1, none⟩ = some (.string ci) ∧ W.cell? ⟨w50.heap.size, 4, none⟩ = some (.string cl) ∧ W.cell? ⟨w50.heap.size, 5, none⟩ = some (.string cd) ∧ w50.heap.size < W.heap.size) := Lib.hid (fun W hW => by
          have q := (hW.block _ (lt_of_block HX59.out)).trans HX59.out
          exact ⟨by rw [cell_of_block q]; rfl, by rw [cell_of_block q]; rfl, by rw [cell_of_block q]; rfl, lt_of_block q⟩)
         go_cut [21] from 172 to 203 (fun _ wc => ∃ W : World, W = wc ∧ Hid (Below w59.heap.size w59 W))
         case first =>
          as_aux_lemma =>
           go_wp2_with fail
           go_loopw [21] (fun i wx => ∃ W : World, W = wx ∧ ∃ j : Nat, j ≤ 8 ∧ i = .int .i64 (j : Int) ∧ Hid (∀ e, e < j → forB (nlines NX) ci e = false) ∧ Hid (Below w59.heap.size w59 wx)) (fun i _ => 8 - (intOf i).toNat)
           case atStart => exact ⟨_, rfl, 0, by omega, rfl, Lib.hid (fun e he => by omega), Lib.hid (Below.refl _ _)⟩
           case round =>
            obtain ⟨wx, rfl, j, hj, rfl, hno, hx⟩ := hrel
            by_cases hj8 : j < 8
            · obtain ⟨⟨yi, ya, yg, yb, yp, yo⟩, hz⟩ : ∃ z, lnAt (nlines NX) j = z := ⟨_, rfl⟩
              have r1 := line_at HLF.out (HNL.out _ hx.out).1 hj8
              rw [hz] at r1
              have ylt := (HNL.out _ hx.out).2
              obtain ⟨x1, _, _, xlt⟩ := HXB.out _ hx.out
              have y0 : wx.cell? ⟨w54.heap.size, 2 + j * 6, none⟩ = some (.string yi) := by simpa using r1 0 _ rfl
              have y1 : wx.cell? ⟨w54.heap.size, 2 + j * 6 + 1, none⟩ = some (.int .i64 ya) := r1 1 _ rfl
              have y2 : wx.cell? ⟨w54.heap.size, 2 + j * 6 + 2, none⟩ = some (.int .i64 yg) := r1 2 _ rfl
              have hfb : forB (nlines NX) ci j = (!(emp yi) && Pl.eqv yi ci) := by unfold forB; rw [hz]
              have HFB := Lib.hid hfb
              have HZL := Lib.hid hz
              have HJ8 := Lib.hid hj8
              have i1 : (0 : Int) ≤ (j : Int) := by omega
              have i2 : (j : Int) < 8 := by omega
              clear r1 hfb hz
              cases he : emp yi with
              | true =>
               have he' : yi.toList.isEmpty = true := he
               rw [he] at HFB
               clear he
               have HNX : Hid (∀ e, e < j + 1 → forB (nlines NX) ci e = false) := Lib.hid (fun e he => by
                by_cases hej : e = j
                · subst hej; rw [HFB.out]; rfl
                · exact hno.out e (by omega))
               go_wp2_with fail
               go_quiet (fail)
               go_wp2_with fail
               go_roundw
               case rel => exact ⟨_, rfl, j + 1, by have := HJ8.out; omega, by go_num, HNX, Lib.hid (below_drewN hx.out _)⟩
               case measure => simp [intOf]; omega
              | false =>
               have he' : yi.toList.isEmpty = false := he
               rw [he] at HFB
               clear he
               cases hf : Pl.eqv yi ci with
               | false =>
                have hf' : (yi.toList == ci.toList) = false := hf
                rw [hf] at HFB
                clear hf
                have HNX : Hid (∀ e, e < j + 1 → forB (nlines NX) ci e = false) := Lib.hid (fun e he => by
                 by_cases hej : e = j
                 · subst hej; rw [HFB.out]; rfl
                 · exact hno.out e (by omega))
                go_wp2_with fail
                go_quiet (fail)
                go_wp2_with fail
                go_roundw
                case rel => exact ⟨_, rfl, j + 1, by have := HJ8.out; omega, by go_num, HNX, Lib.hid (below_drewN hx.out _)⟩
                case measure => simp [intOf]; omega
               | true =>
                have hf' : (yi.toList == ci.toList) = true := hf
                rw [hf] at HFB
                clear hf
                have hle : yg ≤ ya := by
                 have := HLB.out j HJ8.out (by rw [HFB.out]; rfl) hno.out
                 rw [HZL.out] at this; exact this
                have hgt : ¬ ya < yg := by omega
                clear hle
                go_wp2_with fail
                go_quiet (fail)
                go_wp2_with fail
                go_quiet (fail)
                go_wp2_with fail
                go_meet
                exact ⟨_, rfl, Lib.hid (below_drewN (below_drewN hx.out _) _)⟩
            · go_wp2_with fail
              go_meet
              exact ⟨_, rfl, hx⟩
         case rest =>
          have T59 := Lib.hid (Below.refl w59.heap.size w59)
          obtain ⟨w60, rfl, hcw⟩ := hcut
          have HH60 := Lib.hid ((hcw.out.block _ (lt_of_block HH59.out)).trans HH59.out)
          have HX60 := Lib.hid ((hcw.out.block _ (lt_of_block HX59.out)).trans HX59.out)
          have HG60 := Lib.hid ((hcw.out.block _ (lt_of_block HG59.out)).trans HG59.out)
          have HN60 := Lib.hid ((hcw.out.block _ (lt_of_block HN59.out)).trans HN59.out)
          have HWA60 := Lib.hid ((hcw.out.block _ (lt_of_block HWA59.out)).trans HWA59.out)
          have HNO60 := Lib.hid ((hcw.out.block _ (lt_of_block HNO59.out)).trans HNO59.out)
          have B60 := Lib.hid (B59.out.trans (hcw.out.mono B59.out.size))
          have HI60 := Lib.hid (HI59.out.below hcw.out)
          have HTP60 := Lib.hid (HTP59.out.below hcw.out)
          have T60 := Lib.hid (T59.out.trans (hcw.out.mono T59.out.size))
          clear hcw HNL HLF
          have HXC : Hid (∀ Y : BW w60, Y.W.cell? ⟨w50.heap.size, 1, none⟩ = some (.string ci) ∧ Y.W.cell? ⟨w50.heap.size, 4, none⟩ = some (.string cl) ∧ w50.heap.size < Y.W.heap.size) := Lib.hid (fun Y => by
           have q := (Y.h.block _ (lt_of_block HX60.out)).trans HX60.out
           exact ⟨by rw [cell_of_block q]; rfl, by rw [cell_of_block q]; rfl, lt_of_block q⟩)
          obtain ⟨ta, hta⟩ : ∃ z, stockQ (M 4) ci cl = z := ⟨_, rfl⟩
          obtain ⟨tb, htb⟩ : ∃ z, stockQ (L 4) ci cl = z := ⟨_, rfl⟩
          rw [hta, htb] at HTT
          rw [hta] at CT1
          rw [htb] at CT2
          clear hta htb
          have CA1 : Hid (∀ Y : BW w60, Calls Tryz.prog 25 #[.agg p.cells, .string ci, .string cl] Y.W fun e w' => e = .returned (.int .i64 ta) ∧ Below Y.W.heap.size Y.W w') := Lib.hid (fun Y => CT1.out _ (HTP60.out.below Y.h))
          have CA2 : Hid (∀ Y : BW w60, Calls Tryz.prog 25 #[.agg a.cells, .string ci, .string cl] Y.W fun e w' => e = .returned (.int .i64 tb) ∧ Below Y.W.heap.size Y.W w') := Lib.hid (fun Y => CT2.out _ ((HI60.out.below Y.h).b.ht))
          go_wp2_with fail
          have RHH : Hid (∀ X : BW w60, X.W.heap[w.heap.size]? = some (.cells a.cells 37 (0, 0))) := Lib.hid (fun X => (X.h.block _ (lt_of_block HH60.out)).trans HH60.out)
          have RHG : Hid (∀ X : BW w60, X.W.heap[w52.heap.size]? = some (.cells p.cells 37 (0, 0))) := Lib.hid (fun X => (X.h.block _ (lt_of_block HG60.out)).trans HG60.out)
          have RHX : Hid (∀ X : BW w60, X.W.heap[w50.heap.size]? = some (.cells #[.string cn, .string ci, .string cu, .int .i64 n, .string cl, .string cd] 54 (0, 0))) := Lib.hid (fun X => (X.h.block _ (lt_of_block HX60.out)).trans HX60.out)
          have xa : ∀ Y : BW w60, Y.W.cell? ⟨w50.heap.size, 1, none⟩ = some (.string ci) := fun Y => (HXC.out Y).1
          have xb : ∀ Y : BW w60, Y.W.cell? ⟨w50.heap.size, 4, none⟩ = some (.string cl) := fun Y => (HXC.out Y).2.1
          refine wp_grow w60 (by kernel_rfl) (by kernel_rfl) (Below.refl _ _) ?_
          simp only []
          refine BigFrame.wpQuiet_want (by kernel_rfl) (fun K hK => quiet_load_mid 37 (.tmp 12) rfl w52.heap.size 0 rfl p.cells.toList _ (fun W ⟨X, hX⟩ => by rw [hX]; exact range_row0 (RHG.out X)) huh rfl (HSHL.out _) (hK _ ?_))
          simp only [ax, Array.toArray_toList]
          iterate 4 go_big_quiet_step (fail)
          go_big_quiet_step (exact grow_call _ (CA1.out _))
          refine BigFrame.wpQuiet_want (by kernel_rfl) (fun K hK => quiet_load_mid 37 (.tmp 2) rfl w.heap.size 0 rfl a.cells.toList _ (fun W ⟨X, hX⟩ => by rw [hX]; exact range_row0 (RHH.out X)) huh rfl (HSHL.out _) (hK _ ?_))
          simp only [ax, Array.toArray_toList]
          iterate 4 go_big_quiet_step (fail)
          go_big_quiet_step (exact grow_call _ (CA2.out _))
          iterate 3 go_big_quiet_step (fail)
          refine wpQuiet_nil ?_
          intro X
          obtain ⟨w61, hb61⟩ := X
          simp only []
          have HH61 := Lib.hid ((hb61.block _ (lt_of_block HH60.out)).trans HH60.out)
          have HG61 := Lib.hid ((hb61.block _ (lt_of_block HG60.out)).trans HG60.out)
          have HX61 := Lib.hid ((hb61.block _ (lt_of_block HX60.out)).trans HX60.out)
          have B61 := Lib.hid (B60.out.trans (hb61.mono B60.out.size))
          have HI61 := Lib.hid (HI60.out.below hb61)
          have HTP61 := Lib.hid (HTP60.out.below hb61)
          have T61 := Lib.hid (T60.out.trans (hb61.mono T60.out.size))
          clear hb61
          clear xa xb
          have hqq : (q != q) = false := by simp
          (try rw [HTT.out])
          (try rw [hqq])
          clear hqq
          have HXD : Hid (∀ W, Below w61.heap.size w61 W → W.cell? ⟨w50.heap.size, 1, none⟩ = some (.string ci) ∧ W.cell? ⟨w50.heap.size, 4, none⟩ = some (.string cl) ∧ W.cell? ⟨w50.heap.size, 5, none⟩ = some (.string cd) ∧ w50.heap.size < W.heap.size) := Lib.hid (fun W hW => HXB.out W (T61.out.trans (hW.mono T61.out.size)))
          have HXE := HXD
          obtain ⟨SM, hSM⟩ : ∃ z, sumP (dockK cd ci cl) (M 4) = z := ⟨_, rfl⟩
          have HSM2 := Lib.hid hSM
          rw [hSM] at HDD
          clear hSM
          obtain ⟨mHG, hmHG⟩ : ∃ z, p.n 4 = z := ⟨_, rfl⟩
          have HLmHG : Hid (mHG = (M 4).length) := Lib.hid (by rw [← hmHG]; exact (HTP61.out 4 (by decide)).1)
          have hlmHG : mHG ≤ 1000000 := by rw [← hmHG]; exact (HTP61.out 4 (by decide)).2.1
          have HBmHG : Hid (∀ X, Below w61.heap.size w61 X → X.cell? ⟨w52.heap.size, 4, none⟩ = some (.slice (p.A 4) mHG (p.c 4)) ∧ w52.heap.size < X.heap.size) := Lib.hid (fun X hX => by
           have q := (hX.block _ (lt_of_block HG61.out)).trans HG61.out
           exact ⟨by rw [cell_of_block q, ← hmHG]; rfl, lt_of_block q⟩)
          clear hmHG
          go_wp2_with fail
          go_loopw [22, 23] (fun s i wx => ∃ W : World, W = wx ∧ ∃ j : Nat, j ≤ mHG ∧ s = .int .i64 (wrap64 (sumP (dockK cd ci cl) ((M 4).take j))) ∧ i = .int .i64 (j : Int) ∧ Hid (Below w61.heap.size w61 wx)) (fun _ i _ => mHG - (intOf i).toNat)
          case atStart => exact ⟨_, rfl, 0, by omega, by rw [sum_zero], rfl, Lib.hid (Below.refl _ _)⟩
          case round =>
           obtain ⟨w62, rfl, j, hj, rfl, rfl, hx⟩ := hrel
           obtain ⟨d4, dlt⟩ := HBmHG.out _ hx.out
           by_cases hjm : j < mHG
           · have hjl : j < (M 4).length := by rw [← HLmHG.out]; exact hjm
             obtain ⟨b2, off2, hA2, hb2, hr2⟩ := quant_at (HTP61.out) hjl
             obtain ⟨⟨fb, fi, fl, fs, fq, fh⟩, hy⟩ : ∃ z, qnOf (M 4)[j] = z := ⟨_, rfl⟩
             have ra := rangeAt_below (hr2 j hjl) hb2 hx.out
             have hsn := sum_next (dockK cd ci cl) (M 4) j hjl
             obtain ⟨sj, hsj⟩ : ∃ z, wrap64 (sumP (dockK cd ci cl) ((M 4).take j)) = z := ⟨_, rfl⟩
             rw [hy] at ra hsn
             rw [hsj] at hsn ⊢
             have HSN := Lib.hid hsn
             have f0 : w62.cell? ⟨b2, off2 + j * 6, none⟩ = some (.string fb) := by simpa using ra 0 _ rfl
             have f1 : w62.cell? ⟨b2, off2 + j * 6 + 1, none⟩ = some (.string fi) := ra 1 _ rfl
             have f2 : w62.cell? ⟨b2, off2 + j * 6 + 2, none⟩ = some (.string fl) := ra 2 _ rfl
             have f4 : w62.cell? ⟨b2, off2 + j * 6 + 4, none⟩ = some (.int .i64 fq) := ra 4 _ rfl
             have flt : b2 < w62.heap.size := Nat.lt_of_lt_of_le hb2 hx.out.size
             rw [hA2] at d4
             obtain ⟨x1, x4, x5, xlt⟩ := HXE.out _ hx.out
             have i1 : (0 : Int) ≤ (j : Int) := by omega
             have i2 : (j : Int) < (mHG : Int) := by omega
             have HJM := Lib.hid hjm
             clear ra hsn hsj hy hr2 hA2 hb2 hjl
             cases e1 : Pl.eqv fb cd with
             | false =>
              have g1 : (fb.toList == cd.toList) = false := e1
              as_aux_lemma =>
               have HS2 : Hid (wrap64 (sumP (dockK cd ci cl) ((M 4).take (j + 1))) = sj) := Lib.hid (by rw [HSN.out, if_neg (by simp [dockK, Qn.ky, e1])])
               clear e1
               go_wp2_with fail
               go_quiet (fail)
               go_wp2_with fail
               go_roundw
               case rel => exact ⟨_, rfl, j + 1, by have := HJM.out; omega, by rw [HS2.out], by go_num, Lib.hid (below_drewN hx.out _)⟩
               case measure => simp [intOf]; omega
             | true =>
              have g1 : (fb.toList == cd.toList) = true := e1
              cases e2 : Pl.eqv fi ci with
              | false =>
               have g2 : (fi.toList == ci.toList) = false := e2
               as_aux_lemma =>
                have HS2 : Hid (wrap64 (sumP (dockK cd ci cl) ((M 4).take (j + 1))) = sj) := Lib.hid (by rw [HSN.out, if_neg (by simp [dockK, Qn.ky, e2])])
                clear e1 e2
                go_wp2_with fail
                go_quiet (fail)
                go_wp2_with fail
                go_roundw
                case rel => exact ⟨_, rfl, j + 1, by have := HJM.out; omega, by rw [HS2.out], by go_num, Lib.hid (below_drewN hx.out _)⟩
                case measure => simp [intOf]; omega
              | true =>
               have g2 : (fi.toList == ci.toList) = true := e2
               cases e3 : Pl.eqv fl cl with
               | false =>
                have g3 : (fl.toList == cl.toList) = false := e3
                as_aux_lemma =>
                 have HS2 : Hid (wrap64 (sumP (dockK cd ci cl) ((M 4).take (j + 1))) = sj) := Lib.hid (by rw [HSN.out, if_neg (by simp [dockK, Qn.ky, e3])])
                 clear e1 e2 e3
                 go_wp2_with fail
                 go_quiet (fail)
                 go_wp2_with fail
                 go_roundw
                 case rel => exact ⟨_, rfl, j + 1, by have := HJM.out; omega, by rw [HS2.out], by go_num, Lib.hid (below_drewN hx.out _)⟩
                 case measure => simp [intOf]; omega
               | true =>
                have g3 : (fl.toList == cl.toList) = true := e3
                as_aux_lemma =>
                 have HS2 : Hid (wrap64 (sumP (dockK cd ci cl) ((M 4).take (j + 1))) = wrap64 (sj + fq)) := Lib.hid (by rw [HSN.out, if_pos (by simp [dockK, Qn.ky, e1, e2, e3])])
                 clear e1 e2 e3
                 go_wp2_with fail
                 go_quiet (fail)
                 go_wp2_with fail
                 go_roundw
                 case rel => exact ⟨_, rfl, j + 1, by have := HJM.out; omega, by rw [HS2.out], by go_num, Lib.hid (below_drewN hx.out _)⟩
                 case measure => simp [intOf]; omega
           · have hjm2 : j = mHG := by omega
             subst hjm2
             have hst : wrap64 (sumP (dockK cd ci cl) ((M 4).take j)) = wrap64 SM := by rw [List.take_of_length_le (by rw [HLmHG.out]; exact Nat.le_refl _), HSM2.out]
             rw [hst]
             clear hst hj hjm
             have HH62 := Lib.hid ((hx.out.block _ (lt_of_block HH61.out)).trans HH61.out)
             have HG62 := Lib.hid ((hx.out.block _ (lt_of_block HG61.out)).trans HG61.out)
             have HX62 := Lib.hid ((hx.out.block _ (lt_of_block HX61.out)).trans HX61.out)
             have B62 := Lib.hid (B61.out.trans (hx.out.mono B61.out.size))
             have HI62 := Lib.hid (HI61.out.below hx.out)
             have HTP62 := Lib.hid (HTP61.out.below hx.out)
             have T62 := Lib.hid (T61.out.trans (hx.out.mono T61.out.size))
             have HXE : Hid (∀ W, Below w62.heap.size w62 W → W.cell? ⟨w50.heap.size, 1, none⟩ = some (.string ci) ∧ W.cell? ⟨w50.heap.size, 4, none⟩ = some (.string cl) ∧ W.cell? ⟨w50.heap.size, 5, none⟩ = some (.string cd) ∧ w50.heap.size < W.heap.size) := Lib.hid (fun W hW => HXD.out W (hx.out.trans (hW.mono hx.out.size)))
             obtain ⟨mHH, hmHH⟩ : ∃ z, a.n 4 = z := ⟨_, rfl⟩
             have HLmHH : Hid (mHH = (L 4).length) := Lib.hid (by rw [← hmHH]; exact (HI62.out.b.ht 4 (by decide)).1)
             have hlmHH : mHH ≤ 1000000 := by rw [← hmHH]; exact (HI62.out.b.ht 4 (by decide)).2.1
             have HBmHH : Hid (∀ X, Below w62.heap.size w62 X → X.cell? ⟨w.heap.size, 4, none⟩ = some (.slice (a.A 4) mHH (a.c 4)) ∧ w.heap.size < X.heap.size) := Lib.hid (fun X hX => by
              have q := (hX.block _ (lt_of_block HH62.out)).trans HH62.out
              exact ⟨by rw [cell_of_block q, ← hmHH]; rfl, lt_of_block q⟩)
             clear hmHH
             go_wp2_with fail
             go_loopw [22, 24] (fun s i wx => ∃ W : World, W = wx ∧ ∃ j : Nat, j ≤ mHH ∧ s = .int .i64 (wrap64 (SM - sumP (dockK cd ci cl) ((L 4).take j))) ∧ i = .int .i64 (j : Int) ∧ Hid (Below w62.heap.size w62 wx)) (fun _ i _ => mHH - (intOf i).toNat)
             case atStart => exact ⟨_, rfl, 0, by omega, by rw [sum_zero2], rfl, Lib.hid (Below.refl _ _)⟩
             case round =>
              obtain ⟨w63, rfl, j, hj, rfl, rfl, hx⟩ := hrel
              obtain ⟨d4, dlt⟩ := HBmHH.out _ hx.out
              by_cases hjm : j < mHH
              · have hjl : j < (L 4).length := by rw [← HLmHH.out]; exact hjm
                obtain ⟨b2, off2, hA2, hb2, hr2⟩ := quant_at (HI62.out.b.ht) hjl
                obtain ⟨⟨fb, fi, fl, fs, fq, fh⟩, hy⟩ : ∃ z, qnOf (L 4)[j] = z := ⟨_, rfl⟩
                have ra := rangeAt_below (hr2 j hjl) hb2 hx.out
                have hsn := sum_next2 SM (dockK cd ci cl) (L 4) j hjl
                obtain ⟨sj, hsj⟩ : ∃ z, wrap64 (SM - sumP (dockK cd ci cl) ((L 4).take j)) = z := ⟨_, rfl⟩
                rw [hy] at ra hsn
                rw [hsj] at hsn ⊢
                have HSN := Lib.hid hsn
                have f0 : w63.cell? ⟨b2, off2 + j * 6, none⟩ = some (.string fb) := by simpa using ra 0 _ rfl
                have f1 : w63.cell? ⟨b2, off2 + j * 6 + 1, none⟩ = some (.string fi) := ra 1 _ rfl
                have f2 : w63.cell? ⟨b2, off2 + j * 6 + 2, none⟩ = some (.string fl) := ra 2 _ rfl
                have f4 : w63.cell? ⟨b2, off2 + j * 6 + 4, none⟩ = some (.int .i64 fq) := ra 4 _ rfl
                have flt : b2 < w63.heap.size := Nat.lt_of_lt_of_le hb2 hx.out.size
                rw [hA2] at d4
                obtain ⟨x1, x4, x5, xlt⟩ := HXE.out _ hx.out
                have i1 : (0 : Int) ≤ (j : Int) := by omega
                have i2 : (j : Int) < (mHH : Int) := by omega
                have HJM := Lib.hid hjm
                clear ra hsn hsj hy hr2 hA2 hb2 hjl
                cases e1 : Pl.eqv fb cd with
                | false =>
                 have g1 : (fb.toList == cd.toList) = false := e1
                 as_aux_lemma =>
                  have HS2 : Hid (wrap64 (SM - sumP (dockK cd ci cl) ((L 4).take (j + 1))) = sj) := Lib.hid (by rw [HSN.out, if_neg (by simp [dockK, Qn.ky, e1])])
                  clear e1
                  go_wp2_with fail
                  go_quiet (fail)
                  go_wp2_with fail
                  go_roundw
                  case rel => exact ⟨_, rfl, j + 1, by have := HJM.out; omega, by rw [HS2.out], by go_num, Lib.hid (below_drewN hx.out _)⟩
                  case measure => simp [intOf]; omega
                | true =>
                 have g1 : (fb.toList == cd.toList) = true := e1
                 cases e2 : Pl.eqv fi ci with
                 | false =>
                  have g2 : (fi.toList == ci.toList) = false := e2
                  as_aux_lemma =>
                   have HS2 : Hid (wrap64 (SM - sumP (dockK cd ci cl) ((L 4).take (j + 1))) = sj) := Lib.hid (by rw [HSN.out, if_neg (by simp [dockK, Qn.ky, e2])])
                   clear e1 e2
                   go_wp2_with fail
                   go_quiet (fail)
                   go_wp2_with fail
                   go_roundw
                   case rel => exact ⟨_, rfl, j + 1, by have := HJM.out; omega, by rw [HS2.out], by go_num, Lib.hid (below_drewN hx.out _)⟩
                   case measure => simp [intOf]; omega
                 | true =>
                  have g2 : (fi.toList == ci.toList) = true := e2
                  cases e3 : Pl.eqv fl cl with
                  | false =>
                   have g3 : (fl.toList == cl.toList) = false := e3
                   as_aux_lemma =>
                    have HS2 : Hid (wrap64 (SM - sumP (dockK cd ci cl) ((L 4).take (j + 1))) = sj) := Lib.hid (by rw [HSN.out, if_neg (by simp [dockK, Qn.ky, e3])])
                    clear e1 e2 e3
                    go_wp2_with fail
                    go_quiet (fail)
                    go_wp2_with fail
                    go_roundw
                    case rel => exact ⟨_, rfl, j + 1, by have := HJM.out; omega, by rw [HS2.out], by go_num, Lib.hid (below_drewN hx.out _)⟩
                    case measure => simp [intOf]; omega
                  | true =>
                   have g3 : (fl.toList == cl.toList) = true := e3
                   as_aux_lemma =>
                    have HS2 : Hid (wrap64 (SM - sumP (dockK cd ci cl) ((L 4).take (j + 1))) = wrap64 (sj - fq)) := Lib.hid (by rw [HSN.out, if_pos (by simp [dockK, Qn.ky, e1, e2, e3])])
                    clear e1 e2 e3
                    go_wp2_with fail
                    go_quiet (fail)
                    go_wp2_with fail
                    go_roundw
                    case rel => exact ⟨_, rfl, j + 1, by have := HJM.out; omega, by rw [HS2.out], by go_num, Lib.hid (below_drewN hx.out _)⟩
                    case measure => simp [intOf]; omega
              · have hjm2 : j = mHH := by omega
                subst hjm2
                have hst : wrap64 (SM - sumP (dockK cd ci cl) ((L 4).take j)) = q := by rw [List.take_of_length_le (by rw [HLmHH.out]; exact Nat.le_refl _)]; exact HDD.out
                rw [hst]
                clear hst hj hjm
                have HH63 := Lib.hid ((hx.out.block _ (lt_of_block HH62.out)).trans HH62.out)
                have HG63 := Lib.hid ((hx.out.block _ (lt_of_block HG62.out)).trans HG62.out)
                have HX63 := Lib.hid ((hx.out.block _ (lt_of_block HX62.out)).trans HX62.out)
                have B63 := Lib.hid (B62.out.trans (hx.out.mono B62.out.size))
                have HI63 := Lib.hid (HI62.out.below hx.out)
                have HTP63 := Lib.hid (HTP62.out.below hx.out)
                have T63 := Lib.hid (T62.out.trans (hx.out.mono T62.out.size))
                have HCS : Hid (CInv w p M (k + 1) (w63.setRow w.heap.size p.cells)) := Lib.hid (by
                 have := CInv.step (x := (Cm.mk cn ci cu n cl cd)) (p := p) HI63.out (by rw [HMM.out]; exact HNM.out) (by rw [HMM.out]; exact HTP63.out) HCP.out (by rw [HMM.out]; exact HOP.out)
                 rwa [HMM.out] at this)
                go_wp2_with (first
                 | (refine wpList_load_row rfl 37 (.tmp 12) rfl w52.heap.size rfl _ _ _ _ HG63.out huh rfl (HSH.out _) ?_)
                 | (refine wpList_store_row rfl 37 (.tmp 2) (.tmp 319) rfl w.heap.size p.cells rfl rfl _ _ HI63.out.b.box (HSH.out _) rfl (H1C.out _) ?_)
                 | fail)
                go_roundw
                case rel => exact ⟨_, rfl, k + 1, p, M, by omega, by omega, by go_num, HCS⟩
                case measure => simp [intOf]; omega
end Go.Proofs.YtgbilfkjfeheaaaGreat.inboundComes
