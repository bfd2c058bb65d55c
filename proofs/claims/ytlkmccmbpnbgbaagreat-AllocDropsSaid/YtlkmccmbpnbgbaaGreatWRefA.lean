/-
 CONTRACTS of the reference's May, ahead, Open. (By wip/tools/gen_wref.py.)
-/
import Derived.Test.YtlkmccmbpnbgbaaGreatWPl
import Derived.Test.YtlkmccmbpnbgbaaGreatRSite
import Derived.Test.YtlkmccmbpnbgbaaGreatJHead
import Derived.Test.YtlkmccmbpnbgbaaGreatGT
import Derived.BigQuiet
import Derived.Deep.CutRange
namespace Go.Proofs.YtlkmccmbpnbgbaaGreat
set_option linter.unusedVariables false
open Go.RowKit
open Pl (firstG findG putG It)

set_option maxRecDepth 100000 in
set_option maxHeartbeats 3200000 in
theorem rmay_any (h : Hs) (L : Nat → List (List Value)) (qb qi ql : ByteArray) (qs qq qh : Int) (si it : ByteArray) (w : World) (hh : HT h L w) :
 Calls Tryz.prog 103 #[.agg h.cells, .agg #[.string qb, .string qi, .string ql, .int .i64 qs, .int .i64 qq, .int .i64 qh], .string si, .string it] w fun e w' => e = .returned (.bool (mayB (L 2) (L 3) si it [.string qb, .string qi, .string ql, .int .i64 qs, .int .i64 qq, .int .i64 qh])) ∧ Below w.heap.size w w' := by
 obtain ⟨⟨yc, yz, kd, ai, pl, vo, we, fz⟩, hy, hyb⟩ := bin_eight hh qb
 unfold Bn.cells at hy
 obtain ⟨ib, hib⟩ : ∃ z, (atBin (L 3) qb).isSome = z := ⟨_, rfl⟩
 obtain ⟨st, hst⟩ : ∃ z, siteT (L 2) (L 3) qb = z := ⟨_, rfl⟩
 obtain ⟨r, hr⟩ : ∃ r, mayB (L 2) (L 3) si it [.string qb, .string qi, .string ql, .int .i64 qs, .int .i64 qq, .int .i64 qh] = r := ⟨_, rfl⟩
 have HA : Hid (r = (Pl.eqv qi it && ((qs == 1) && (ib && ((kd == 1) && (!fz && (Pl.eqv st si && decide (0 < wrap64 (qq - qh))))))))) := Lib.hid (by
  have h1 : mayB (L 2) (L 3) si it [.string qb, .string qi, .string ql, .int .i64 qs, .int .i64 qq, .int .i64 qh] = (Pl.eqv qi it && ((qs == 1) && ((atBin (L 3) qb).isSome && (((bnOf (gotBin (L 3) qb)).kind == 1) && (!(bnOf (gotBin (L 3) qb)).frz && (Pl.eqv (siteT (L 2) (L 3) qb) si && decide (0 < wrap64 (qq - qh)))))))) := rfl
  rw [← hr, h1, hib, hyb, hst])
 have CB : Hid (∀ W, Below w.heap.size w W → Calls Tryz.prog 134 #[.agg h.cells, .string qb] W fun e w' => e = .returned (.tuple #[.agg #[.string yc, .string yz, .int .i64 kd, .int .i64 ai, .int .i64 pl, .int .i64 vo, .int .i64 we, .bool fz], .bool ib]) ∧ Below W.heap.size W w') := Lib.hid (fun W hW => by have := frBin (hh.below hW) qb; rw [hy, hib] at this; exact this)
 have CS : Hid (∀ W, Below w.heap.size w W → Calls Tryz.prog 135 #[.agg h.cells, .string qb] W fun e w' => e = .returned (.string st) ∧ Below W.heap.size W w') := Lib.hid (fun W hW => by have := rsite_any h L qb W (hh.below hW); rwa [hst] at this)
 rw [hr]
 clear hr hib hst hy hyb
 have HSHL : Hid (∀ a : Hs, (Tryz.prog.info? 37).map (·.size) = some a.cells.toList.length) := Lib.hid (fun a => by kernel_rfl)
 obtain ⟨W0, hW0⟩ : ∃ W0, W0 = ((w.alloc (.cells h.cells 37)).alloc (.cells #[.string qb, .string qi, .string ql, .int .i64 qs, .int .i64 qq, .int .i64 qh] 62)) := ⟨_, rfl⟩
 have hb0 : Below w.heap.size w W0 := by rw [hW0]; exact ((Below.refl _ _).alloc (Nat.le_refl _) _).alloc (by simp <;> omega) _
 have hs0 : W0.heap.size = w.heap.size + 2 := by rw [hW0]; simp
 have HH : Hid (∀ W, Below W0.heap.size W0 W → W.heap[w.heap.size]? = some (.cells h.cells 37 (0, 0))) := Lib.hid (fun W hW => (hW.block _ (by omega)).trans (by
  rw [hW0]
  have hq := heap_alloc_new w (.cells h.cells 37)
  exact (Below.heap_alloc _ _ _ (by simp <;> omega)).trans ((by simpa using hq))))
 have HQ : Hid (∀ W, Below W0.heap.size W0 W → W.heap[w.heap.size + 1]? = some (.cells #[.string qb, .string qi, .string ql, .int .i64 qs, .int .i64 qq, .int .i64 qh] 62 (0, 0))) := Lib.hid (fun W hW => (hW.block _ (by omega)).trans (by
  rw [hW0]
  have hq := heap_alloc_new (w.alloc (.cells h.cells 37)) (.cells #[.string qb, .string qi, .string ql, .int .i64 qs, .int .i64 qq, .int .i64 qh] 62)
  exact (by simpa using hq)))
 have HBW : Hid (∀ W, Below W0.heap.size W0 W → Below w.heap.size w W ∧ w.heap.size + 2 ≤ W.heap.size) := Lib.hid (fun W hW => ⟨hb0.trans (hW.mono (by omega)), by have := hW.size; omega⟩)
 have huh := Tryz.underlying37
 have HSH : Hid (∀ a : Hs, (Tryz.prog.info? 37).map (·.size) = some a.cells.size) := Lib.hid (fun a => by kernel_rfl)
 have huHQ := Tryz.underlying62
 have HSHQ : Hid ((Tryz.prog.info? 62).map (·.size) = some 6) := Lib.hid (by kernel_rfl)
 have HCHQ : Hid (∀ W, Below W0.heap.size W0 W → W.cell? ⟨w.heap.size + 1, 0, none⟩ = some (.string qb) ∧ W.cell? ⟨w.heap.size + 1, 1, none⟩ = some (.string qi) ∧ W.cell? ⟨w.heap.size + 1, 2, none⟩ = some (.string ql) ∧ W.cell? ⟨w.heap.size + 1, 3, none⟩ = some (.int .i64 qs) ∧ W.cell? ⟨w.heap.size + 1, 4, none⟩ = some (.int .i64 qq) ∧ W.cell? ⟨w.heap.size + 1, 5, none⟩ = some (.int .i64 qh) ∧ w.heap.size + 1 < W.heap.size) := Lib.hid (fun W hW => ⟨by rw [cell_of_block (HQ.out W hW)]; rfl, by rw [cell_of_block (HQ.out W hW)]; rfl, by rw [cell_of_block (HQ.out W hW)]; rfl, by rw [cell_of_block (HQ.out W hW)]; rfl, by rw [cell_of_block (HQ.out W hW)]; rfl, by rw [cell_of_block (HQ.out W hW)]; rfl, by have := hW.size; omega⟩)
 have H0 := Lib.hid (Below.refl W0.heap.size W0)
 clear hb0 hs0 hh
 subst hW0
 go_enter Tryz.func103, Tryz.ntmps103
 obtain ⟨hq0, hq1, hq2, hq3, hq4, hq5, hlthq⟩ := HCHQ.out _ H0.out
 go_wp2_with (first
  | (refine wpList_load_row rfl 37 (.tmp 4) rfl w.heap.size rfl _ _ _ _ (HH.out _ H0.out) huh rfl (HSH.out _) ?_)
  | fail)
 refine (CB.out _ (HBW.out _ H0.out).1).mono ?_
 rintro e w1 ⟨rfl, hb1⟩
 have H1 := Lib.hid (H0.out.trans (hb1.mono H0.out.size))
 clear hb1
 clear hq0 hq1 hq2 hq3 hq4 hq5 hlthq
 obtain ⟨w2, hw2⟩ : ∃ W, W = w1.alloc (.cells #[.string yc, .string yz, .int .i64 kd, .int .i64 ai, .int .i64 pl, .int .i64 vo, .int .i64 we, .bool fz] 79) := ⟨_, rfl⟩
 have H2 : Hid (Below _ _ w2) := Lib.hid (by rw [hw2]; exact H1.out.alloc H1.out.size _)
 have HB2 : Hid (∀ W, Below w2.heap.size w2 W → W.heap[w1.heap.size]? = some (.cells #[.string yc, .string yz, .int .i64 kd, .int .i64 ai, .int .i64 pl, .int .i64 vo, .int .i64 we, .bool fz] 79 (0, 0))) := Lib.hid (fun W hW => (hW.block _ (by rw [hw2]; simp)).trans (by rw [hw2]; exact heap_alloc_new _ _))
 have HW2 := Lib.hid hw2
 clear hw2
 go_upto_region 2 with fail
 rw [← HW2.out]
 obtain ⟨hq0, hq1, hq2, hq3, hq4, hq5, hlthq⟩ := HCHQ.out _ H2.out
 have hb := HB2.out _ (Below.refl _ _)
 have b2 : w2.cell? ⟨w1.heap.size, 2, none⟩ = some (.int .i64 kd) := by rw [cell_of_block hb]; rfl
 have b7 : w2.cell? ⟨w1.heap.size, 7, none⟩ = some (.bool fz) := by rw [cell_of_block hb]; rfl
 have blt := lt_of_block hb
 clear hb
 cases ha : Pl.eqv qi it with
 | false =>
  have ka : (qi.toList == it.toList) = false := ha
  have HFa := Lib.hid ha
  clear ha
  have HE : Hid (r = false) := Lib.hid (by rw [HA.out, HFa.out]; simp)
  go_wp2_with fail
  go_ret
  exact ⟨by rw [HE.out]; rfl, (HBW.out _ H2.out).1⟩
 | true =>
  have ka : (qi.toList == it.toList) = true := ha
  have HFa := Lib.hid ha
  clear ha
  cases hb : (qs == 1) with
  | false =>
   have kb : (qs == 1) = false := hb
   have HFb := Lib.hid hb
   clear hb
   have HE : Hid (r = false) := Lib.hid (by rw [HA.out, HFa.out, HFb.out]; simp)
   go_wp2_with fail
   go_ret
   exact ⟨by rw [HE.out]; rfl, (HBW.out _ H2.out).1⟩
  | true =>
   have kb : (qs == 1) = true := hb
   have HFb := Lib.hid hb
   clear hb
   cases ib with
   | false =>
    have HE : Hid (r = false) := Lib.hid (by rw [HA.out, HFa.out, HFb.out]; simp)
    go_wp2_with fail
    go_ret
    exact ⟨by rw [HE.out]; rfl, (HBW.out _ H2.out).1⟩
   | true =>
    cases hd : (kd == 1) with
    | false =>
     have kd1 : (kd == 1) = false := hd
     have HFd := Lib.hid hd
     clear hd
     have HE : Hid (r = false) := Lib.hid (by rw [HA.out, HFa.out, HFb.out, HFd.out]; simp)
     go_wp2_with fail
     go_ret
     exact ⟨by rw [HE.out]; rfl, (HBW.out _ H2.out).1⟩
    | true =>
     have kd1 : (kd == 1) = true := hd
     have HFd := Lib.hid hd
     clear hd
     cases fz with
     | true =>
      have HE : Hid (r = false) := Lib.hid (by rw [HA.out, HFa.out, HFb.out, HFd.out]; simp)
      go_wp2_with fail
      go_ret
      exact ⟨by rw [HE.out]; rfl, (HBW.out _ H2.out).1⟩
     | false =>
      go_wp2_with (first
       | (refine BigFrame.wpList_want (by kernel_rfl) (fun K hK => Go.wp_load_mid 37 (.tmp 4) rfl w.heap.size 0 rfl h.cells.toList _ (range_row0 (HH.out _ H2.out)) huh rfl (HSHL.out _) (hK _ _ ?_)); clear hK K)
       | fail)
      refine (CS.out _ (HBW.out _ H2.out).1).mono ?_
      rintro e w3 ⟨rfl, hb3⟩
      have H3 := Lib.hid (H2.out.trans (hb3.mono H2.out.size))
      clear hb3 b2 b7 blt
      clear hq0 hq1 hq2 hq3 hq4 hq5 hlthq
      obtain ⟨hq0, hq1, hq2, hq3, hq4, hq5, hlthq⟩ := HCHQ.out _ H3.out
      obtain ⟨es, hes⟩ : ∃ b, Pl.eqv st si = b := ⟨_, rfl⟩
      have hes2 : (st.toList == si.toList) = es := hes
      obtain ⟨z, hz⟩ : ∃ z, wrap64 (qq - qh) = z := ⟨_, rfl⟩
      have HA2 : Hid (r = (es && decide (0 < z))) := Lib.hid (by rw [HA.out, HFa.out, HFb.out, HFd.out, hes, hz]; simp)
      clear hes
      cases es with
      | false =>
       have HE : Hid (r = false) := Lib.hid (by rw [HA2.out]; rfl)
       go_wp2_with fail
       go_ret
       exact ⟨by rw [HE.out]; rfl, (HBW.out _ H3.out).1⟩
      | true =>
       by_cases hz0 : 0 < z
       ·
        have hz1 : decide (0 < z) = true := decide_eq_true hz0
        have HE : Hid (r = true) := Lib.hid (by rw [HA2.out]; simp [hz0])
        go_wp2_with fail
        go_ret
        exact ⟨by rw [HE.out]; rfl, (HBW.out _ H3.out).1⟩
       ·
        have hz1 : decide (0 < z) = false := decide_eq_false hz0
        have hz2 : z ≤ 0 := by omega
        have HE : Hid (r = false) := Lib.hid (by rw [HA2.out, hz1]; rfl)
        clear hz0
        go_wp2_with fail
        go_ret
        exact ⟨by rw [HE.out]; rfl, (HBW.out _ H3.out).1⟩
theorem quant_atW {h : Hs} {L : Nat → List (List Value)} {w : World} (hh : HT h L w) {k : Nat} (hk : k < (L 4).length) : ∃ b off, h.A 4 = some ⟨b, off, none⟩ ∧ b < w.heap.size ∧ w.rangeAt b (off + k * 6) (qnOf (qA (L 4) k)).cells := by
 obtain ⟨b, off, hA, hb, hc⟩ := (hh 4 (by decide)).2.2.2.thing (hh 4 (by decide)).2.2.1 (by decide) hk
 have := hc k hk
 rw [show (kOf 4).length = 6 from rfl] at this
 rw [qA_at _ k hk, ← qn_cells ((hh 4 (by decide)).2.2.1 _ (List.getElem_mem hk))]
 exact ⟨b, off, hA, hb, this⟩
theorem qA_cells {h : Hs} {L : Nat → List (List Value)} {w : World} (hh : HT h L w) {k : Nat} (hk : k < (L 4).length) : qA (L 4) k = (qnOf (qA (L 4) k)).cells := by
 rw [qA_at _ k hk]
 exact qn_cells ((hh 4 (by decide)).2.2.1 _ (List.getElem_mem hk))
end Go.Proofs.YtlkmccmbpnbgbaaGreat
