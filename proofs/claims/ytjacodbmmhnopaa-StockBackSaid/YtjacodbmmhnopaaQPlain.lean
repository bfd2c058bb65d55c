/-
  THE LAW's plain. (By wip/tools/gen_back12.py.)
-/
import Derived.Test.YtjacodbmmhnopaaQCon
namespace Go.Proofs.Ytjacodbmmhnopaa
set_option linter.unusedVariables false
open Go.RowKit
open Pl (firstG findG putG It)

theorem quant_at {h : Hs} {L : Nat → List (List Value)} {w : World} (hh : HT h L w) {k : Nat} (hk : k < (L 4).length) : ∃ b off, h.A 4 = some ⟨b, off, none⟩ ∧ b < w.heap.size ∧ ∀ j (hj : j < (L 4).length), w.rangeAt b (off + j * 6) (qnOf (L 4)[j]).cells := by
  obtain ⟨b, off, hA, hb, hc⟩ := (hh 4 (by decide)).2.2.2.thing (hh 4 (by decide)).2.2.1 (by decide) hk
  exact ⟨b, off, hA, hb, fun j hj => by have := hc j hj; rw [show (kOf 4).length = 6 from rfl] at this; rw [← qn_cells ((hh 4 (by decide)).2.2.1 _ (List.getElem_mem hj))]; exact this⟩
theorem range_key {W : World} {b o : Nat} {q : Qn} (h : W.rangeAt b o q.cells) : W.rangeAt b o [.string q.bin, .string q.item, .string q.lot, .int .i64 q.st] := fun i v hv => h i v (by unfold Qn.cells; have hi : i < 4 := (List.getElem?_eq_some_iff.1 hv).1; match i, hi with | 0, _ | 1, _ | 2, _ | 3, _ => exact hv)
/-- What plain answers. -/
def PlainAns (L : List (List Value)) (w : World) (e : Ending) (w' : World) : Prop := (∃ b : Bool, e = .returned (.bool b) ∧ (b = true → PlainQ L)) ∧ Below w.heap.size w w'
set_option maxRecDepth 100000 in
set_option maxHeartbeats 3200000 in
theorem plain_any (h : Hs) (L : Nat → List (List Value)) (w : World) (hh : HT h L w) :
    Calls Try.prog 6 #[.agg h.cells] w (PlainAns (L 4) w) := by
  have HHT := Lib.hid hh
  have hn9 := (hh 4 (by decide)).2.1
  obtain ⟨m, hmm⟩ : ∃ m, h.n 4 = m := ⟨_, rfl⟩
  have HNM : Hid (m = (L 4).length) := Lib.hid (by rw [← hmm]; exact (hh 4 (by decide)).1)
  rw [hmm] at hn9
  have HMM := Lib.hid hmm
  clear hmm
  have HS4 : Hid ((Try.prog.info? 39).map (·.size) = some 4) := Lib.hid (by kernel_rfl)
  have HS6 : Hid ((Try.prog.info? 44).map (·.size) = some 6) := Lib.hid (by kernel_rfl)
  have huq := Try.underlying44
  have huk := Try.underlying39
  obtain ⟨W0, hW0⟩ : ∃ W0, W0 = (w.alloc (.cells h.cells 37)) := ⟨_, rfl⟩
  have hb0 : Below w.heap.size w W0 := by rw [hW0]; exact (Below.refl _ _).alloc (Nat.le_refl _) _
  have hs0 : W0.heap.size = w.heap.size + 1 := by rw [hW0]; simp
  have HH : Hid (∀ W, Below W0.heap.size W0 W → W.heap[w.heap.size]? = some (.cells h.cells 37 (0, 0))) := Lib.hid (fun W hW => (hW.block _ (by omega)).trans (by
    rw [hW0]
    have hq := heap_alloc_new w (.cells h.cells 37)
    exact (by simpa using hq)))
  have HBW : Hid (∀ W, Below W0.heap.size W0 W → Below w.heap.size w W ∧ w.heap.size + 1 ≤ W.heap.size) := Lib.hid (fun W hW => ⟨hb0.trans (hW.mono (by omega)), by have := hW.size; omega⟩)
  have huh := Try.underlying37
  have HSH : Hid (∀ a : Hs, (Try.prog.info? 37).map (·.size) = some a.cells.size) := Lib.hid (fun a => by kernel_rfl)
  have HL4 : Hid (∀ W, Below W0.heap.size W0 W → W.cell? ⟨w.heap.size, 4, none⟩ = some (.slice (h.A 4) m (h.c 4)) ∧ w.heap.size < W.heap.size) := Lib.hid (fun W hW => ⟨by rw [cell_of_block (HH.out W hW), ← HMM.out]; rfl, by have := hW.size; omega⟩)
  have H0 := Lib.hid (Below.refl W0.heap.size W0)
  clear hb0 hs0 hh
  subst hW0
  go_enter Try.func6, Try.ntmps6
  go_wp2_with fail
  go_loopw [3] (fun i wr => ∃ k : Nat, k ≤ m ∧ i = .int .i64 (k : Int) ∧ Hid (∀ j (hj : j < (L 4).length), j < k → 0 ≤ (qnOf (L 4)[j]).held ∧ (qnOf (L 4)[j]).held ≤ (qnOf (L 4)[j]).qty ∧ 1 ≤ (qnOf (L 4)[j]).qty ∧ (qnOf (L 4)[j]).qty ≤ 1000000000) ∧ Hid (Below (w.alloc (.cells h.cells 37)).heap.size (w.alloc (.cells h.cells 37)) wr)) (fun i _ => m - (intOf i).toNat)
  case atStart => exact ⟨0, by omega, rfl, Lib.hid (fun j hj h => by omega), H0⟩
  case round =>
    obtain ⟨k, hk, rfl, hno, hw⟩ := hrel
    obtain ⟨d4, dlt⟩ := HL4.out _ hw.out
    by_cases hlt : k < m
    · have hkl : k < (L 4).length := by rw [← HNM.out]; exact hlt
      obtain ⟨b, off, hA, hb, hc⟩ := quant_at (HHT.out.below (HBW.out _ hw.out).1) hkl
      have HRQ : Hid (∀ j (hj : j < (L 4).length) W, Below wr.heap.size wr W → W.rangeAt b (off + j * 6) (qnOf (L 4)[j]).cells) := Lib.hid (fun j hj W hW => rangeAt_below (hc j hj) hb hW)
      have r1 := hc k hkl
      have hno2 : ∀ q : Qn, qnOf (L 4)[k] = q → (0 ≤ q.held ∧ q.held ≤ q.qty ∧ 1 ≤ q.qty ∧ q.qty ≤ 1000000000) → ∀ j (hj : j < (L 4).length), j < k + 1 → 0 ≤ (qnOf (L 4)[j]).held ∧ (qnOf (L 4)[j]).held ≤ (qnOf (L 4)[j]).qty ∧ 1 ≤ (qnOf (L 4)[j]).qty ∧ (qnOf (L 4)[j]).qty ≤ 1000000000 := fun q hq h5 j hj hjk => by
        by_cases e : j = k
        · subst e; rw [hq]; exact h5
        · exact hno.out j hj (by omega)
      obtain ⟨q, hq⟩ : ∃ z, qnOf (L 4)[k] = z := ⟨_, rfl⟩
      have hno3 := hno2 q hq
      rw [hq] at r1
      obtain ⟨qb, qi, ql, qs, qq, qh⟩ := q
      simp only [] at hno3
      have HN3 := Lib.hid hno3
      have HRE : Hid (wr.rangeAt b (off + k * 6) [.string qb, .string qi, .string ql, .int .i64 qs, .int .i64 qq, .int .i64 qh]) := Lib.hid r1
      obtain ⟨g1, hg1⟩ : ∃ g, g = wr.heap.size := ⟨_, rfl⟩
      have HG1 := Lib.hid hg1
      clear hg1
      obtain ⟨w1, hw1⟩ : ∃ w1, w1 = wr.alloc (.cells #[.string qb, .string qi, .string ql, .int .i64 qs, .int .i64 qq, .int .i64 qh] 44) := ⟨_, rfl⟩
      have hb1 : Below wr.heap.size wr w1 := by rw [hw1]; exact (Below.refl _ _).alloc (Nat.le_refl _) _
      have HX1 : Hid (w1.heap[g1]? = some (.cells #[.string qb, .string qi, .string ql, .int .i64 qs, .int .i64 qq, .int .i64 qh] 44 (0, 0))) := Lib.hid (by rw [hw1, HG1.out]; exact heap_alloc_new _ _)
      have HW1 := Lib.hid hw1
      have HB1 := Lib.hid (hw.out.trans (hb1.mono hw.out.size))
      have HBB := Lib.hid hb1
      rw [hA] at d4
      have hbl := hb
      have h1 : (0 : Int) ≤ (k : Int) := by omega
      have h2 : (k : Int) < (m : Int) := by omega
      have HAA := Lib.hid hA
      clear hw1 hb1 r1 hq hno2 hno3 hc hA hb
      go_upto_region 5 with (first
        | (refine wpList_load_mid rfl 44 (.tmp 16) rfl b (off + k * 6) rfl [.string qb, .string qi, .string ql, .int .i64 qs, .int .i64 qq, .int .i64 qh] _ HRE.out huq rfl HS6.out ?_)
        | fail)
      rw [← HW1.out, ← HG1.out]
      clear d4 dlt
      have y4 : w1.cell? ⟨g1, 4, none⟩ = some (.int .i64 qq) := by rw [cell_of_block HX1.out]; rfl
      have y5 : w1.cell? ⟨g1, 5, none⟩ = some (.int .i64 qh) := by rw [cell_of_block HX1.out]; rfl
      have ylt : g1 < w1.heap.size := lt_of_block HX1.out
      by_cases c0 : qh < 0
      · go_wp2_with fail
        go_ret
        exact ⟨⟨false, rfl, fun h => by cases h⟩, (HBW.out _ HB1.out).1⟩
      by_cases c1 : qq < qh
      · go_wp2_with fail
        go_ret
        exact ⟨⟨false, rfl, fun h => by cases h⟩, (HBW.out _ HB1.out).1⟩
      by_cases c2 : qq < 1
      · go_wp2_with fail
        go_ret
        exact ⟨⟨false, rfl, fun h => by cases h⟩, (HBW.out _ HB1.out).1⟩
      by_cases c3 : 1000000000 < qq
      · go_wp2_with fail
        go_ret
        exact ⟨⟨false, rfl, fun h => by cases h⟩, (HBW.out _ HB1.out).1⟩
      have HN4 := Lib.hid (HN3.out ⟨by omega, by omega, by omega, by omega⟩)
      go_wp2_with fail
      clear y4 y5 ylt c0 c1 c2 c3
      go_loopw [5] (fun i wx => ∃ q : Nat, q ≤ k ∧ i = .int .i64 (q : Int) ∧ Hid (Below w1.heap.size w1 wx)) (fun i _ => k - (intOf i).toNat)
      case atStart => exact ⟨0, by omega, rfl, Lib.hid (Below.refl _ _)⟩
      case round =>
        obtain ⟨q, hq, rfl, hx⟩ := hrel
        have HB2 := Lib.hid (HB1.out.trans (hx.out.mono HB1.out.size))
        obtain ⟨d4, dlt⟩ := HL4.out _ HB2.out
        by_cases hqk : q < k
        · have hql : q < (L 4).length := by omega
          have r2 := HRQ.out q hql
          obtain ⟨x, hxx⟩ : ∃ z, qnOf (L 4)[q] = z := ⟨_, rfl⟩
          rw [hxx] at r2
          obtain ⟨pb, pi, pl, ps, pq, ph⟩ := x
          have RA : Hid (∀ X : BW wr, X.W.rangeAt b (off + q * 6) [.string pb, .string pi, .string pl, .int .i64 ps]) := Lib.hid (fun X => range_key (r2 X.W (HBB.out.trans ((hx.out.mono HBB.out.size).trans (X.h.mono (Nat.le_trans HBB.out.size hx.out.size))))))
          have RB : Hid (∀ X : BW wr, X.W.rangeAt g1 0 [.string qb, .string qi, .string ql, .int .i64 qs]) := Lib.hid (fun X => range_part (cs := [.string qb, .string qi, .string ql, .int .i64 qs, .int .i64 qq, .int .i64 qh]) (pre := []) (post := [.int .i64 qq, .int .i64 qh]) ((X.h.block _ (Nat.lt_of_lt_of_le (lt_of_block HX1.out) hx.out.size)).trans ((hx.out.block _ (lt_of_block HX1.out)).trans HX1.out)))
          have R4 : Hid (∀ X : BW wr, X.W.cell? ⟨w.heap.size, 4, none⟩ = some (.slice (some ⟨b, off, none⟩) m (h.c 4))) := Lib.hid (fun X => by have := (HL4.out _ (HB2.out.trans (X.h.mono HB2.out.size))).1; rwa [HAA.out] at this)
          have i1 : (0 : Int) ≤ (q : Int) := by omega
          have i2 : (q : Int) < (m : Int) := by omega
          go_wp2_with fail
          clear d4 dlt
          by_cases hke : (Qn.mk pb pi pl ps pq ph).ky = (Qn.mk qb qi ql qs qq qh).ky
          · have heq : ∀ W, (binOp .eql 39 (.agg #[.string pb, .string pi, .string pl, .int .i64 ps]) (.agg #[.string qb, .string qi, .string ql, .int .i64 qs])).run Try.prog W = .ok (.bool true) W := fun W => by
              obtain ⟨b, e1, e2⟩ := eql_struct (P := Try.prog) eqKey (by decide) (Qn.mk pb pi pl ps pq ph).ky.cells (Qn.mk qb qi ql qs qq qh).ky.cells W (Ky.fits _) (Ky.fits _)
              rw [show b = true from e2.2 (by rw [hke])] at e1
              exact e1
            have x4 := R4.out
            refine wp_grow wr (by kernel_rfl) (by kernel_rfl) (Below.refl _ _) ?_
            simp only []
            iterate 5 go_big_quiet_step (fail)
            refine BigFrame.wpQuiet_want (by kernel_rfl) (fun K hK => quiet_load_mid 39 (.tmp 47) rfl b (off + q * 6) rfl [.string pb, .string pi, .string pl, .int .i64 ps] _ (fun W ⟨X, hX⟩ => by rw [hX]; exact RA.out X) huk rfl HS4.out (hK _ ?_))
            simp only [Act.put, List.setIfInBounds_toArray, List.set_cons_zero, List.set_cons_succ]
            go_big_quiet_step (fail)
            refine BigFrame.wpQuiet_want (by kernel_rfl) (fun K hK => quiet_load_mid 39 (.tmp 49) rfl g1 0 rfl [.string qb, .string qi, .string ql, .int .i64 qs] _ (fun W ⟨X, hX⟩ => by rw [hX]; exact RB.out X) huk rfl HS4.out (hK _ ?_))
            simp only [Act.put, List.setIfInBounds_toArray, List.set_cons_zero, List.set_cons_succ]
            go_big_quiet_step (fail)
            refine wpQuiet_nil ?_
            intro X
            clear x4 heq
            obtain ⟨w2, hb2⟩ := X
            simp only []
            have H2 := Lib.hid (hx.out.trans (hb2.mono hx.out.size))
            clear hb2
            go_wp2_with fail
            go_ret
            exact ⟨⟨false, rfl, fun h => by cases h⟩, (HBW.out _ (HB1.out.trans (H2.out.mono HB1.out.size))).1⟩
          · have heq : ∀ W, (binOp .eql 39 (.agg #[.string pb, .string pi, .string pl, .int .i64 ps]) (.agg #[.string qb, .string qi, .string ql, .int .i64 qs])).run Try.prog W = .ok (.bool false) W := fun W => by
              obtain ⟨b, e1, e2⟩ := eql_struct (P := Try.prog) eqKey (by decide) (Qn.mk pb pi pl ps pq ph).ky.cells (Qn.mk qb qi ql qs qq qh).ky.cells W (Ky.fits _) (Ky.fits _)
              rw [show b = false from by cases b with | false => rfl | true => exact absurd (Ky.cells_inj (e2.1 rfl)) hke] at e1
              exact e1
            have x4 := R4.out
            refine wp_grow wr (by kernel_rfl) (by kernel_rfl) (Below.refl _ _) ?_
            simp only []
            iterate 5 go_big_quiet_step (fail)
            refine BigFrame.wpQuiet_want (by kernel_rfl) (fun K hK => quiet_load_mid 39 (.tmp 47) rfl b (off + q * 6) rfl [.string pb, .string pi, .string pl, .int .i64 ps] _ (fun W ⟨X, hX⟩ => by rw [hX]; exact RA.out X) huk rfl HS4.out (hK _ ?_))
            simp only [Act.put, List.setIfInBounds_toArray, List.set_cons_zero, List.set_cons_succ]
            go_big_quiet_step (fail)
            refine BigFrame.wpQuiet_want (by kernel_rfl) (fun K hK => quiet_load_mid 39 (.tmp 49) rfl g1 0 rfl [.string qb, .string qi, .string ql, .int .i64 qs] _ (fun W ⟨X, hX⟩ => by rw [hX]; exact RB.out X) huk rfl HS4.out (hK _ ?_))
            simp only [Act.put, List.setIfInBounds_toArray, List.set_cons_zero, List.set_cons_succ]
            go_big_quiet_step (fail)
            refine wpQuiet_nil ?_
            intro X
            clear x4 heq
            obtain ⟨w2, hb2⟩ := X
            simp only []
            have H2 := Lib.hid (hx.out.trans (hb2.mono hx.out.size))
            clear hb2
            go_wp2_with fail
            go_roundw
            case rel => exact ⟨q + 1, by omega, by go_num, H2⟩
            case measure => simp [intOf]; omega
        · go_wp2_with fail
          go_roundw
          case rel => exact ⟨k + 1, by omega, by go_num, HN4, HB2⟩
          case measure => simp [intOf]; omega
    · go_wp2_with fail
      go_ret
      exact ⟨⟨true, rfl, fun _ e he => by
        obtain ⟨j, hj, rfl⟩ := List.mem_iff_getElem.1 he
        exact hno.out j hj (by have := HNM.out; omega)⟩, (HBW.out _ hw.out).1⟩
end Go.Proofs.Ytjacodbmmhnopaa
