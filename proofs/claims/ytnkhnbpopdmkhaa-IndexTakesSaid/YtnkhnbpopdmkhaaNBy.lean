/-
  CONTRACT of the code's byItem. (By wip/tools/gen_ncode.py.)
-/
import Derived.Test.YtnkhnbpopdmkhaaNByPl
import Derived.Test.YtnkhnbpopdmkhaaNElig
import Derived.Test.YtnkhnbpopdmkhaaWRefA
import Derived.Test.YtnkhnbpopdmkhaaHAppK
import Derived.Test.YtnkhnbpopdmkhaaHLastN
import Derived.Test.YtnkhnbpopdmkhaaNRow
import Derived.Deep.CutRange
import Derived.Carry
namespace Go.Proofs.Ytnkhnbpopdmkhaa
set_option linter.unusedVariables false
open Go.RowKit
open Pl (firstG findG putG It firstG_none firstG_some)

open Go.Maps
set_option maxRecDepth 100000 in
set_option maxHeartbeats 6400000 in
theorem cby (h : Hs) (L : Nat → List (List Value)) (w : World) (hh : HT h L w) (hn6 : h.n 4 ≤ 1000) (hm : MildL L) :
    Calls Try.prog 22 #[.agg h.cells] w (ByP L w) := by
  obtain ⟨i0, z0, hi0, hz0, hz1, hz2, hz3⟩ := info_thing (P := Try.prog) (T := 69) (sz := 8) (by kernel_rfl)
  have hby : ∀ x, x ≤ 1000000 → x * i0.bytes ≤ 140737488355328 := fun x hx => Nat.le_trans (Nat.mul_le_mul hx hz3) (by decide)
  have HBY := Lib.hid hby
  clear hby
  have huS := Try.underlying69
  have huq := Try.underlying45
  have HS8 : Hid (∀ x : List Value, x.length = 8 → (Try.prog.info? 69).map (·.size) = some x.toArray.size) := Lib.hid (fun x hx => by rw [List.size_toArray, hx]; kernel_rfl)
  have HSQ6 : Hid ((Try.prog.info? 45).map (·.size) = some 6) := Lib.hid (by kernel_rfl)
  have HQ1 : Hid (∀ (a b c : ByteArray) (d e f : Int), (#[.string a, .string b, .string c, .int .i64 d, .int .i64 e, .int .i64 f] : Array Value).all (·.oneCell') = true) := Lib.hid (fun _ _ _ _ _ _ => by simp [Value.oneCell'])
  have HQS : Hid (∀ (a b c : ByteArray) (d e f : Int), (Try.prog.info? 45).map (·.size) = some (#[.string a, .string b, .string c, .int .i64 d, .int .i64 e, .int .i64 f] : Array Value).size) := Lib.hid (fun _ _ _ _ _ _ => by kernel_rfl)
  have huk := Try.underlying43
  have HSK4 : Hid ((Try.prog.info? 43).map (·.size) = some 4) := Lib.hid (by kernel_rfl)
  have huh := Try.underlying37
  have HSH : Hid (∀ a : Hs, (Try.prog.info? 37).map (·.size) = some a.cells.size) := Lib.hid (fun a => by kernel_rfl)
  have hmm := @run_makeMap Try.prog
  have HHT := Lib.hid hh
  have HMI := Lib.hid hm
  obtain ⟨m, hmm2⟩ : ∃ m, h.n 4 = m := ⟨_, rfl⟩
  have HNM : Hid (m = (L 4).length) := Lib.hid (by rw [← hmm2]; exact (hh 4 (by decide)).1)
  rw [hmm2] at hn6
  have HMM := Lib.hid hmm2
  clear hmm2
  obtain ⟨A0, hA0⟩ : ∃ A, h.A 4 = A := ⟨_, rfl⟩
  have HA0 := Lib.hid hA0
  clear hA0
  obtain ⟨W0, hW0⟩ : ∃ W, W = ((w.alloc (.cells h.cells 37)).alloc (.map #[] 0)).alloc (.map #[] 0) := ⟨_, rfl⟩
  have hb0 : Below w.heap.size w W0 := by rw [hW0]; exact (((Below.refl _ _).alloc (Nat.le_refl _) _).alloc (by simp) _).alloc (by simp <;> omega) _
  have HB0 := Lib.hid hb0
  have HS0 : Hid (W0.heap.size = w.heap.size + 3) := Lib.hid (by rw [hW0]; simp)
  have HH0 : Hid (W0.heap[w.heap.size]? = some (.cells h.cells 37 (0, 0))) := Lib.hid (by
    rw [hW0]
    exact (Below.heap_alloc _ _ _ (by simp <;> omega)).trans ((Below.heap_alloc _ _ _ (by simp)).trans (heap_alloc_new w _)))
  have HI0 : Hid (ByI L (w.heap.size + 3) (w.heap.size + 1) (w.heap.size + 2) 0 W0) := Lib.hid (ByI.start (by
    have hg := GM.made 9 (w.alloc (.cells h.cells 37)) 0
    have e : (w.alloc (.cells h.cells 37)).heap.size = w.heap.size + 1 := by simp
    rw [e] at hg
    exact hg.kept (by rw [hW0]; exact Below.heap_alloc _ _ _ (by simp))) (by
    have hg := GM.made kyT ((w.alloc (.cells h.cells 37)).alloc (.map #[] 0)) 0
    have e : ((w.alloc (.cells h.cells 37)).alloc (.map #[] 0)).heap.size = w.heap.size + 2 := by simp
    rw [e] at hg
    rw [hW0]; exact hg))
  have HWE := Lib.hid hW0
  have d4 : W0.cell? ⟨w.heap.size, 4, none⟩ = some (.slice A0 m (h.c 4)) := by rw [cell_of_block HH0.out, ← HMM.out, ← HA0.out]; rfl
  have dlt := lt_of_block HH0.out
  clear hb0 hW0 hh hm
  go_enter Try.func22, Try.ntmps22
  go_upto_region 2 with fail
  rw [← HWE.out]
  go_wp2_with fail
  clear d4 dlt hmm
  go_loopw [14] (fun iv wr => ∃ k : Nat, k ≤ m ∧ iv = .int .i64 (k : Int) ∧ Hid (ByI L (w.heap.size + 3) (w.heap.size + 1) (w.heap.size + 2) k wr) ∧ Hid (wr.heap[w.heap.size]? = some (.cells h.cells 37 (0, 0))) ∧ Hid (Below w.heap.size w wr) ∧ Hid (w.heap.size + 3 ≤ wr.heap.size)) (fun iv _ => m - (intOf iv).toNat)
  case atStart => exact ⟨0, by omega, rfl, HI0, HH0, HB0, Lib.hid (by rw [HS0.out]; exact Nat.le_refl _)⟩
  case round =>
    obtain ⟨k, hk, rfl, HI, HH, hw, HSZ⟩ := hrel
    by_cases hlt : k < m
    · skip
      have hkl : k < (L 4).length := by rw [← HNM.out]; exact hlt
      have HTR : Hid (HT h L wr) := Lib.hid (HHT.out.below hw.out)
      obtain ⟨b, off, hA, hb, r1⟩ := quant_atW HTR.out hkl
      have hqc := qA_cells HTR.out hkl
      have hqa := qA_at (L 4) k hkl
      have hfq : Fits kQuant (qA (L 4) k) := by rw [hqa]; exact (HTR.out 4 (by decide)).2.2.1 _ (List.getElem_mem hkl)
      have hmq := mild_q HMI.out hkl hfq
      obtain ⟨r, hr⟩ : ∃ r, elB (L 2) (L 3) (qA (L 4) k) = r := ⟨_, rfl⟩
      obtain ⟨X, hX⟩ : ∃ X, elE (L 1) (L 2) (L 3) (qA (L 4) k) = X := ⟨_, rfl⟩
      have HXF : Hid (Fits kstand X) := Lib.hid (by rw [← hX]; unfold elE; split; exact stE_fits _ _ _ _ _; exact zSd.fits)
      have HRE := Lib.hid hr
      have HQC := Lib.hid hqc
      obtain ⟨sg, hsg⟩ : ∃ z, siteT (L 2) (L 3) (qnOf (qA (L 4) k)).bin = z := ⟨_, rfl⟩
      obtain ⟨dz, hdz⟩ : ∃ z, dayQ (L 1) (qA (L 4) k) = z := ⟨_, rfl⟩
      obtain ⟨fr, hfr⟩ : ∃ z, frQ (qA (L 4) k) = z := ⟨_, rfl⟩
      obtain ⟨x, hx⟩ : ∃ x, qnOf (qA (L 4) k) = x := ⟨_, rfl⟩
      have hXE : r = true → X = [.string x.bin, .string x.item, .string x.lot, .int .i64 x.st, .string sg, .int .i64 dz, .int .i64 0, .int .i64 fr] := fun h => by rw [← hX]; unfold elE; rw [hr, if_pos h, ← hx, ← hsg, ← hdz, ← hfr]; rfl
      have hSA : stA L (twN L) k = [.string x.bin, .string x.item, .string x.lot, .int .i64 x.st, .string sg, .int .i64 dz, .int .i64 (cntK L x.ky k : Nat), .int .i64 fr] := by
        unfold stA stE stS twN
        rw [hsg, hdz, hfr, hx]
        rfl
      rw [hqc] at hr hX
      rw [hx] at r1 hr hX hmq
      have HXE := Lib.hid hXE
      have HSA := Lib.hid hSA
      have HMQ := Lib.hid hmq
      have HXQ := Lib.hid hx
      clear hXE hSA hmq hsg hdz hfr hfq hqa hx
      obtain ⟨qb, qi, ql, qs, qq, qh⟩ := x
      unfold Qn.cells at r1 hr hX
      have CE : Hid (∀ W, HT h L W → Calls Try.prog 25 #[.agg h.cells, .agg #[.string qb, .string qi, .string ql, .int .i64 qs, .int .i64 qq, .int .i64 qh]] W fun e w' => e = .returned (.tuple #[.agg X.toArray, .bool r]) ∧ Below W.heap.size W w') := Lib.hid (fun W hW => by have := celig h L qb qi ql qs qq qh W hW; rw [hX, hr] at this; exact this)
      have HR1 := Lib.hid r1
      have HBL := Lib.hid hb
      have HKL := Lib.hid hkl
      rw [HA0.out] at hA
      subst hA
      clear hqc hr hX r1 hb hkl
      have h1 : (0 : Int) ≤ (k : Int) := by omega
      have h2 : (k : Int) < (m : Int) := by omega
      have HBX : Hid ((wr.alloc (.cells #[.string ⟨#[]⟩, .string ⟨#[]⟩, .string ⟨#[]⟩, .int .i64 0, .int .i64 0, .int .i64 0] 45)).heap[wr.heap.size]? = some (.cells #[.string ⟨#[]⟩, .string ⟨#[]⟩, .string ⟨#[]⟩, .int .i64 0, .int .i64 0, .int .i64 0] 45 (0, 0))) := Lib.hid (heap_alloc_new _ _)
      obtain ⟨w1, hw1⟩ : ∃ W, W = (wr.alloc (.cells #[.string ⟨#[]⟩, .string ⟨#[]⟩, .string ⟨#[]⟩, .int .i64 0, .int .i64 0, .int .i64 0] 45)).setRow wr.heap.size #[.string qb, .string qi, .string ql, .int .i64 qs, .int .i64 qq, .int .i64 qh] := ⟨_, rfl⟩
      have HB1 : Hid (Below wr.heap.size wr w1) := Lib.hid (by rw [hw1]; exact setRow_below ((Below.refl _ _).alloc (Nat.le_refl _) _) (Nat.le_refl _) _)
      have HQB : Hid (w1.heap[wr.heap.size]? = some (.cells #[.string qb, .string qi, .string ql, .int .i64 qs, .int .i64 qq, .int .i64 qh] 45 (0, 0))) := Lib.hid (by rw [hw1]; exact setRow_heap _ _ _ _ _ _ HBX.out)
      have HH1 : Hid (w1.heap[w.heap.size]? = some (.cells h.cells 37 (0, 0))) := Lib.hid ((HB1.out.block _ (lt_of_block HH.out)).trans HH.out)
      have HW1 := Lib.hid hw1
      clear hw1
      go_upto_region 5 with (first
        | (refine wpList_load_mid rfl 45 (.tmp 16) rfl b (off + k * 6) rfl [.string qb, .string qi, .string ql, .int .i64 qs, .int .i64 qq, .int .i64 qh] _ HR1.out huq rfl HSQ6.out ?_)
        | (refine wpList_store_row rfl 45 (.tmp 6) (.tmp 17) rfl wr.heap.size #[.string qb, .string qi, .string ql, .int .i64 qs, .int .i64 qq, .int .i64 qh] rfl rfl _ _ HBX.out (HQS.out _ _ _ _ _ _) rfl (HQ1.out _ _ _ _ _ _) ?_)
        | fail)
      rw [← HW1.out]
      clear h1 h2
      go_wp2_with (first
        | (refine wpList_load_row rfl 37 (.tmp 1) rfl w.heap.size rfl _ _ _ _ HH1.out huh rfl (HSH.out _) ?_)
        | (refine wpList_load_row rfl 45 (.tmp 6) rfl wr.heap.size rfl _ _ _ _ HQB.out huq rfl (HQS.out _ _ _ _ _ _) ?_)
        | fail)
      refine (CE.out _ (HTR.out.below HB1.out)).mono ?_
      rintro e w2 ⟨rfl, hb2⟩
      have HBY2 : Hid ((w2.alloc (.cells #[.string ⟨#[]⟩, .string ⟨#[]⟩, .string ⟨#[]⟩, .int .i64 0, .string ⟨#[]⟩, .int .i64 0, .int .i64 0, .int .i64 0] 69)).heap[w2.heap.size]? = some (.cells #[.string ⟨#[]⟩, .string ⟨#[]⟩, .string ⟨#[]⟩, .int .i64 0, .string ⟨#[]⟩, .int .i64 0, .int .i64 0, .int .i64 0] 69 (0, 0))) := Lib.hid (heap_alloc_new _ _)
      obtain ⟨w3, hw3⟩ : ∃ W, W = (w2.alloc (.cells #[.string ⟨#[]⟩, .string ⟨#[]⟩, .string ⟨#[]⟩, .int .i64 0, .string ⟨#[]⟩, .int .i64 0, .int .i64 0, .int .i64 0] 69)).setRow w2.heap.size X.toArray := ⟨_, rfl⟩
      have HB23 : Hid (Below w2.heap.size w2 w3) := Lib.hid (by rw [hw3]; exact setRow_below ((Below.refl _ _).alloc (Nat.le_refl _) _) (Nat.le_refl _) _)
      have HB13 := Lib.hid (hb2.trans (HB23.out.mono hb2.size))
      have HB3 := Lib.hid (HB1.out.trans (HB13.out.mono HB1.out.size))
      have HSZX : Hid ((#[.string ⟨#[]⟩, .string ⟨#[]⟩, .string ⟨#[]⟩, .int .i64 0, .string ⟨#[]⟩, .int .i64 0, .int .i64 0, .int .i64 0] : Array Value).size = X.toArray.size) := Lib.hid (by rw [List.size_toArray, List.size_toArray, HXF.out.length]; rfl)
      have HX1 := Lib.hid (all_oneCell_toArray (fits_one HXF.out))
      have HXB : Hid (w3.heap[w2.heap.size]? = some (.cells X.toArray 69 (0, 0))) := Lib.hid (by rw [hw3]; exact setRow_heap _ _ _ _ _ _ HBY2.out)
      have HQB3 := Lib.hid ((HB13.out.block _ (lt_of_block HQB.out)).trans HQB.out)
      have HLT2 : Hid (wr.heap.size < w2.heap.size) := Lib.hid (Nat.lt_of_lt_of_le (lt_of_block HQB.out) hb2.size)
      have HH3 : Hid (w3.heap[w.heap.size]? = some (.cells h.cells 37 (0, 0))) := Lib.hid ((HB3.out.block _ (lt_of_block HH.out)).trans HH.out)
      have HW3 := Lib.hid hw3
      have HXL : Hid (X.length = 8) := Lib.hid HXF.out.length
      clear hw3 hb2
      go_upto_region 6 with (first
        | (refine wpList_store_row rfl 69 (.tmp 7) (.tmp 22) rfl w2.heap.size X.toArray rfl rfl _ _ HBY2.out (HS8.out _ HXL.out) HSZX.out HX1.out ?_)
        | fail)
      rw [← HW3.out]
      cases r with
      | false =>
        have HIN := Lib.hid (HI.out.skip HKL.out HRE.out HB3.out)
        have HWN := Lib.hid (hw.out.trans (HB3.out.mono hw.out.size))
        have HSN := Lib.hid (Nat.le_trans HSZ.out HB3.out.size)
        go_wp2_with fail
        go_roundw
        case rel => exact ⟨k + 1, by omega, by go_num, HIN, HH3, HWN, HSN⟩
        case measure => simp [intOf]; omega
      | true =>
        have hxe := HXE.out rfl
        subst hxe
        obtain ⟨f, ft, G, CC, HF0⟩ := HI.out
        obtain ⟨cn, hcn⟩ : ∃ z, cntK L (Qn.mk qb qi ql qs qq qh).ky k = z := ⟨_, rfl⟩
        have HCN := Lib.hid hcn
        have hmk := HMQ.out.1
        have hkk := key_k hmk
        have htw := HF0.tw _ hmk
        rw [hcn] at htw
        have hgt3 := HF0.gt.kept (HB3.out.block _ HF0.gt.lt)
        have hlk := hgt3.look (t := 95) (Keyed.of_law kyLaw) Try.underlying95 (z := .int .i64 0) (Try.zeroValue3 w3) hkk
        have hval : (ft (kk (Qn.mk qb qi ql qs qq qh).ky)).getD (.int .i64 0) = .int .i64 (cn : Int) := by
          rw [htw]
          by_cases h0 : cn = 0
          · rw [if_pos h0, h0]; rfl
          · rw [if_neg h0]; rfl
        rw [hval] at hlk
        have hky : (Qn.mk qb qi ql qs qq qh).ky.cells.toArray = #[.string qb, .string qi, .string ql, .int .i64 qs] := rfl
        rw [hky] at hlk
        have HRK3 : Hid (w3.rangeAt wr.heap.size 0 [.string qb, .string qi, .string ql, .int .i64 qs]) := Lib.hid (range_part HQB3.out (cs := [.string qb, .string qi, .string ql, .int .i64 qs, .int .i64 qq, .int .i64 qh]) (pre := []) (post := [.int .i64 qq, .int .i64 qh]))
        have c6 : w3.cell? ⟨w2.heap.size, 6, none⟩ = some (.int .i64 0) := by rw [cell_of_block HXB.out]; rfl
        have f6 : w3.frozen? ⟨w2.heap.size, 6, none⟩ = false := frozen_of_block HXB.out
        have hl7 := lt_of_block HXB.out
        obtain ⟨w4, hw4⟩ : ∃ W, W = w3.setCell ⟨w2.heap.size, 6, none⟩ (.int .i64 (cn : Int)) := ⟨_, rfl⟩
        have HX4 : Hid (w4.heap[w2.heap.size]? = some (.cells #[.string qb, .string qi, .string ql, .int .i64 qs, .string sg, .int .i64 dz, .int .i64 (cn : Int), .int .i64 fr] 69 (0, 0))) := Lib.hid (by rw [hw4, block_setCell HXB.out]; rfl)
        have ho4 : ∀ j, j ≠ w2.heap.size → w4.heap[j]? = w3.heap[j]? := fun j hj => by rw [hw4]; exact Below.heap_setCell _ _ _ _ hj
        have HO4 := Lib.hid ho4
        have HB4 : Hid (Below wr.heap.size wr w4) := Lib.hid (by rw [hw4]; exact HB3.out.setCell (Nat.le_of_lt HLT2.out) _)
        have HW4 := Lib.hid hw4
        clear hw4 ho4
        go_upto_region 8 with (first
          | (refine wpList_load_mid rfl 43 (.tmp 26) rfl wr.heap.size 0 rfl [.string qb, .string qi, .string ql, .int .i64 qs] _ HRK3.out huk rfl HSK4.out ?_)
          | fail)
        rw [← HW4.out]
        clear c6 f6 hl7 hlk
        have hne4 : w.heap.size + 2 ≠ w2.heap.size := by have := HSZ.out; have := HLT2.out; omega
        have hgd : GM kyT w4.drew (w.heap.size + 2) k ft := (hgt3.kept (HO4.out _ hne4)).kept rfl
        obtain ⟨v0, st, w5, q1, q2, q3, q4⟩ := hgd.entry (t := 95) kyLaw Try.underlying95 (by simp only [maxLen]; omega) (z := .int .i64 0) (Try.zeroValue3) hkk
        rw [hval] at q3
        rw [hky] at q1
        have hlk4 := hgd.look (t := 95) (Keyed.of_law kyLaw) Try.underlying95 (z := .int .i64 0) (Try.zeroValue3 _) hkk
        rw [hval, hky] at hlk4
        have hlk5 := q3.look (t := 95) (Keyed.of_law kyLaw) Try.underlying95 (z := .int .i64 0) (Try.zeroValue3 _) hkk
        rw [updL_same _ (by trivial), hky] at hlk5
        simp only [Option.getD_some] at hlk5
        have HQB4 : Hid (w4.heap[wr.heap.size]? = some (.cells #[.string qb, .string qi, .string ql, .int .i64 qs, .int .i64 qq, .int .i64 qh] 45 (0, 0))) := Lib.hid ((HO4.out _ (Nat.ne_of_lt HLT2.out)).trans HQB3.out)
        have HQB5 : Hid (w5.heap[wr.heap.size]? = some (.cells #[.string qb, .string qi, .string ql, .int .i64 qs, .int .i64 qq, .int .i64 qh] 45 (0, 0))) := Lib.hid ((q2.grown.block _ (lt_of_block HQB4.out) (fun e => by injection e with e; have := HSZ.out; omega)).trans HQB4.out)
        have HS4 : Hid (w4.drew.rangeAt wr.heap.size 0 [.string qb, .string qi, .string ql, .int .i64 qs] ∧ (Instr.lookup 95 (.map (some (w.heap.size + 2))) (.agg #[.string qb, .string qi, .string ql, .int .i64 qs]) false).run Try.prog w4.drew = .ok (.int .i64 (cn : Int)) w4.drew) := Lib.hid ⟨range_part (W := w4.drew) HQB4.out (cs := [.string qb, .string qi, .string ql, .int .i64 qs, .int .i64 qq, .int .i64 qh]) (pre := []) (post := [.int .i64 qq, .int .i64 qh]), hlk4⟩
        have HS5 : Hid (w5.rangeAt wr.heap.size 0 [.string qb, .string qi, .string ql, .int .i64 qs] ∧ (Instr.lookup 95 (.map (some (w.heap.size + 2))) (.agg #[.string qb, .string qi, .string ql, .int .i64 qs]) false).run Try.prog w5 = .ok (.int .i64 (cn : Int)) w5) := Lib.hid ⟨range_part (W := w5) HQB5.out (cs := [.string qb, .string qi, .string ql, .int .i64 qs, .int .i64 qq, .int .i64 qh]) (pre := []) (post := [.int .i64 qq, .int .i64 qh]), hlk5⟩
        obtain ⟨w6, p1, p2, p3⟩ := q4 (.int .i64 ((cn : Int) + 1))
        have hcb : cn ≤ 1000 := by rw [← hcn]; exact Nat.le_trans (cntK_le L _ k) (by omega)
        obtain ⟨stz, hstz⟩ : ∃ z : Int, (st : Int) = z := ⟨_, rfl⟩
        rw [hstz] at q1 p1
        have HQ2 := Lib.hid q2
        have HP2 := Lib.hid p2
        have HP3 := Lib.hid p3
        clear q2 q3 q4 p2 p3 hlk4 hlk5 hgd hgt3 hstz
        refine lastN_region (S := fun w' => w'.rangeAt wr.heap.size 0 [.string qb, .string qi, .string ql, .int .i64 qs] ∧ (Instr.lookup 95 (.map (some (w.heap.size + 2))) (.agg #[.string qb, .string qi, .string ql, .int .i64 qs]) false).run Try.prog w' = .ok (.int .i64 (cn : Int)) w') (n := 7) (by kernel_rfl) ?_
        refine LastN.pure (i := 0) (v := .map (some (w.heap.size + 2))) rfl (by kernel_rfl) (by kernel_rfl) (by kernel_rfl) (by decide) (fun _ _ _ h => h.elim) (.inl ⟨by kernel_rfl, fun w hw => by clear hw; go_simp⟩) (fun _ => HS4.out) ?_
        (try simp only [Act.put, List.getElem_toArray, List.getElem_cons_zero, List.setIfInBounds_toArray, List.set_cons_zero, List.set_cons_succ])
        refine LastN.pure (i := 1) (v := .pointer (some ⟨wr.heap.size, 0, none⟩)) rfl (by kernel_rfl) (by kernel_rfl) (by kernel_rfl) (by decide) (fun _ _ _ h => h.elim) (.inl ⟨by kernel_rfl, fun w hw => by clear hw; go_simp⟩) (fun _ => HS4.out) ?_
        (try simp only [Act.put, List.getElem_toArray, List.getElem_cons_succ, List.getElem_cons_zero, List.setIfInBounds_toArray, List.set_cons_zero, List.set_cons_succ])
        refine LastN.take (i := 2) (v := .agg #[.string qb, .string qi, .string ql, .int .i64 qs]) rfl (by kernel_rfl) (by kernel_rfl) (by kernel_rfl) (by kernel_rfl) (by kernel_rfl) (by decide) (fun _ _ _ h => h.elim) (yieldsIf_load_mid (by kernel_rfl) 43 (.tmp 31) rfl wr.heap.size 0 rfl [.string qb, .string qi, .string ql, .int .i64 qs] _ (fun w h => h.1) huk rfl HSK4.out) HS4.out ?_
        (try simp only [Act.put, List.getElem_toArray, List.getElem_cons_succ, List.getElem_cons_zero, List.setIfInBounds_toArray, List.set_cons_zero, List.set_cons_succ])
        refine LastN.take (i := 3) (v := .int .i64 (cn : Int)) rfl (by kernel_rfl) (by kernel_rfl) (by kernel_rfl) (by kernel_rfl) (by kernel_rfl) (by decide) (fun _ _ _ h => h.elim) (.inl ⟨by kernel_rfl, fun w h => by have hw := h.2; clear h; go_simp⟩) HS4.out ?_
        (try simp only [Act.put, List.getElem_toArray, List.getElem_cons_succ, List.getElem_cons_zero, List.setIfInBounds_toArray, List.set_cons_zero, List.set_cons_succ])
        have hwi : IntKind.i64.wrap ((cn : Int) + 1) = (cn : Int) + 1 := IntWalk.i64_in _ (by omega)
        refine LastN.pure (i := 4) (v := .int .i64 ((cn : Int) + 1)) rfl (by kernel_rfl) (by kernel_rfl) (by kernel_rfl) (by decide) (fun _ _ _ h => h.elim) (.inl ⟨by kernel_rfl, fun w hw => by clear hw; go_simp⟩) (fun _ => HS4.out) ?_
        (try simp only [Act.put, List.getElem_toArray, List.getElem_cons_succ, List.getElem_cons_zero, List.setIfInBounds_toArray, List.set_cons_zero, List.set_cons_succ])
        refine LastN.one (i := 5) (by kernel_rfl) rfl (fun K hK => ?_)
        go_simp
        refine hK.out _ _ (fun _ _ => HS5.out) (fun _ => ?_)
        clear hK K
        (try simp only [Act.put, List.getElem_toArray, List.getElem_cons_succ, List.getElem_cons_zero, List.setIfInBounds_toArray, List.set_cons_zero, List.set_cons_succ])
        refine LastN.pure (i := 6) (v := .int .i64 stz) rfl (by kernel_rfl) (by kernel_rfl) (by kernel_rfl) (by decide) (fun _ _ _ h => h.elim) (.inl ⟨by kernel_rfl, fun w hw => by clear hw; go_simp⟩) (fun _ => HS5.out) ?_
        (try simp only [Act.put, List.getElem_toArray, List.getElem_cons_succ, List.getElem_cons_zero, List.setIfInBounds_toArray, List.set_cons_zero, List.set_cons_succ])
        refine LastN.one (i := 7) (by kernel_rfl) rfl (fun K hK => ?_)
        go_simp
        refine hK.out _ _ (fun _ h => absurd rfl h) (fun _ => ?_)
        clear hK K
        (try simp only [Act.put, List.getElem_toArray, List.getElem_cons_succ, List.getElem_cons_zero, List.setIfInBounds_toArray, List.set_cons_zero, List.set_cons_succ])
        refine LastN.done (by kernel_rfl) ?_ _
        refine NoPanic.normal ?_
        clear p1 q1 hwi
        have hs46 := HP3.out.grown.size
        have hs46' : w4.heap.size ≤ w6.heap.size := hs46
        have hne1 : w.heap.size + 1 ≠ w2.heap.size := by have := HSZ.out; have := HLT2.out; omega
        have ho6 : ∀ j, j < w4.heap.size → j ≠ w.heap.size + 2 → w6.heap[j]? = w4.heap[j]? := fun j h1 h2 => HP3.out.grown.block j h1 (fun e => h2 (by injection e))
        have hgl6 : GM 9 w6 (w.heap.size + 1) k f := HF0.gl.kept (by
          rw [ho6 _ (by have := HF0.gl.lt; have := HB4.out.size; omega) (by omega)]
          exact HB4.out.block _ HF0.gl.lt)
        have HQB6 : Hid (w6.heap[wr.heap.size]? = some (.cells #[.string qb, .string qi, .string ql, .int .i64 qs, .int .i64 qq, .int .i64 qh] 45 (0, 0))) := Lib.hid ((ho6 _ (lt_of_block HQB4.out) (by have := HSZ.out; omega)).trans HQB4.out)
        have HX6 : Hid (w6.heap[w2.heap.size]? = some (.cells #[.string qb, .string qi, .string ql, .int .i64 qs, .string sg, .int .i64 dz, .int .i64 (cn : Int), .int .i64 fr] 69 (0, 0))) := Lib.hid ((ho6 _ (lt_of_block HX4.out) (by have := HSZ.out; have := HLT2.out; omega)).trans HX4.out)
        have hki := key_s hmk.2.1
        change keyOf _ _ (.string qi) = some (sk qi) at hki
        obtain ⟨m1, hm1⟩ : ∃ z, (idxK L qi k).length = z := ⟨_, rfl⟩
        have hm1k : m1 ≤ 1000 := by rw [← hm1]; exact Nat.le_trans (idxK_len L qi k) (by omega)
        obtain ⟨A, c, hXv, hXo, hXA⟩ : ∃ A c, (f (sk qi)).getD (.slice none 0 0) = .slice A m1 c ∧ w6.ownsRow 0 69 8 (.slice A m1 c) m1 (idxK L qi k).flatten ∧ (A = none ∧ idxK L qi k = [] ∨ A = some ⟨G qi, 0, none⟩ ∧ idxK L qi k ≠ []) := by
          by_cases hne : idxK L qi k = []
          · rw [hne] at hm1
            subst hm1
            exact ⟨none, 0, by rw [HF0.no qi hne]; rfl, by rw [hne]; exact ⟨rfl, .inl ⟨rfl, rfl⟩⟩, .inl ⟨rfl, hne⟩⟩
          · have hy := HF0.yes qi hne
            rw [hm1] at hy
            have hrow := hy.2.1
            unfold RowS at hrow
            rw [hm1] at hrow
            have hgl := own_ltS hrow
            have := hy.2.2
            exact ⟨_, _, by rw [hy.1]; rfl, row_kept hrow ((ho6 _ (by have := HB4.out.size; omega) (by omega)).trans (HB4.out.block _ hgl)), .inr ⟨rfl, hne⟩⟩
        have hAlt : ∀ j, some j = (Value.slice A m1 c).ownBlock → j < wr.heap.size ∧ w.heap.size + 3 ≤ j := fun j hj => by
          rcases hXA with ⟨rfl, _⟩ | ⟨rfl, h2⟩
          · simp [Value.ownBlock] at hj
          · simp only [Value.ownBlock, Option.some.injEq] at hj
            rw [hj]
            exact ⟨own_ltS (HF0.yes qi h2).2.1, (HF0.yes qi h2).2.2⟩
        have HST : Hid (∀ W : World, W.heap[wr.heap.size]? = w6.heap[wr.heap.size]? → W.heap[w2.heap.size]? = w6.heap[w2.heap.size]? → W.heap[(w.heap.size + 1)]? = w6.heap[(w.heap.size + 1)]? → W.cell? ⟨wr.heap.size, 1, none⟩ = some (.string qi) ∧ W.rangeAt w2.heap.size 0 [.string qb, .string qi, .string ql, .int .i64 qs, .string sg, .int .i64 dz, .int .i64 (cn : Int), .int .i64 fr] ∧ (Instr.lookup 72 (.map (some (w.heap.size + 1))) (.string qi) false).run Try.prog W = .ok (.slice A m1 c) W) := Lib.hid (fun W a1 a2 a3 => ⟨by rw [cell_of_block (a1.trans HQB6.out)]; rfl, range_row0 (a2.trans HX6.out), by
          have := (hgl6.kept a3).look (t := 72) keyedS Try.underlying72 (z := .slice none 0 0) (Try.zeroValue65 W) hki
          rw [hXv] at this
          exact this⟩)
        have HSD := Lib.hid (HST.out w6.drew rfl rfl rfl)
        obtain ⟨w7, hw7⟩ : ∃ W, W = w6.drew.alloc (.cells #[.string qb, .string qi, .string ql, .int .i64 qs, .string sg, .int .i64 dz, .int .i64 (cn : Int), .int .i64 fr] 69) := ⟨_, rfl⟩
        have HB7 : Hid (Below w6.heap.size w6 w7) := Lib.hid (by rw [hw7]; exact (Below.refl _ _).drew.alloc (Nat.le_refl _) _)
        have hs7 : w7.heap.size = w6.heap.size + 1 := by rw [hw7]; simp
        have HV7 : Hid (w7.heap[w6.heap.size]? = some (.cells #[.string qb, .string qi, .string ql, .int .i64 qs, .string sg, .int .i64 dz, .int .i64 (cn : Int), .int .i64 fr] 69 (0, 0))) := Lib.hid (by rw [hw7]; exact heap_alloc_new w6.drew _)
        have hlt6 := lt_of_block HQB6.out
        have hlt6' := lt_of_block HX6.out
        have hlt6'' := hgl6.lt
        have HS7 := Lib.hid (HST.out w7 (HB7.out.block _ hlt6) (HB7.out.block _ hlt6') (HB7.out.block _ hlt6''))
        have HO7 : Hid (w7.ownsRow 0 69 8 (.slice A m1 c) m1 (idxK L qi k).flatten) := Lib.hid (by
          rcases hXA with ⟨rfl, h2⟩ | ⟨rfl, h2⟩
          · exact ⟨hXo.1, .inl (by rcases hXo.2 with h | ⟨g, cap, cur, hv, _⟩; exact h; cases hv)⟩
          · exact row_kept hXo (HB7.out.block _ (own_ltS hXo)))
        have HLK7 := Lib.hid hgl6
        have HXA := Lib.hid hXA
        have HALT := Lib.hid hAlt
        have HKI := Lib.hid hki
        have HM1 := Lib.hid hm1
        have HW7 := Lib.hid hw7
        have HO6 := Lib.hid ho6
        have HF0 := Lib.hid HF0
        have HMK := Lib.hid hmk
        clear hgl6 hXA hAlt hki hm1 hw7 ho6 hXv hXo hkk htw hval
        go_upto_region 9 with fail
        refine lastN_region (S := fun w' => w'.cell? ⟨wr.heap.size, 1, none⟩ = some (.string qi) ∧ w'.rangeAt w2.heap.size 0 [.string qb, .string qi, .string ql, .int .i64 qs, .string sg, .int .i64 dz, .int .i64 (cn : Int), .int .i64 fr] ∧ (Instr.lookup 72 (.map (some (w.heap.size + 1))) (.string qi) false).run Try.prog w' = .ok (.slice A m1 c) w') (n := 12) (by kernel_rfl) ?_
        refine LastN.pure (i := 0) (v := .map (some (w.heap.size + 1))) rfl (by kernel_rfl) (by kernel_rfl) (by kernel_rfl) (by decide) (fun _ _ _ h => h.elim) (.inl ⟨by kernel_rfl, fun w hw => by clear hw; go_simp⟩) (fun _ => HSD.out) ?_
        (try simp only [Act.put, List.getElem_toArray, List.getElem_cons_zero, List.setIfInBounds_toArray, List.set_cons_zero, List.set_cons_succ])
        refine LastN.pure (i := 1) (v := .pointer (some ⟨wr.heap.size, 0, none⟩)) rfl (by kernel_rfl) (by kernel_rfl) (by kernel_rfl) (by decide) (fun _ _ _ h => h.elim) (.inl ⟨by kernel_rfl, fun w hw => by clear hw; go_simp⟩) (fun _ => HSD.out) ?_
        (try simp only [Act.put, List.getElem_toArray, List.getElem_cons_succ, List.getElem_cons_zero, List.setIfInBounds_toArray, List.set_cons_zero, List.set_cons_succ])
        refine LastN.pure (i := 2) (v := .pointer (some ⟨wr.heap.size, 1, none⟩)) rfl (by kernel_rfl) (by kernel_rfl) (by kernel_rfl) (by decide) (fun _ _ _ h => h.elim) (.inl ⟨by kernel_rfl, fun w hw => by clear hw; go_simp⟩) (fun _ => HSD.out) ?_
        (try simp only [Act.put, List.getElem_toArray, List.getElem_cons_succ, List.getElem_cons_zero, List.setIfInBounds_toArray, List.set_cons_zero, List.set_cons_succ])
        refine LastN.take (i := 3) (v := .string qi) rfl (by kernel_rfl) (by kernel_rfl) (by kernel_rfl) (by kernel_rfl) (by kernel_rfl) (by decide) (fun _ _ _ h => h.elim) (.inl ⟨by kernel_rfl, fun w h => by have hw := h.1; clear h; go_simp⟩) HSD.out ?_
        (try simp only [Act.put, List.getElem_toArray, List.getElem_cons_succ, List.getElem_cons_zero, List.setIfInBounds_toArray, List.set_cons_zero, List.set_cons_succ])
        refine LastN.pure (i := 4) (v := .map (some (w.heap.size + 1))) rfl (by kernel_rfl) (by kernel_rfl) (by kernel_rfl) (by decide) (fun _ _ _ h => h.elim) (.inl ⟨by kernel_rfl, fun w hw => by clear hw; go_simp⟩) (fun _ => HSD.out) ?_
        (try simp only [Act.put, List.getElem_toArray, List.getElem_cons_succ, List.getElem_cons_zero, List.setIfInBounds_toArray, List.set_cons_zero, List.set_cons_succ])
        refine LastN.pure (i := 5) (v := .pointer (some ⟨wr.heap.size, 0, none⟩)) rfl (by kernel_rfl) (by kernel_rfl) (by kernel_rfl) (by decide) (fun _ _ _ h => h.elim) (.inl ⟨by kernel_rfl, fun w hw => by clear hw; go_simp⟩) (fun _ => HSD.out) ?_
        (try simp only [Act.put, List.getElem_toArray, List.getElem_cons_succ, List.getElem_cons_zero, List.setIfInBounds_toArray, List.set_cons_zero, List.set_cons_succ])
        refine LastN.pure (i := 6) (v := .pointer (some ⟨wr.heap.size, 1, none⟩)) rfl (by kernel_rfl) (by kernel_rfl) (by kernel_rfl) (by decide) (fun _ _ _ h => h.elim) (.inl ⟨by kernel_rfl, fun w hw => by clear hw; go_simp⟩) (fun _ => HSD.out) ?_
        (try simp only [Act.put, List.getElem_toArray, List.getElem_cons_succ, List.getElem_cons_zero, List.setIfInBounds_toArray, List.set_cons_zero, List.set_cons_succ])
        refine LastN.take (i := 7) (v := .string qi) rfl (by kernel_rfl) (by kernel_rfl) (by kernel_rfl) (by kernel_rfl) (by kernel_rfl) (by decide) (fun _ _ _ h => h.elim) (.inl ⟨by kernel_rfl, fun w h => by have hw := h.1; clear h; go_simp⟩) HSD.out ?_
        (try simp only [Act.put, List.getElem_toArray, List.getElem_cons_succ, List.getElem_cons_zero, List.setIfInBounds_toArray, List.set_cons_zero, List.set_cons_succ])
        refine LastN.take (i := 8) (v := .slice A m1 c) rfl (by kernel_rfl) (by kernel_rfl) (by kernel_rfl) (by kernel_rfl) (by kernel_rfl) (by decide) (fun _ _ _ h => h.elim) (.inl ⟨by kernel_rfl, fun w h => by have hw := h.2.2; clear h; go_simp⟩) HSD.out ?_
        (try simp only [Act.put, List.getElem_toArray, List.getElem_cons_succ, List.getElem_cons_zero, List.setIfInBounds_toArray, List.set_cons_zero, List.set_cons_succ])
        refine LastN.take (i := 9) (v := .agg #[.string qb, .string qi, .string ql, .int .i64 qs, .string sg, .int .i64 dz, .int .i64 (cn : Int), .int .i64 fr]) rfl (by kernel_rfl) (by kernel_rfl) (by kernel_rfl) (by kernel_rfl) (by kernel_rfl) (by decide) (fun _ _ _ h => h.elim) (yieldsIf_load_mid (by kernel_rfl) 69 (.tmp 7) rfl w2.heap.size 0 rfl [.string qb, .string qi, .string ql, .int .i64 qs, .string sg, .int .i64 dz, .int .i64 (cn : Int), .int .i64 fr] _ (fun w h => h.2.1) huS rfl (HS8.out _ rfl)) HSD.out ?_
        (try simp only [Act.put, List.getElem_toArray, List.getElem_cons_succ, List.getElem_cons_zero, List.setIfInBounds_toArray, List.set_cons_zero, List.set_cons_succ])
        refine LastN.one (i := 10) (by kernel_rfl) rfl (fun K hK => ?_)
        rw [if_pos (by kernel_rfl)]
        refine wp_buildOne 65 69 (.tmp 46) rfl w6.heap.size (by simp) (.slice (some ⟨w6.heap.size, 0, none⟩) 1 1) i0 z0 8 Try.underlying65 hi0 hz0 hz1 (by decide) (by decide) [.string qb, .string qi, .string ql, .int .i64 qs, .string sg, .int .i64 dz, .int .i64 (cn : Int), .int .i64 fr] rfl rfl rfl ?_
        rw [← HW7.out]
        refine hK.out _ _ (fun _ _ => HS7.out) (fun _ => ?_)
        clear hK K
        (try simp only [Act.put, List.getElem_toArray, List.getElem_cons_succ, List.getElem_cons_zero, List.setIfInBounds_toArray, List.set_cons_zero, List.set_cons_succ])
        have HV : Hid (∀ j u, ([.string qb, .string qi, .string ql, .int .i64 qs, .string sg, .int .i64 dz, .int .i64 (cn : Int), .int .i64 fr] : List Value)[j]? = some u → w7.cell? ((⟨w6.heap.size, 0, none⟩ : Addr).add j) = some u) := Lib.hid (fun j u hu => by
          rw [Addr.add_lit, Nat.zero_add]
          have := range_row0 HV7.out j u (by simpa using hu)
          rwa [Nat.zero_add] at this)
        refine LastN.one (i := 11) (by kernel_rfl) rfl (fun K hK => ?_)
        rw [if_pos (by kernel_rfl)]
        refine wp_appO (.tmp 45) (.tmp 47) _ rfl 0 69 i0 z0 8 i0.bytes Try.underlying65 hi0 hz0 hz1 rfl hz2 (by decide) A m1 c _ rfl HO7.out ⟨w6.heap.size, 0, none⟩ 1 1 [.string qb, .string qi, .string ql, .int .i64 qs, .string sg, .int .i64 dz, .int .i64 (cn : Int), .int .i64 fr] rfl rfl HV.out (by simp [Value.oneCell']) (by simp only [maxLen]; omega) (HBY.out _ (by omega)) (Nat.zero_le _) ?_
        intro A5 c5 w8 hown8 hg8 hb8
        have hs8 := hg8.size
        have hk8 : ∀ j, j < w6.heap.size → (∀ i, some i = (Value.slice A m1 c).ownBlock → j ≠ i) → w8.heap[j]? = w6.heap[j]? := fun j h1 h2 => (hg8.block j (by omega) (fun e => h2 j e rfl)).trans (HB7.out.block _ h1)
        have n1 := hk8 _ hlt6 (fun i hi => by have := HALT.out i hi; omega)
        have n2 := hk8 _ hlt6' (fun i hi => by have := HALT.out i hi; have := HLT2.out; omega)
        have n3 := hk8 _ hlt6'' (fun i hi => by have := HALT.out i hi; omega)
        have n4 : w8.heap[w.heap.size]? = some (.cells h.cells 37 (0, 0)) := (hk8 _ (by omega) (fun i hi => by have := HALT.out i hi; omega)).trans (((HO6.out _ (by have := lt_of_block HH.out; have := HB4.out.size; omega) (by omega)).trans (HB4.out.block _ (lt_of_block HH.out))).trans HH.out)
        obtain ⟨w9, r1, r2, r3⟩ := (HLK7.out.kept n3).store (t := 72) keyedS Try.underlying72 (by simp only [maxLen]; omega) HKI.out (.slice A5 (m1 + 1) c5)
        have HS8' := Lib.hid (HST.out w8 n1 n2 n3)
        have HIN : Hid (ByI L (w.heap.size + 3) (w.heap.size + 1) (w.heap.size + 2) (k + 1) w9) := Lib.hid (by
          have e := HM1.out
          subst e
          exact ByF.close (W4 := w4.drew) HF0.out HKL.out (by rw [HXQ.out]) HRE.out (by rw [HXQ.out]; exact HMK.out) (by omega) (by omega) (by omega) HSZ.out (fun j hj => HB4.out.block j hj) HB4.out.size HP3.out (by rw [HXQ.out, HCN.out]; exact HP2.out) HB7.out HXA.out hg8 hb8 (by rw [HSA.out, HCN.out]; exact hown8) r2 r3)
        have HH9 : Hid (w9.heap[w.heap.size]? = some (.cells h.cells 37 (0, 0))) := Lib.hid ((r3.grown.block _ (lt_of_block n4) (fun e => by injection e with e; omega)).trans n4)
        have HWN : Hid (Below w.heap.size w w9) := Lib.hid ((((hw.out.trans (HB4.out.mono hw.out.size)).drew.trans (grown_below HP3.out.grown (by have := hw.out.size; have := HB4.out.size; show w.heap.size ≤ w4.heap.size; omega) (fun j hj => by injection hj; omega))).trans (HB7.out.mono (by omega))).trans (grown_below hg8 (by omega) (fun j hj => by have := HALT.out j hj.symm; omega))).trans (grown_below r3.grown (by omega) (fun j hj => by injection hj; omega))
        have HSN : Hid (w.heap.size + 3 ≤ w9.heap.size) := Lib.hid (by have := r3.grown.size; have := HB4.out.size; have := HSZ.out; omega)
        refine hK.out _ _ (fun _ _ => HS8'.out) (fun _ => ?_)
        clear hK K hown8 hg8 hb8 hk8 n1 n2 n3 n4 r2 r3
        (try simp only [Act.put, List.getElem_toArray, List.getElem_cons_succ, List.getElem_cons_zero, List.setIfInBounds_toArray, List.set_cons_zero, List.set_cons_succ])
        refine LastN.one (i := 12) (by kernel_rfl) rfl (fun K hK => ?_)
        go_simp
        refine hK.out _ _ (fun _ h => absurd rfl h) (fun _ => ?_)
        clear hK K
        (try simp only [Act.put, List.getElem_toArray, List.getElem_cons_succ, List.getElem_cons_zero, List.setIfInBounds_toArray, List.set_cons_zero, List.set_cons_succ])
        refine LastN.done (by kernel_rfl) ?_ _
        refine NoPanic.normal ?_
        clear r1
        go_wp2_with fail
        go_roundw
        case rel => exact ⟨k + 1, by omega, by go_num, HIN, HH9, HWN, HSN⟩
        case measure => simp [intOf]; omega
    · have hkm : k = m := by omega
      subst hkm
      have HEND : Hid (ByP L w (.returned (.map (some (w.heap.size + 1)))) wr) := Lib.hid (by
        obtain ⟨f, ft, G, CC, hf⟩ := HI.out
        have e := HNM.out
        refine ⟨_, f, G, CC, rfl, hf.gl.mono hn6, by omega, fun s hs => ?_, fun s hs => ?_, hw.out⟩
        · rw [← idxK_all, ← e] at hs; exact hf.no s hs
        · rw [← idxK_all, ← e] at hs ⊢; have := hf.yes s hs; exact ⟨this.1, this.2.1, by omega⟩)
      have h2 : ¬ ((k : Int) < (k : Int)) := by omega
      go_wp2_with fail
      go_ret
      exact HEND.out
end Go.Proofs.Ytnkhnbpopdmkhaa
