/-
  CONTRACTS of the reference's Load, Fits, Full, Over. (By wip/tools/gen_zref.py.)
-/
import Derived.Test.YthoblccmdadmmaaOItem
import Derived.Test.YthoblccmdadmmaaOBin
import Derived.Test.YthoblccmdadmmaaHPut
import Derived.Test.YthoblccmdadmmaaZFacts
import Derived.Test.YthoblccmdadmmaaHKept
import Derived.Deep.CutRange
namespace Go.Proofs.Ythoblccmdadmmaa
set_option linter.unusedVariables false
open Go.RowKit
open Pl (firstG findG putG It)

theorem frItem {h : Hs} {L : Nat → List (List Value)} {w : World} (hh : HT h L w) (s : ByteArray) : Calls Try.prog 43 #[.agg h.cells, .string s] w fun e w' => e = .returned (.tuple #[.agg (gotItem (L 0) s).toArray, .bool (atItem (L 0) s).isSome]) ∧ Below w.heap.size w w' :=
  rfindItem h (L 0) s w (hh 0 (by decide)).1 (hh 0 (by decide)).2.1 (hh 0 (by decide)).2.2.1 (hh 0 (by decide)).2.2.2
theorem frBin {h : Hs} {L : Nat → List (List Value)} {w : World} (hh : HT h L w) (s : ByteArray) : Calls Try.prog 46 #[.agg h.cells, .string s] w fun e w' => e = .returned (.tuple #[.agg (gotBin (L 3) s).toArray, .bool (atBin (L 3) s).isSome]) ∧ Below w.heap.size w w' :=
  rfindBin h (L 3) s w (hh 3 (by decide)).1 (hh 3 (by decide)).2.1 (hh 3 (by decide)).2.2.1 (hh 3 (by decide)).2.2.2
/-- A quant at its place. -/
theorem quant_at {h : Hs} {L : Nat → List (List Value)} {w : World} (hh : HT h L w) {k : Nat} (hk : k < (L 4).length) : ∃ b off, h.A 4 = some ⟨b, off, none⟩ ∧ b < w.heap.size ∧ w.rangeAt b (off + k * 6) (qnOf (L 4)[k]).cells := by
  obtain ⟨b, off, hA, hb, hc⟩ := (hh 4 (by decide)).2.2.2.thing (hh 4 (by decide)).2.2.1 (by decide) hk
  have := hc k hk
  rw [show (kOf 4).length = 6 from rfl] at this
  exact ⟨b, off, hA, hb, by rw [← qn_cells ((hh 4 (by decide)).2.2.1 _ (List.getElem_mem hk))]; exact this⟩
/-- What a call leaves that makes a list of texts. -/
def TextsP (l : List ByteArray) (w : World) (e : Ending) (w' : World) : Prop := ∃ A n c, e = .returned (.slice A n c) ∧ n = l.length ∧ n ≤ c ∧ c ≤ 9223372036854775807 ∧ Rd w' w'.heap.size A (l.map Value.string) ∧ Below w.heap.size w w'
theorem bin_at {h : Hs} {L : Nat → List (List Value)} {w : World} (hh : HT h L w) {k : Nat} (hk : k < (L 3).length) : ∃ b off, h.A 3 = some ⟨b, off, none⟩ ∧ b < w.heap.size ∧ w.rangeAt b (off + k * 8) (bnOf (L 3)[k]).cells := by
  obtain ⟨b, off, hA, hb, hc⟩ := (hh 3 (by decide)).2.2.2.thing (hh 3 (by decide)).2.2.1 (by decide) hk
  have := hc k hk
  rw [show (kOf 3).length = 8 from rfl] at this
  exact ⟨b, off, hA, hb, by rw [← bn_cells ((hh 3 (by decide)).2.2.1 _ (List.getElem_mem hk))]; exact this⟩

set_option maxRecDepth 100000 in
set_option maxHeartbeats 3200000 in
theorem rload_any (h : Hs) (L : Nat → List (List Value)) (s : ByteArray) (w : World) (hh : HT h L w) :
    Calls Try.prog 15 #[.agg h.cells, .string s] w fun e w' => e = .returned (.tuple #[.int .i64 (loadP (L 0) (L 4) s).1, .int .i64 (loadP (L 0) (L 4) s).2]) ∧ Below w.heap.size w w' := by
  have HHT := Lib.hid hh
  have hn9 := (hh 4 (by decide)).2.1
  obtain ⟨m, hmm⟩ : ∃ m, h.n 4 = m := ⟨_, rfl⟩
  have HNM : Hid (m = (L 4).length) := Lib.hid (by rw [← hmm]; exact (hh 4 (by decide)).1)
  rw [hmm] at hn9
  have HMM := Lib.hid hmm
  obtain ⟨r, hr⟩ : ∃ r, loadP (L 0) (L 4) s = r := ⟨_, rfl⟩
  rw [hr]
  have HR := Lib.hid hr
  clear hr hmm
  obtain ⟨W0, hW0⟩ : ∃ W0, W0 = (w.alloc (.cells h.cells 37)) := ⟨_, rfl⟩
  have hb0 : Below w.heap.size w W0 := by rw [hW0]; exact (Below.refl _ _).alloc (Nat.le_refl _) _
  have hs0 : W0.heap.size = w.heap.size + 1 := by rw [hW0]; simp
  have HH : Hid (∀ W, Below W0.heap.size W0 W → W.heap[w.heap.size]? = some (.cells h.cells 37 (0, 0))) := Lib.hid (fun W hW => (hW.block _ (by omega)).trans (by
    rw [hW0]
    have hq := heap_alloc_new w (.cells h.cells 37)
    exact (by simpa using hq)))
  have HBW : Hid (∀ W, Below W0.heap.size W0 W → Below w.heap.size w W ∧ w.heap.size + 1 ≤ W.heap.size) := Lib.hid (fun W hW => ⟨hb0.trans (hW.mono (by omega)), by have := hW.size; omega⟩)
  have huh := Try.underlying37
  have HSH : Hid (∀ a : Hs, (Try.prog.info? 37).map (·.size) = some a.cells.size) := Lib.hid (fun a => by kernel_rfl)
  have HL4 : Hid (∀ W, Below W0.heap.size W0 W → W.cell? ⟨w.heap.size, 4, none⟩ = some (.slice (h.A 4) m (h.c 4)) ∧ w.heap.size < W.heap.size) := Lib.hid (fun W hW => ⟨by rw [cell_of_block (HH.out W hW), ← HMM.out]; rfl, by have := hW.size; omega⟩)
  have HSQ6 : Hid ((Try.prog.info? 61).map (·.size) = some 6) := Lib.hid (by kernel_rfl)
  have huq := Try.underlying61
  have H0 := Lib.hid (Below.refl W0.heap.size W0)
  clear hb0 hs0 hh
  subst hW0
  go_enter Try.func15, Try.ntmps15
  go_wp2_with fail
  go_loopw [6, 7, 8] (fun v u i wr => ∃ (k : Nat) (va vb : Int), k ≤ m ∧ v = .int .i64 va ∧ u = .int .i64 vb ∧ i = .int .i64 (k : Int) ∧ Hid (loadP (L 0) ((L 4).take k) s = (va, vb)) ∧ Hid (Below (w.alloc (.cells h.cells 37)).heap.size (w.alloc (.cells h.cells 37)) wr)) (fun _ _ i _ => m - (intOf i).toNat)
  case atStart => exact ⟨0, 0, 0, by omega, rfl, rfl, rfl, Lib.hid rfl, H0⟩
  case round =>
    obtain ⟨k, va, vb, hk, rfl, rfl, rfl, hv, hw⟩ := hrel
    obtain ⟨d4, dlt⟩ := HL4.out _ hw.out
    by_cases hlt : k < m
    · have hkl : k < (L 4).length := by rw [← HNM.out]; exact hlt
      have HTR : HT h L wr := HHT.out.below (HBW.out _ hw.out).1
      obtain ⟨b, off, hA, hb, r1⟩ := quant_at HTR hkl
      have hsn := loadP_snoc (L 0) (L 4) s k hkl
      rw [hv.out] at hsn
      unfold loadQ at hsn
      obtain ⟨q, hq⟩ : ∃ q, qnOf (L 4)[k] = q := ⟨_, rfl⟩
      rw [hq] at r1 hsn
      obtain ⟨qb, qi, ql, qs, qq, qh⟩ := q
      simp only [] at hsn
      have HRE : Hid (wr.rangeAt b (off + k * 6) [.string qb, .string qi, .string ql, .int .i64 qs, .int .i64 qq, .int .i64 qh]) := Lib.hid r1
      obtain ⟨x, hx, hxo⟩ := item_it HTR qi
      obtain ⟨is, his⟩ : ∃ z, (atItem (L 0) qi).isSome = z := ⟨_, rfl⟩
      rw [hxo, his] at hsn
      have HSN := Lib.hid hsn
      have CF : Hid (∀ W, HT h L W → Calls Try.prog 43 #[.agg h.cells, .string qi] W fun e w' => e = .returned (.tuple #[.agg #[.string x.code, .string (x.nm 0), .int .i64 (x.fc 0), .string (x.nm 1), .int .i64 (x.fc 1), .string (x.nm 2), .int .i64 (x.fc 2), .string (x.nm 3), .int .i64 (x.fc 3), .int .i64 x.vol, .int .i64 x.wei, .bool x.lots, .bool x.serial, .bool x.chk], .bool is]) ∧ Below W.heap.size W w') := Lib.hid (fun W hW => by have := frItem hW qi; rw [hx, his] at this; exact this)
      obtain ⟨w1, hw1⟩ : ∃ w1, w1 = wr.alloc (.cells #[.string qb, .string qi, .string ql, .int .i64 qs, .int .i64 qq, .int .i64 qh] 61) := ⟨_, rfl⟩
      have hb1 : Below wr.heap.size wr w1 := by rw [hw1]; exact (Below.refl _ _).alloc (Nat.le_refl _) _
      have HX1 : Hid (w1.heap[wr.heap.size]? = some (.cells #[.string qb, .string qi, .string ql, .int .i64 qs, .int .i64 qq, .int .i64 qh] 61 (0, 0))) := Lib.hid (by rw [hw1]; exact heap_alloc_new _ _)
      have HW1 := Lib.hid hw1
      have HB1 := Lib.hid (hw.out.trans (hb1.mono hw.out.size))
      have HT1 := Lib.hid (HTR.below hb1)
      have h1 : (0 : Int) ≤ (k : Int) := by omega
      have h2 : (k : Int) < (m : Int) := by omega
      rw [hA] at d4
      clear hw1 hb1 r1 hq hx hxo his hsn hkl HTR hA hb
      have hbx := HW1.out ▸ HH.out _ HB1.out
      have e1 : w1.cell? ⟨wr.heap.size, 1, none⟩ = some (.string qi) := by rw [cell_of_block HX1.out]; rfl
      rw [HW1.out] at e1
      go_wp2_with (first
        | (refine wpList_load_mid rfl 61 (.tmp 22) rfl b (off + k * 6) rfl [.string qb, .string qi, .string ql, .int .i64 qs, .int .i64 qq, .int .i64 qh] _ HRE.out huq rfl HSQ6.out ?_)
        | (refine wpList_load_row rfl 37 (.tmp 2) rfl w.heap.size rfl _ _ _ _ hbx huh rfl (HSH.out _) ?_)
        | fail)
      rw [← HW1.out]
      refine (CF.out _ HT1.out).mono ?_
      rintro e w2 ⟨rfl, hb2⟩
      have HB2 := Lib.hid (HB1.out.trans (hb2.mono HB1.out.size))
      have HX2 := Lib.hid ((hb2.block _ (lt_of_block HX1.out)).trans HX1.out)
      obtain ⟨w3, hw3⟩ : ∃ w3, w3 = w2.alloc (.cells #[.string x.code, .string (x.nm 0), .int .i64 (x.fc 0), .string (x.nm 1), .int .i64 (x.fc 1), .string (x.nm 2), .int .i64 (x.fc 2), .string (x.nm 3), .int .i64 (x.fc 3), .int .i64 x.vol, .int .i64 x.wei, .bool x.lots, .bool x.serial, .bool x.chk] 68) := ⟨_, rfl⟩
      have HB3 : Hid (Below _ _ w3) := Lib.hid (hw3 ▸ HB2.out.alloc HB2.out.size _)
      have HX3 : Hid (w3.heap[wr.heap.size]? = some (.cells #[.string qb, .string qi, .string ql, .int .i64 qs, .int .i64 qq, .int .i64 qh] 61 (0, 0))) := Lib.hid (by rw [hw3]; exact (Below.heap_alloc _ _ _ (lt_of_block HX2.out)).trans HX2.out)
      have HY3 : Hid (w3.heap[w2.heap.size]? = some (.cells #[.string x.code, .string (x.nm 0), .int .i64 (x.fc 0), .string (x.nm 1), .int .i64 (x.fc 1), .string (x.nm 2), .int .i64 (x.fc 2), .string (x.nm 3), .int .i64 (x.fc 3), .int .i64 x.vol, .int .i64 x.wei, .bool x.lots, .bool x.serial, .bool x.chk] 68 (0, 0))) := Lib.hid (by rw [hw3]; exact heap_alloc_new _ _)
      have HW3 := Lib.hid hw3
      clear hw3 hb2 hbx e1 d4 dlt
      go_upto_region 8 with fail
      rw [← HW3.out]
      have y0 : w3.cell? ⟨wr.heap.size, 0, none⟩ = some (.string qb) := by rw [cell_of_block HX3.out]; rfl
      have y4 : w3.cell? ⟨wr.heap.size, 4, none⟩ = some (.int .i64 qq) := by rw [cell_of_block HX3.out]; rfl
      have ylt : wr.heap.size < w3.heap.size := lt_of_block HX3.out
      have z9 : w3.cell? ⟨w2.heap.size, 9, none⟩ = some (.int .i64 x.vol) := by rw [cell_of_block HY3.out]; rfl
      have z10 : w3.cell? ⟨w2.heap.size, 10, none⟩ = some (.int .i64 x.wei) := by rw [cell_of_block HY3.out]; rfl
      have zlt : w2.heap.size < w3.heap.size := lt_of_block HY3.out
      cases he : Pl.eqv qb s with
      | false =>
        have he' : (qb.toList == s.toList) = false := he
        have hsel : (Pl.eqv qb s && is) = false := by rw [he]; rfl
        have HS9 := Lib.hid hsel
        clear he hsel
        have HV : Hid (loadP (L 0) ((L 4).take (k + 1)) s = (va, vb)) := Lib.hid (by rw [HSN.out, HS9.out]; rfl)
        go_wp2_with fail
        go_roundw
        case rel => exact ⟨k + 1, _, _, by omega, rfl, rfl, by go_num, HV, HB3⟩
        case measure => simp [intOf]; omega
      | true =>
        have he' : (qb.toList == s.toList) = true := he
        have HEE := Lib.hid he
        clear he
        cases is with
        | false =>
          have HV : Hid (loadP (L 0) ((L 4).take (k + 1)) s = (va, vb)) := Lib.hid (by rw [HSN.out, HEE.out]; rfl)
          go_wp2_with fail
          go_roundw
          case rel => exact ⟨k + 1, _, _, by omega, rfl, rfl, by go_num, HV, HB3⟩
          case measure => simp [intOf]; omega
        | true =>
          have HV : Hid (loadP (L 0) ((L 4).take (k + 1)) s = (wrap64 (va + wrap64 (qq * x.vol)), wrap64 (vb + wrap64 (qq * x.wei)))) := Lib.hid (by rw [HSN.out, HEE.out]; rfl)
          go_wp2_with fail
          go_roundw
          case rel => exact ⟨k + 1, _, _, by omega, rfl, rfl, by go_num, HV, HB3⟩
          case measure => simp [intOf]; omega
    · have hkm : k = m := by omega
      have HV : Hid ((va, vb) = r) := Lib.hid (by rw [← hv.out, ← HR.out, List.take_of_length_le (by rw [← HNM.out]; omega)])
      go_wp2_with fail
      go_ret2
      exact ⟨by rw [← HV.out]; rfl, (HBW.out _ hw.out).1⟩

set_option maxRecDepth 100000 in
set_option maxHeartbeats 3200000 in
theorem rfitsr_any (h : Hs) (L : Nat → List (List Value)) (s t : ByteArray) (n : Int) (w : World) (hh : HT h L w) :
    Calls Try.prog 17 #[.agg h.cells, .string s, .string t, .int .i64 n] w fun e w' => e = .returned (.int .i64 (roomE (L 0) (L 3) (L 4) s t n : Nat)) ∧ Below w.heap.size w w' := by
  obtain ⟨y, hy, hyb⟩ := bin_eight hh s
  obtain ⟨x, hx, hxo⟩ := item_it hh t
  obtain ⟨ib, hib⟩ : ∃ z, (atBin (L 3) s).isSome = z := ⟨_, rfl⟩
  obtain ⟨ii, hii⟩ : ∃ z, (atItem (L 0) t).isSome = z := ⟨_, rfl⟩
  obtain ⟨lv, hlv⟩ : ∃ z, (loadP (L 0) (L 4) s).1 = z := ⟨_, rfl⟩
  obtain ⟨lw, hlw⟩ : ∃ z, (loadP (L 0) (L 4) s).2 = z := ⟨_, rfl⟩
  obtain ⟨r, hr⟩ : ∃ r, roomE (L 0) (L 3) (L 4) s t n = r := ⟨_, rfl⟩
  have HA : Hid (r = if (ib && ii) = false then 12 else if y.vol < wrap64 (lv + wrap64 (n * x.vol)) ∨ y.wei < wrap64 (lw + wrap64 (n * x.wei)) then 26 else 0) := Lib.hid (by rw [← hr]; unfold roomE; rw [hib, hii, hyb, hxo, hlv, hlw])
  have CB : Hid (∀ W, Below w.heap.size w W → Calls Try.prog 46 #[.agg h.cells, .string s] W fun e w' => e = .returned (.tuple #[.agg #[.string y.code, .string y.zone, .int .i64 y.kind, .int .i64 y.aisle, .int .i64 y.place, .int .i64 y.vol, .int .i64 y.wei, .bool y.frz], .bool ib]) ∧ Below W.heap.size W w') := Lib.hid (fun W hW => by have := frBin (hh.below hW) s; rw [hy, hib] at this; exact this)
  have CI : Hid (∀ W, Below w.heap.size w W → Calls Try.prog 43 #[.agg h.cells, .string t] W fun e w' => e = .returned (.tuple #[.agg #[.string x.code, .string (x.nm 0), .int .i64 (x.fc 0), .string (x.nm 1), .int .i64 (x.fc 1), .string (x.nm 2), .int .i64 (x.fc 2), .string (x.nm 3), .int .i64 (x.fc 3), .int .i64 x.vol, .int .i64 x.wei, .bool x.lots, .bool x.serial, .bool x.chk], .bool ii]) ∧ Below W.heap.size W w') := Lib.hid (fun W hW => by have := frItem (hh.below hW) t; rw [hx, hii] at this; exact this)
  have CL : Hid (∀ W, Below w.heap.size w W → Calls Try.prog 15 #[.agg h.cells, .string s] W fun e w' => e = .returned (.tuple #[.int .i64 lv, .int .i64 lw]) ∧ Below W.heap.size W w') := Lib.hid (fun W hW => by have := rload_any h L s W (hh.below hW); rwa [hlv, hlw] at this)
  rw [hr]
  clear hr hib hii hlv hlw hy hyb hx hxo
  obtain ⟨W0, hW0⟩ : ∃ W0, W0 = (w.alloc (.cells h.cells 37)) := ⟨_, rfl⟩
  have hb0 : Below w.heap.size w W0 := by rw [hW0]; exact (Below.refl _ _).alloc (Nat.le_refl _) _
  have hs0 : W0.heap.size = w.heap.size + 1 := by rw [hW0]; simp
  have HH : Hid (∀ W, Below W0.heap.size W0 W → W.heap[w.heap.size]? = some (.cells h.cells 37 (0, 0))) := Lib.hid (fun W hW => (hW.block _ (by omega)).trans (by
    rw [hW0]
    have hq := heap_alloc_new w (.cells h.cells 37)
    exact (by simpa using hq)))
  have HBW : Hid (∀ W, Below W0.heap.size W0 W → Below w.heap.size w W ∧ w.heap.size + 1 ≤ W.heap.size) := Lib.hid (fun W hW => ⟨hb0.trans (hW.mono (by omega)), by have := hW.size; omega⟩)
  have huh := Try.underlying37
  have HSH : Hid (∀ a : Hs, (Try.prog.info? 37).map (·.size) = some a.cells.size) := Lib.hid (fun a => by kernel_rfl)
  have H0 := Lib.hid (Below.refl W0.heap.size W0)
  clear hb0 hs0 hh
  subst hW0
  go_enter Try.func17, Try.ntmps17
  go_wp2_with (first
    | (refine wpList_load_row rfl 37 (.tmp 4) rfl w.heap.size rfl _ _ _ _ (HH.out _ H0.out) huh rfl (HSH.out _) ?_)
    | fail)
  refine (CB.out _ (HBW.out _ H0.out).1).mono ?_
  rintro e w1 ⟨rfl, hb1⟩
  have H1 := Lib.hid (H0.out.trans (hb1.mono H0.out.size))
  clear hb1
  have H2 := Lib.hid (H1.out.alloc H1.out.size (.cells #[.string y.code, .string y.zone, .int .i64 y.kind, .int .i64 y.aisle, .int .i64 y.place, .int .i64 y.vol, .int .i64 y.wei, .bool y.frz] 57))
  go_wp2_with (first
    | (refine wpList_load_row rfl 37 (.tmp 4) rfl w.heap.size rfl _ _ _ _ (HH.out _ H2.out) huh rfl (HSH.out _) ?_)
    | fail)
  refine (CI.out _ (HBW.out _ H2.out).1).mono ?_
  rintro e w2 ⟨rfl, hb2⟩
  have hb2q := hb2
  have H3 := Lib.hid (H2.out.trans (hb2.mono H2.out.size))
  clear hb2
  have HBQ : Hid (Below (w1.alloc (.cells #[.string y.code, .string y.zone, .int .i64 y.kind, .int .i64 y.aisle, .int .i64 y.place, .int .i64 y.vol, .int .i64 y.wei, .bool y.frz] 57)).heap.size (w1.alloc (.cells #[.string y.code, .string y.zone, .int .i64 y.kind, .int .i64 y.aisle, .int .i64 y.place, .int .i64 y.vol, .int .i64 y.wei, .bool y.frz] 57)) w2) := Lib.hid hb2q
  obtain ⟨w3, hw3⟩ : ∃ w3, w3 = w2.alloc (.cells #[.string x.code, .string (x.nm 0), .int .i64 (x.fc 0), .string (x.nm 1), .int .i64 (x.fc 1), .string (x.nm 2), .int .i64 (x.fc 2), .string (x.nm 3), .int .i64 (x.fc 3), .int .i64 x.vol, .int .i64 x.wei, .bool x.lots, .bool x.serial, .bool x.chk] 68) := ⟨_, rfl⟩
  have H4 : Hid (Below _ _ w3) := Lib.hid (hw3 ▸ H3.out.alloc H3.out.size _)
  have HX : Hid (∀ W, Below w3.heap.size w3 W → W.cell? ⟨w2.heap.size, 9, none⟩ = some (.int .i64 x.vol) ∧ W.cell? ⟨w2.heap.size, 10, none⟩ = some (.int .i64 x.wei) ∧ W.cell? ⟨w1.heap.size, 5, none⟩ = some (.int .i64 y.vol) ∧ W.cell? ⟨w1.heap.size, 6, none⟩ = some (.int .i64 y.wei) ∧ w2.heap.size < W.heap.size ∧ w1.heap.size < W.heap.size) := Lib.hid (fun W hW => by
    have a1 : w3.heap[w2.heap.size]? = some (.cells #[.string x.code, .string (x.nm 0), .int .i64 (x.fc 0), .string (x.nm 1), .int .i64 (x.fc 1), .string (x.nm 2), .int .i64 (x.fc 2), .string (x.nm 3), .int .i64 (x.fc 3), .int .i64 x.vol, .int .i64 x.wei, .bool x.lots, .bool x.serial, .bool x.chk] 68 (0, 0)) := by rw [hw3]; exact heap_alloc_new _ _
    have a0 := heap_alloc_new w1 (.cells #[.string y.code, .string y.zone, .int .i64 y.kind, .int .i64 y.aisle, .int .i64 y.place, .int .i64 y.vol, .int .i64 y.wei, .bool y.frz] 57)
    have hlt := lt_of_block a0
    have a2 : w3.heap[w1.heap.size]? = some (.cells #[.string y.code, .string y.zone, .int .i64 y.kind, .int .i64 y.aisle, .int .i64 y.place, .int .i64 y.vol, .int .i64 y.wei, .bool y.frz] 57 (0, 0)) := by rw [hw3]; exact (Below.heap_alloc _ _ _ (Nat.lt_of_lt_of_le hlt HBQ.out.size)).trans ((HBQ.out.block _ hlt).trans a0)
    have b1 := (hW.block _ (lt_of_block a1)).trans a1
    have b2 := (hW.block _ (lt_of_block a2)).trans a2
    exact ⟨by rw [cell_of_block b1]; rfl, by rw [cell_of_block b1]; rfl, by rw [cell_of_block b2]; rfl, by rw [cell_of_block b2]; rfl, lt_of_block b1, lt_of_block b2⟩)
  have HW3 := Lib.hid hw3
  clear hw3
  go_upto_region 3 with fail
  rw [← HW3.out]
  cases ib with
  | false =>
    have HE : Hid (r = 12) := Lib.hid (by rw [HA.out]; rfl)
    go_wp2_with fail
    go_ret
    exact ⟨by rw [HE.out]; rfl, (HBW.out _ H4.out).1⟩
  | true =>
    cases ii with
    | false =>
      have HE : Hid (r = 12) := Lib.hid (by rw [HA.out]; rfl)
      go_wp2_with fail
      go_ret
      exact ⟨by rw [HE.out]; rfl, (HBW.out _ H4.out).1⟩
    | true =>
      go_wp2_with (first
        | (refine wpList_load_row rfl 37 (.tmp 4) rfl w.heap.size rfl _ _ _ _ (HH.out _ H4.out) huh rfl (HSH.out _) ?_)
        | fail)
      refine (CL.out _ (HBW.out _ H4.out).1).mono ?_
      rintro e w4 ⟨rfl, hb4⟩
      have H5 := Lib.hid (H4.out.trans (hb4.mono H4.out.size))
      obtain ⟨x9, x10, y5, y6, l2, l1⟩ := HX.out _ hb4
      clear hb4
      have HA2 : Hid (r = if y.vol < wrap64 (lv + wrap64 (n * x.vol)) ∨ y.wei < wrap64 (lw + wrap64 (n * x.wei)) then 26 else 0) := Lib.hid (by rw [HA.out]; rfl)
      by_cases q1 : y.vol < wrap64 (lv + wrap64 (n * x.vol))
      · have HE : Hid (r = 26) := Lib.hid (by rw [HA2.out, if_pos (.inl q1)])
        go_wp2_with fail
        go_ret
        exact ⟨by rw [HE.out]; rfl, (HBW.out _ H5.out).1⟩
      · by_cases q2 : y.wei < wrap64 (lw + wrap64 (n * x.wei))
        · have HE : Hid (r = 26) := Lib.hid (by rw [HA2.out, if_pos (.inr q2)])
          go_wp2_with fail
          go_ret
          exact ⟨by rw [HE.out]; rfl, (HBW.out _ H5.out).1⟩
        · have HE : Hid (r = 0) := Lib.hid (by rw [HA2.out, if_neg (fun h => h.elim q1 q2)])
          go_wp2_with fail
          go_ret
          exact ⟨by rw [HE.out]; rfl, (HBW.out _ H5.out).1⟩

set_option maxRecDepth 100000 in
set_option maxHeartbeats 3200000 in
theorem rfull_any (h : Hs) (L : Nat → List (List Value)) (xc xz : ByteArray) (kd ai pl vo we : Int) (fz : Bool) (w : World) (hh : HT h L w) :
    Calls Try.prog 48 #[.agg h.cells, .agg #[.string xc, .string xz, .int .i64 kd, .int .i64 ai, .int .i64 pl, .int .i64 vo, .int .i64 we, .bool fz]] w fun e w' => e = .returned (.bool (fullB (L 0) (L 4) (Bn.mk xc xz kd ai pl vo we fz))) ∧ Below w.heap.size w w' := by
  obtain ⟨lv, hlv⟩ : ∃ z, (loadP (L 0) (L 4) xc).1 = z := ⟨_, rfl⟩
  obtain ⟨lw, hlw⟩ : ∃ z, (loadP (L 0) (L 4) xc).2 = z := ⟨_, rfl⟩
  obtain ⟨r, hr⟩ : ∃ r, fullB (L 0) (L 4) (Bn.mk xc xz kd ai pl vo we fz) = r := ⟨_, rfl⟩
  have HA : Hid (r = (decide (vo < lv) || decide (we < lw))) := Lib.hid (by rw [← hr]; unfold fullB; simp only []; rw [hlv, hlw])
  have CL : Hid (∀ W, Below w.heap.size w W → Calls Try.prog 15 #[.agg h.cells, .string xc] W fun e w' => e = .returned (.tuple #[.int .i64 lv, .int .i64 lw]) ∧ Below W.heap.size W w') := Lib.hid (fun W hW => by have := rload_any h L xc W (hh.below hW); rwa [hlv, hlw] at this)
  rw [hr]
  clear hr hlv hlw
  obtain ⟨W0, hW0⟩ : ∃ W0, W0 = ((w.alloc (.cells h.cells 37)).alloc (.cells #[.string xc, .string xz, .int .i64 kd, .int .i64 ai, .int .i64 pl, .int .i64 vo, .int .i64 we, .bool fz] 57)) := ⟨_, rfl⟩
  have hb0 : Below w.heap.size w W0 := by rw [hW0]; exact ((Below.refl _ _).alloc (Nat.le_refl _) _).alloc (by simp <;> omega) _
  have hs0 : W0.heap.size = w.heap.size + 2 := by rw [hW0]; simp
  have HH : Hid (∀ W, Below W0.heap.size W0 W → W.heap[w.heap.size]? = some (.cells h.cells 37 (0, 0))) := Lib.hid (fun W hW => (hW.block _ (by omega)).trans (by
    rw [hW0]
    have hq := heap_alloc_new w (.cells h.cells 37)
    exact (Below.heap_alloc _ _ _ (by simp <;> omega)).trans ((by simpa using hq))))
  have HX : Hid (∀ W, Below W0.heap.size W0 W → W.heap[w.heap.size + 1]? = some (.cells #[.string xc, .string xz, .int .i64 kd, .int .i64 ai, .int .i64 pl, .int .i64 vo, .int .i64 we, .bool fz] 57 (0, 0))) := Lib.hid (fun W hW => (hW.block _ (by omega)).trans (by
    rw [hW0]
    have hq := heap_alloc_new (w.alloc (.cells h.cells 37)) (.cells #[.string xc, .string xz, .int .i64 kd, .int .i64 ai, .int .i64 pl, .int .i64 vo, .int .i64 we, .bool fz] 57)
    exact (by simpa using hq)))
  have HBW : Hid (∀ W, Below W0.heap.size W0 W → Below w.heap.size w W ∧ w.heap.size + 2 ≤ W.heap.size) := Lib.hid (fun W hW => ⟨hb0.trans (hW.mono (by omega)), by have := hW.size; omega⟩)
  have huh := Try.underlying37
  have HSH : Hid (∀ a : Hs, (Try.prog.info? 37).map (·.size) = some a.cells.size) := Lib.hid (fun a => by kernel_rfl)
  have huHX := Try.underlying57
  have HSHX : Hid ((Try.prog.info? 57).map (·.size) = some 8) := Lib.hid (by kernel_rfl)
  have HCHX : Hid (∀ W, Below W0.heap.size W0 W → W.cell? ⟨w.heap.size + 1, 0, none⟩ = some (.string xc) ∧ W.cell? ⟨w.heap.size + 1, 1, none⟩ = some (.string xz) ∧ W.cell? ⟨w.heap.size + 1, 2, none⟩ = some (.int .i64 kd) ∧ W.cell? ⟨w.heap.size + 1, 3, none⟩ = some (.int .i64 ai) ∧ W.cell? ⟨w.heap.size + 1, 4, none⟩ = some (.int .i64 pl) ∧ W.cell? ⟨w.heap.size + 1, 5, none⟩ = some (.int .i64 vo) ∧ W.cell? ⟨w.heap.size + 1, 6, none⟩ = some (.int .i64 we) ∧ W.cell? ⟨w.heap.size + 1, 7, none⟩ = some (.bool fz) ∧ w.heap.size + 1 < W.heap.size) := Lib.hid (fun W hW => ⟨by rw [cell_of_block (HX.out W hW)]; rfl, by rw [cell_of_block (HX.out W hW)]; rfl, by rw [cell_of_block (HX.out W hW)]; rfl, by rw [cell_of_block (HX.out W hW)]; rfl, by rw [cell_of_block (HX.out W hW)]; rfl, by rw [cell_of_block (HX.out W hW)]; rfl, by rw [cell_of_block (HX.out W hW)]; rfl, by rw [cell_of_block (HX.out W hW)]; rfl, by have := hW.size; omega⟩)
  have hc0 := HCHX.out _ (Below.refl _ _)
  obtain ⟨hx0, hx1, hx2, hx3, hx4, hx5, hx6, hx7, hlthx⟩ := hc0
  have H0 := Lib.hid (Below.refl W0.heap.size W0)
  clear hb0 hs0 hh
  subst hW0
  go_enter Try.func48, Try.ntmps48
  go_wp2_with (first
    | (refine wpList_load_row rfl 37 (.tmp 2) rfl w.heap.size rfl _ _ _ _ (HH.out _ H0.out) huh rfl (HSH.out _) ?_)
    | fail)
  refine (CL.out _ (HBW.out _ H0.out).1).mono ?_
  rintro e w1 ⟨rfl, hb1⟩
  have H1 := Lib.hid (H0.out.trans (hb1.mono H0.out.size))
  clear hb1
  clear hx0 hx1 hx2 hx3 hx4 hx5 hx6 hx7 hlthx
  obtain ⟨hx0, hx1, hx2, hx3, hx4, hx5, hx6, hx7, hlthx⟩ := HCHX.out _ H1.out
  by_cases q1 : vo < lv
  · have HE : Hid (r = true) := Lib.hid (by rw [HA.out, decide_eq_true q1]; rfl)
    go_wp2_with fail
    go_ret
    exact ⟨by rw [HE.out]; rfl, (HBW.out _ H1.out).1⟩
  · have HE := HA
    go_wp2_with fail
    go_ret
    exact ⟨by rw [HE.out]; rfl, (HBW.out _ H1.out).1⟩

set_option maxRecDepth 100000 in
set_option maxHeartbeats 3200000 in
theorem rover_any (h : Hs) (L : Nat → List (List Value)) (w : World) (hh : HT h L w) :
    Calls Try.prog 20 #[.agg h.cells] w (TextsP (overL (L 0) (L 3) (L 4)) w) := by
  have HHT := Lib.hid hh
  have hn9 := (hh 3 (by decide)).2.1
  obtain ⟨m, hmm⟩ : ∃ m, h.n 3 = m := ⟨_, rfl⟩
  have HNM : Hid (m = (L 3).length) := Lib.hid (by rw [← hmm]; exact (hh 3 (by decide)).1)
  rw [hmm] at hn9
  have HMM := Lib.hid hmm
  obtain ⟨r, hr⟩ : ∃ r, overL (L 0) (L 3) (L 4) = r := ⟨_, rfl⟩
  rw [hr]
  have HR := Lib.hid hr
  clear hr hmm
  have CF : Hid (∀ (x : Bn) W, HT h L W → Calls Try.prog 48 #[.agg h.cells, .agg #[.string x.code, .string x.zone, .int .i64 x.kind, .int .i64 x.aisle, .int .i64 x.place, .int .i64 x.vol, .int .i64 x.wei, .bool x.frz]] W fun e w' => e = .returned (.bool (fullB (L 0) (L 4) x)) ∧ Below W.heap.size W w') := Lib.hid (fun x W hW => rfull_any h L _ _ _ _ _ _ _ _ W hW)
  have HLB : Hid (∀ k (hk : k < (L 3).length), codeOf (L 3)[k] = (bnOf (L 3)[k]).code) := Lib.hid (fun k hk => code_bn ((hh 3 (by decide)).2.2.1 _ (List.getElem_mem hk)))
  obtain ⟨i0, hi0, hz0, hz1, hz2⟩ := info_parts infoS
  have HSHL : Hid (∀ a : Hs, (Try.prog.info? 37).map (·.size) = some a.cells.toList.length) := Lib.hid (fun a => by kernel_rfl)
  have HS8 : Hid ((Try.prog.info? 57).map (·.size) = some 8) := Lib.hid (by kernel_rfl)
  have hub := Try.underlying57
  obtain ⟨W0, hW0⟩ : ∃ W0, W0 = (w.alloc (.cells h.cells 37)) := ⟨_, rfl⟩
  have hb0 : Below w.heap.size w W0 := by rw [hW0]; exact (Below.refl _ _).alloc (Nat.le_refl _) _
  have hs0 : W0.heap.size = w.heap.size + 1 := by rw [hW0]; simp
  have HH : Hid (∀ W, Below W0.heap.size W0 W → W.heap[w.heap.size]? = some (.cells h.cells 37 (0, 0))) := Lib.hid (fun W hW => (hW.block _ (by omega)).trans (by
    rw [hW0]
    have hq := heap_alloc_new w (.cells h.cells 37)
    exact (by simpa using hq)))
  have HBW : Hid (∀ W, Below W0.heap.size W0 W → Below w.heap.size w W ∧ w.heap.size + 1 ≤ W.heap.size) := Lib.hid (fun W hW => ⟨hb0.trans (hW.mono (by omega)), by have := hW.size; omega⟩)
  have huh := Try.underlying37
  have HSH : Hid (∀ a : Hs, (Try.prog.info? 37).map (·.size) = some a.cells.size) := Lib.hid (fun a => by kernel_rfl)
  have HL3 : Hid (∀ W, Below W0.heap.size W0 W → W.cell? ⟨w.heap.size, 3, none⟩ = some (.slice (h.A 3) m (h.c 3)) ∧ w.heap.size < W.heap.size) := Lib.hid (fun W hW => ⟨by rw [cell_of_block (HH.out W hW), ← HMM.out]; rfl, by have := hW.size; omega⟩)
  have H0 := Lib.hid (Below.refl W0.heap.size W0)
  clear hb0 hs0 hh
  subst hW0
  go_enter Try.func20, Try.ntmps20
  go_wp2_with fail
  go_loopw [3, 4] (fun v i wr => ∃ (k q : Nat) (A : Option Addr) (c : Nat), k ≤ m ∧ v = .slice A q c ∧ i = .int .i64 (k : Int) ∧ Hid (q = (overL (L 0) ((L 3).take k) (L 4)).length) ∧ Hid (Below (w.alloc (.cells h.cells 37)).heap.size (w.alloc (.cells h.cells 37)) wr) ∧ Hid (wr.ownsRow (w.heap.size + 1) 9 1 (.slice A q c) q ((overL (L 0) ((L 3).take k) (L 4)).map Value.string))) (fun _ i _ => m - (intOf i).toNat)
  case atStart => exact ⟨0, 0, none, 0, by omega, rfl, rfl, Lib.hid rfl, H0, Lib.hid (World.ownsRow_nil _ _ _ _)⟩
  case round =>
    obtain ⟨k, q, A, c, hk, rfl, rfl, hq, hw, ho⟩ := hrel
    obtain ⟨d3, dlt⟩ := HL3.out _ hw.out
    by_cases hlt : k < m
    · have hkl : k < (L 3).length := by rw [← HNM.out]; exact hlt
      have HTR : Hid (HT h L wr) := Lib.hid (HHT.out.below (HBW.out _ hw.out).1)
      obtain ⟨b, off, hA, hb, r1⟩ := bin_at HTR.out hkl
      have hsn := overL_snoc (L 0) (L 3) (L 4) k hkl
      rw [HLB.out k hkl] at hsn
      have hql := overL_le (L 0) ((L 3).take k) (L 4)
      rw [List.length_take] at hql
      rw [← hq.out] at hql
      obtain ⟨x, hx⟩ : ∃ x, bnOf (L 3)[k] = x := ⟨_, rfl⟩
      rw [hx] at r1 hsn
      obtain ⟨fb, hfb⟩ : ∃ z, fullB (L 0) (L 4) x = z := ⟨_, rfl⟩
      have CX : Hid (∀ X : BW wr, Calls Try.prog 48 #[.agg h.cells, .agg #[.string x.code, .string x.zone, .int .i64 x.kind, .int .i64 x.aisle, .int .i64 x.place, .int .i64 x.vol, .int .i64 x.wei, .bool x.frz]] X.W fun e w' => e = .returned (.bool fb) ∧ Below X.W.heap.size X.W w') := Lib.hid (fun X => by rw [← hfb]; exact CF.out x X.W (HTR.out.below X.h))
      rw [hfb] at hsn
      clear hfb hx
      obtain ⟨xc, xz, kd, ai, pl, vo, we, fz⟩ := x
      simp only [] at hsn CX
      have HSN := Lib.hid hsn
      have HRE : Hid (∀ X : BW wr, X.W.rangeAt b (off + k * 8) [.string xc, .string xz, .int .i64 kd, .int .i64 ai, .int .i64 pl, .int .i64 vo, .int .i64 we, .bool fz]) := Lib.hid (fun X => rangeAt_below r1 hb X.h)
      have h1 : (0 : Int) ≤ (k : Int) := by omega
      have h2 : (k : Int) < (m : Int) := by omega
      have RHH : Hid (∀ X : BW wr, X.W.heap[w.heap.size]? = some (.cells h.cells 37 (0, 0))) := Lib.hid (fun X => HH.out _ (hw.out.trans (X.h.mono hw.out.size)))
      have RL3 : Hid (∀ X : BW wr, X.W.cell? ⟨w.heap.size, 3, none⟩ = some (.slice (some ⟨b, off, none⟩) m (h.c 3)) ∧ w.heap.size < X.W.heap.size) := Lib.hid (fun X => by have := HL3.out _ (hw.out.trans (X.h.mono hw.out.size)); rwa [hA] at this)
      rw [hA] at d3
      have hbl := hb
      clear r1 hsn hkl hb hA
      go_wp2_with fail
      clear d3 dlt
      have x3 : ∀ X : BW wr, X.W.cell? ⟨w.heap.size, 3, none⟩ = some (.slice (some ⟨b, off, none⟩) m (h.c 3)) := fun X => (RL3.out X).1
      refine wp_grow wr (by kernel_rfl) (by kernel_rfl) (Below.refl _ _) ?_
      simp only []
      refine BigFrame.wpQuiet_want (by kernel_rfl) (fun K hK => quiet_load_mid 37 (.tmp 1) rfl w.heap.size 0 rfl h.cells.toList _ (fun W ⟨X, hX⟩ => by rw [hX]; exact range_row0 (RHH.out X)) huh rfl (HSHL.out _) (hK _ ?_))
      simp only [Act.put, List.setIfInBounds_toArray, List.set_cons_zero, List.set_cons_succ, Array.toArray_toList]
      iterate 4 go_big_quiet_step (fail)
      refine BigFrame.wpQuiet_want (by kernel_rfl) (fun K hK => quiet_load_mid 57 (.tmp 16) rfl b (off + k * 8) rfl [.string xc, .string xz, .int .i64 kd, .int .i64 ai, .int .i64 pl, .int .i64 vo, .int .i64 we, .bool fz] _ (fun W ⟨X, hX⟩ => by rw [hX]; exact HRE.out X) hub rfl HS8.out (hK _ ?_))
      simp only [Act.put, List.setIfInBounds_toArray, List.set_cons_zero, List.set_cons_succ]
      go_big_quiet_step (exact grow_call _ (CX.out _))
      refine wpQuiet_nil ?_
      intro X
      clear x3
      have z0 : X.W.cell? ⟨b, off + k * 8, none⟩ = some (.string xc) := by have := HRE.out X 0 (.string xc) rfl; simpa using this
      obtain ⟨d3, dlt⟩ := RL3.out X
      have zlt : b < X.W.heap.size := Nat.lt_of_lt_of_le hbl X.h.size
      have HOX := Lib.hid (own_below ho.out X.h)
      have HBX := Lib.hid (hw.out.trans (X.h.mono hw.out.size))
      clear CX RHH RL3 HRE hbl HTR
      obtain ⟨w1, hb1⟩ := X
      simp only [] at z0 d3 dlt zlt HOX HBX ⊢
      clear hb1
      cases fb with
      | false =>
        have HEQ : Hid (overL (L 0) ((L 3).take (k + 1)) (L 4) = overL (L 0) ((L 3).take k) (L 4)) := Lib.hid (by rw [HSN.out]; simp)
        go_wp2_with fail
        go_roundw
        case rel => exact ⟨k + 1, q, A, c, by omega, rfl, by go_num, Lib.hid (by rw [HEQ.out]; exact hq.out), HBX, Lib.hid (by rw [HEQ.out]; exact HOX.out)⟩
        case measure => simp [intOf]; omega
      | true =>
        have HEQ : Hid (overL (L 0) ((L 3).take (k + 1)) (L 4) = overL (L 0) ((L 3).take k) (L 4) ++ [xc]) := Lib.hid (by rw [HSN.out]; simp)
        have HBZ : Hid (w.heap.size + 1 ≤ w1.heap.size) := Lib.hid (HBW.out _ HBX.out).2
        go_wp2_with (first
          | (at_builtin; refine wpList_app rfl (.tmp 19) (.tmp 26) _ rfl (w.heap.size + 1) 9 i0 _ 1 16 Try.underlying48 hi0 hz0 hz1 hz2 rfl (by decide) _ q _ _ rfl (HOX.out.alloc _) _ _ 1 1 [.string xc] rfl rfl (rd_one _ _ _) (by intro u hu; simp at hu; subst hu; rfl) (by simp only [maxLen]; omega) (by omega) (by have := HBZ.out; simp; omega) ?_; intro A9 c9 w9 hown9 hb9; have HO9 := Lib.hid hown9; have HB9 := Lib.hid hb9; clear hown9 hb9)
          | fail)
        have HBY : Hid (Below (w.alloc (.cells h.cells 37)).heap.size (w.alloc (.cells h.cells 37)) w9) := Lib.hid ((HBX.out.alloc HBX.out.size _).trans (HB9.out.mono (by simp)))
        go_roundw
        case rel => exact ⟨k + 1, q + 1, A9, c9, by omega, rfl, by go_num, Lib.hid (by rw [HEQ.out, List.length_append, ← hq.out]; rfl), HBY, Lib.hid (by rw [HEQ.out, List.map_append]; exact HO9.out)⟩
        case measure => simp [intOf]; omega
    · have hkm : k = m := by omega
      have HV : Hid (overL (L 0) ((L 3).take k) (L 4) = r) := Lib.hid (by rw [← HR.out, List.take_of_length_le (by rw [← HNM.out]; omega)])
      go_wp2_with fail
      go_ret
      rw [← HV.out]
      exact ⟨A, q, c, rfl, hq.out, own_cap ho.out, own_max ho.out, Rd.of_own ho.out, (HBW.out _ hw.out).1⟩

set_option maxRecDepth 100000 in
set_option maxHeartbeats 3200000 in
theorem rlimit_any (h : Hs) (L : Nat → List (List Value)) (s : ByteArray) (v u : Int) (w : World) (hh : HT h L w) (hn3 : h.n 3 ≤ 1000) :
    Calls Try.prog 25 #[.agg h.cells, .string s, .int .i64 v, .int .i64 u] w (PutP 57 8 3 (limE (L 0) (L 3) (L 4) s v u) (limL (L 3) s v u) h w) := by
  obtain ⟨y, hy, hyb⟩ := bin_eight hh s
  obtain ⟨ib, hib⟩ : ∃ z, (atBin (L 3) s).isSome = z := ⟨_, rfl⟩
  obtain ⟨oo, hoo⟩ : ∃ z, (decide (v < 0) || decide (1000000000000 < v) || decide (u < 0) || decide (1000000000000 < u)) = z := ⟨_, rfl⟩
  obtain ⟨fb, hfb⟩ : ∃ z, fullB (L 0) (L 4) (bnSize y v u) = z := ⟨_, rfl⟩
  obtain ⟨er, her⟩ : ∃ r, limE (L 0) (L 3) (L 4) s v u = r := ⟨_, rfl⟩
  have HA : Hid (er = if ib = false then 12 else if oo = true then 5 else if fb = true then 26 else 0) := Lib.hid (by rw [← her]; unfold limE; rw [hib, hoo, hyb, hfb])
  have HOO : Hid (oo = (decide (v < 0) || decide (1000000000000 < v) || decide (u < 0) || decide (1000000000000 < u))) := Lib.hid hoo.symm
  have HL : Hid (limL (L 3) s v u = putG ordBin (L 3) (bnSize y v u).cells) := Lib.hid (by unfold limL; rw [hyb])
  have CB : Hid (∀ W, Below w.heap.size w W → Calls Try.prog 46 #[.agg h.cells, .string s] W fun e w' => e = .returned (.tuple #[.agg #[.string y.code, .string y.zone, .int .i64 y.kind, .int .i64 y.aisle, .int .i64 y.place, .int .i64 y.vol, .int .i64 y.wei, .bool y.frz], .bool ib]) ∧ Below W.heap.size W w') := Lib.hid (fun W hW => by have := frBin (hh.below hW) s; rw [hy, hib] at this; exact this)
  have CF : Hid (∀ W, Below w.heap.size w W → Calls Try.prog 48 #[.agg h.cells, .agg #[.string y.code, .string y.zone, .int .i64 y.kind, .int .i64 y.aisle, .int .i64 y.place, .int .i64 v, .int .i64 u, .bool y.frz]] W fun e w' => e = .returned (.bool fb) ∧ Below W.heap.size W w') := Lib.hid (fun W hW => (rfull_any h L y.code y.zone y.kind y.aisle y.place v u y.frz W (hh.below hW)).mono (fun e w' h => by rw [← hfb]; exact h))
  have HPU : Hid (∀ W, Below w.heap.size w W → Calls Try.prog 56 #[.agg h.cells, .agg #[.string y.code, .string y.zone, .int .i64 y.kind, .int .i64 y.aisle, .int .i64 y.place, .int .i64 v, .int .i64 u, .bool y.frz]] W fun e w' => Below W.heap.size W w' ∧ ∃ A n c, n = (putG ordBin (L 3) (bnSize y v u).cells).length ∧ w'.ownsRow W.heap.size 57 8 (.slice A n c) n (putG ordBin (L 3) (bnSize y v u).cells).flatten ∧ e = .returned (.agg (h.set 3 A n c).cells)) := Lib.hid (fun W hW => rBin_any h (bnSize y v u).cells (L 3) W (Bn.fits _) (hh 3 (by decide)).1 hn3 (hh 3 (by decide)).2.2.1 ((hh.below hW) 3 (by decide)).2.2.2)
  rw [her, HL.out]
  obtain ⟨lx, hlx⟩ : ∃ l, putG ordBin (L 3) (bnSize y v u).cells = l := ⟨_, rfl⟩
  rw [hlx] at HPU ⊢
  have hub := Try.underlying57
  have HSB : Hid ((Try.prog.info? 57).map (·.size) = some (#[.string y.code, .string y.zone, .int .i64 y.kind, .int .i64 y.aisle, .int .i64 y.place, .int .i64 v, .int .i64 u, .bool y.frz] : Array Value).size) := Lib.hid (by kernel_rfl)
  clear her hib hoo hfb hy hyb HL hlx
  obtain ⟨W0, hW0⟩ : ∃ W0, W0 = ((w.alloc (.cells h.cells 37)).alloc (.cells #[.slice none 0 0, .slice none 0 0, .slice none 0 0, .slice none 0 0, .slice none 0 0, .slice none 0 0, .slice none 0 0, .slice none 0 0, .slice none 0 0, .slice none 0 0, .slice none 0 0, .slice none 0 0, .slice none 0 0, .slice none 0 0, .int .i64 0] 37)) := ⟨_, rfl⟩
  have hb0 : Below w.heap.size w W0 := by rw [hW0]; exact ((Below.refl _ _).alloc (Nat.le_refl _) _).alloc (by simp <;> omega) _
  have hs0 : W0.heap.size = w.heap.size + 2 := by rw [hW0]; simp
  have HH : Hid (∀ W, Below W0.heap.size W0 W → W.heap[w.heap.size]? = some (.cells h.cells 37 (0, 0))) := Lib.hid (fun W hW => (hW.block _ (by omega)).trans (by
    rw [hW0]
    have hq := heap_alloc_new w (.cells h.cells 37)
    exact (Below.heap_alloc _ _ _ (by simp <;> omega)).trans ((by simpa using hq))))
  have HZ : Hid (∀ W, Below W0.heap.size W0 W → W.heap[w.heap.size + 1]? = some (.cells Hs.zero 37 (0, 0))) := Lib.hid (fun W hW => (hW.block _ (by omega)).trans (by
    rw [hW0]
    have hq := heap_alloc_new (w.alloc (.cells h.cells 37)) (.cells #[.slice none 0 0, .slice none 0 0, .slice none 0 0, .slice none 0 0, .slice none 0 0, .slice none 0 0, .slice none 0 0, .slice none 0 0, .slice none 0 0, .slice none 0 0, .slice none 0 0, .slice none 0 0, .slice none 0 0, .slice none 0 0, .int .i64 0] 37)
    exact (by simpa [Hs.zero] using hq)))
  have HBW : Hid (∀ W, Below W0.heap.size W0 W → Below w.heap.size w W ∧ w.heap.size + 2 ≤ W.heap.size) := Lib.hid (fun W hW => ⟨hb0.trans (hW.mono (by omega)), by have := hW.size; omega⟩)
  have huh := Try.underlying37
  have HSH : Hid (∀ a : Hs, (Try.prog.info? 37).map (·.size) = some a.cells.size) := Lib.hid (fun a => by kernel_rfl)
  have HSQ : Hid ((Try.prog.info? 37).map (·.size) = some Hs.zero.size) := Lib.hid (by kernel_rfl)
  have H1C : Hid (∀ a : Hs, a.cells.all (·.oneCell') = true) := Lib.hid (fun a => by simp [Hs.cells, Value.oneCell'])
  have H1Q : Hid (Hs.zero.all (·.oneCell') = true) := Lib.hid (by simp [Hs.zero, Value.oneCell'])
  have H0 := Lib.hid (Below.refl W0.heap.size W0)
  clear hb0 hs0 hh hn3
  subst hW0
  go_enter Try.func25, Try.ntmps25
  go_wp2_with (first
    | (refine wpList_load_row rfl 37 (.tmp 4) rfl w.heap.size rfl _ _ _ _ (HH.out _ H0.out) huh rfl (HSH.out _) ?_)
    | fail)
  refine (CB.out _ (HBW.out _ H0.out).1).mono ?_
  rintro e w1 ⟨rfl, hb1⟩
  have H1 := Lib.hid (H0.out.trans (hb1.mono H0.out.size))
  clear hb1
  have H2 := Lib.hid (H1.out.alloc H1.out.size (.cells #[.string y.code, .string y.zone, .int .i64 y.kind, .int .i64 y.aisle, .int .i64 y.place, .int .i64 y.vol, .int .i64 y.wei, .bool y.frz] 57))
  cases ib with
  | false =>
    have HE : Hid (er = 12) := Lib.hid (by rw [HA.out]; rfl)
    go_wp2_with (first
      | (refine wpList_store_row rfl 37 (.tmp 8) (.tmp 20) rfl (w.heap.size + 1) Hs.zero rfl rfl _ _ (HZ.out _ H2.out) HSQ.out rfl H1Q.out ?_)
      | fail)
    exact bodyPost_ret (results_row_tmp rfl _ _ (w.heap.size + 1) _ _ _ _ rfl (setRow_heap _ _ _ _ _ _ (HZ.out _ H2.out)) huh rfl HSQ.out) rfl ⟨setRow_below (HBW.out _ H2.out).1 (by omega) _, .inl ⟨by rw [HE.out]; decide, by rw [HE.out]; rfl⟩⟩
  | true =>
    go_upto_region 4 with fail
    go_cut [34] from 21 to 35 (fun q wx => q = .bool oo ∧ wx = w1.alloc (.cells #[.string y.code, .string y.zone, .int .i64 y.kind, .int .i64 y.aisle, .int .i64 y.place, .int .i64 y.vol, .int .i64 y.wei, .bool y.frz] 57))
    case first =>
      by_cases q0 : v < 0
      · go_wp2_with fail
        go_meet
        exact ⟨congrArg Value.bool (by rw [HOO.out]; simp [q0]), rfl⟩
      ·
        by_cases q1 : 1000000000000 < v
        · go_wp2_with fail
          go_meet
          exact ⟨congrArg Value.bool (by rw [HOO.out]; simp [q1]), rfl⟩
        ·
          by_cases q2 : u < 0
          · go_wp2_with fail
            go_meet
            exact ⟨congrArg Value.bool (by rw [HOO.out]; simp [q2]), rfl⟩
          ·
            by_cases q3 : 1000000000000 < u
            · go_wp2_with fail
              go_meet
              exact ⟨congrArg Value.bool (by rw [HOO.out]; simp [q3]), rfl⟩
            ·
              go_wp2_with fail
              go_meet
              exact ⟨congrArg Value.bool (by rw [HOO.out]; simp [q0, q1, q2, q3]), rfl⟩
    case rest =>
      obtain ⟨rfl, rfl⟩ := hcut
      cases oo with
      | true =>
        have HE : Hid (er = 5) := Lib.hid (by rw [HA.out]; rfl)
        go_wp2_with (first
          | (refine wpList_store_row rfl 37 (.tmp 8) (.tmp 35) rfl (w.heap.size + 1) Hs.zero rfl rfl _ _ (HZ.out _ H2.out) HSQ.out rfl H1Q.out ?_)
          | fail)
        exact bodyPost_ret (results_row_tmp rfl _ _ (w.heap.size + 1) _ _ _ _ rfl (setRow_heap _ _ _ _ _ _ (HZ.out _ H2.out)) huh rfl HSQ.out) rfl ⟨setRow_below (HBW.out _ H2.out).1 (by omega) _, .inl ⟨by rw [HE.out]; decide, by rw [HE.out]; rfl⟩⟩
      | false =>
        obtain ⟨w3, hw3⟩ : ∃ w3, w3 = w1.alloc (.cells #[.string y.code, .string y.zone, .int .i64 y.kind, .int .i64 y.aisle, .int .i64 y.place, .int .i64 v, .int .i64 u, .bool y.frz] 57) := ⟨_, rfl⟩
        have H3 : Hid (Below _ _ w3) := Lib.hid (hw3 ▸ H1.out.alloc H1.out.size _)
        have HA1 : Hid (w3.heap[w1.heap.size]? = some (.cells #[.string y.code, .string y.zone, .int .i64 y.kind, .int .i64 y.aisle, .int .i64 y.place, .int .i64 v, .int .i64 u, .bool y.frz] 57 (0, 0))) := Lib.hid (by rw [hw3]; exact heap_alloc_new _ _)
        have HX3 : Hid (∀ W, Below w3.heap.size w3 W → W.heap[w1.heap.size]? = some (.cells #[.string y.code, .string y.zone, .int .i64 y.kind, .int .i64 y.aisle, .int .i64 y.place, .int .i64 v, .int .i64 u, .bool y.frz] 57 (0, 0))) := Lib.hid (fun W hW => (hW.block _ (lt_of_block HA1.out)).trans HA1.out)
        have HW3 := Lib.hid hw3
        clear hw3
        go_upto_region 8 with fail
        rw [← HW3.out]
        go_wp2_with (first
          | (refine wpList_load_row rfl 37 (.tmp 4) rfl w.heap.size rfl _ _ _ _ (HH.out _ H3.out) huh rfl (HSH.out _) ?_)
          | (refine wpList_load_row rfl 57 (.tmp 10) rfl w1.heap.size rfl _ _ _ _ (HX3.out _ (Below.refl _ _)) hub rfl HSB.out ?_)
          | fail)
        refine (CF.out _ (HBW.out _ H3.out).1).mono ?_
        rintro e w4 ⟨rfl, hb4⟩
        have H4 := Lib.hid (H3.out.trans (hb4.mono H3.out.size))
        have HB4 := Lib.hid hb4
        clear hb4
        cases fb with
        | true =>
          have HE : Hid (er = 26) := Lib.hid (by rw [HA.out]; rfl)
          go_wp2_with (first
            | (refine wpList_store_row rfl 37 (.tmp 8) (.tmp 43) rfl (w.heap.size + 1) Hs.zero rfl rfl _ _ (HZ.out _ H4.out) HSQ.out rfl H1Q.out ?_)
            | fail)
          exact bodyPost_ret (results_row_tmp rfl _ _ (w.heap.size + 1) _ _ _ _ rfl (setRow_heap _ _ _ _ _ _ (HZ.out _ H4.out)) huh rfl HSQ.out) rfl ⟨setRow_below (HBW.out _ H4.out).1 (by omega) _, .inl ⟨by rw [HE.out]; decide, by rw [HE.out]; rfl⟩⟩
        | false =>
          have HE : Hid (er = 0) := Lib.hid (by rw [HA.out]; rfl)
          go_wp2_with (first
            | (refine wpList_load_row rfl 37 (.tmp 4) rfl w.heap.size rfl _ _ _ _ (HH.out _ H4.out) huh rfl (HSH.out _) ?_)
            | (refine wpList_load_row rfl 57 (.tmp 10) rfl w1.heap.size rfl _ _ _ _ (HX3.out _ HB4.out) hub rfl HSB.out ?_)
            | fail)
          refine (HPU.out _ (HBW.out _ H4.out).1).mono ?_
          rintro e w5 ⟨hb9, A, n, cc, hl, hown, rfl⟩
          have H9 := Lib.hid (H4.out.trans (hb9.mono H4.out.size))
          have HO9 := Lib.hid hown
          have HLE := Lib.hid hl
          have HSZ9 := Lib.hid (HBW.out _ H4.out).2
          clear hb9 hown hl
          go_wp2_with (first
            | (refine wpList_store_row rfl 37 (.tmp 8) (.tmp 46) rfl (w.heap.size + 1) (h.set 3 A n cc).cells rfl rfl _ _ (HZ.out _ H9.out) (HSH.out _) rfl (H1C.out _) ?_)
            | fail)
          exact bodyPost_ret (results_row_tmp rfl _ _ (w.heap.size + 1) _ _ _ _ rfl (setRow_heap _ _ _ _ _ _ (HZ.out _ H9.out)) huh rfl (HSH.out _)) rfl ⟨setRow_below (HBW.out _ H9.out).1 (by omega) _, .inr ⟨HE.out, A, n, cc, HLE.out, own_rowed HO9.out (by have := HSZ9.out; omega) (by have := HSZ9.out; omega), rfl⟩⟩

set_option maxRecDepth 100000 in
set_option maxHeartbeats 6400000 in
theorem rresize_any (h : Hs) (L : Nat → List (List Value)) (t : ByteArray) (v u : Int) (w : World) (hh : HT h L w) (hn0 : h.n 0 ≤ 1000) :
    Calls Try.prog 23 #[.agg h.cells, .string t, .int .i64 v, .int .i64 u] w (PutP 68 14 0 (resE (L 0) (L 3) (L 4) t v u) (resL (L 0) t v u) h w) := by
  obtain ⟨x, hx, hxo⟩ := item_it hh t
  obtain ⟨ii, hii⟩ : ∃ z, (atItem (L 0) t).isSome = z := ⟨_, rfl⟩
  obtain ⟨oo, hoo⟩ : ∃ z, (decide (v < 0) || decide (1000000 < v) || decide (u < 0) || decide (1000000 < u)) = z := ⟨_, rfl⟩
  obtain ⟨er, her⟩ : ∃ r, resE (L 0) (L 3) (L 4) t v u = r := ⟨_, rfl⟩
  have HL : Hid (resL (L 0) t v u = putG ordItem (L 0) (itSize x v u).cells) := Lib.hid (by unfold resL; rw [hxo])
  obtain ⟨lx, hlx⟩ : ∃ l, resL (L 0) t v u = l := ⟨_, rfl⟩
  have HA : Hid (er = if ii = false then 12 else if oo = true then 5 else if ((L 3).any (badB lx (L 4) t)) = true then 26 else 0) := Lib.hid (by rw [← her]; unfold resE; rw [hii, hoo, hlx])
  have HOO : Hid (oo = (decide (v < 0) || decide (1000000 < v) || decide (u < 0) || decide (1000000 < u))) := Lib.hid hoo.symm
  have HLX : Hid (putG ordItem (L 0) (itSize x v u).cells = lx) := Lib.hid (by rw [← HL.out, hlx])
  have CI : Hid (∀ W, Below w.heap.size w W → Calls Try.prog 43 #[.agg h.cells, .string t] W fun e w' => e = .returned (.tuple #[.agg #[.string x.code, .string (x.nm 0), .int .i64 (x.fc 0), .string (x.nm 1), .int .i64 (x.fc 1), .string (x.nm 2), .int .i64 (x.fc 2), .string (x.nm 3), .int .i64 (x.fc 3), .int .i64 x.vol, .int .i64 x.wei, .bool x.lots, .bool x.serial, .bool x.chk], .bool ii]) ∧ Below W.heap.size W w') := Lib.hid (fun W hW => by have := frItem (hh.below hW) t; rw [hx, hii] at this; exact this)
  have HPU : Hid (∀ W, Below w.heap.size w W → Calls Try.prog 53 #[.agg h.cells, .agg #[.string x.code, .string (x.nm 0), .int .i64 (x.fc 0), .string (x.nm 1), .int .i64 (x.fc 1), .string (x.nm 2), .int .i64 (x.fc 2), .string (x.nm 3), .int .i64 (x.fc 3), .int .i64 v, .int .i64 u, .bool x.lots, .bool x.serial, .bool x.chk]] W fun e w' => Below W.heap.size W w' ∧ ∃ g : Hs, e = .returned (.agg g.cells) ∧ PutK 68 14 0 0 lx h g W.heap.size w' ∧ HT g (setE 0 L 0 lx) w') := Lib.hid (fun W hW => (rItem_any h (itSize x v u).cells (L 0) W (It.fits _) (hh 0 (by decide)).1 hn0 (hh 0 (by decide)).2.2.1 ((hh.below hW) 0 (by decide)).2.2.2).mono (fun e w' h5 => by
    obtain ⟨hb, A, n, c, hl, ho, he⟩ := h5
    rw [HLX.out] at hl ho
    have hk : PutK 68 14 0 0 lx h (h.set 0 A n c) W.heap.size w' := .inr ⟨rfl, A, n, c, hl, ho, rfl⟩
    refine ⟨hb, _, he, hk, ?_⟩
    rw [← HLX.out] at hk ⊢
    exact PutK.ht (by decide) (It.fits _) hn0 ((hh.below hW).below hb) hk))
  have CF : Hid (∀ (g : Hs) (G : Nat → List (List Value)) (y : Bn) W, HT g G W → Calls Try.prog 48 #[.agg g.cells, .agg #[.string y.code, .string y.zone, .int .i64 y.kind, .int .i64 y.aisle, .int .i64 y.place, .int .i64 y.vol, .int .i64 y.wei, .bool y.frz]] W fun e w' => e = .returned (.bool (fullB (G 0) (G 4) y)) ∧ Below W.heap.size W w') := Lib.hid (fun g G y W hW => rfull_any g G _ _ _ _ _ _ _ _ W hW)
  have HHT := Lib.hid hh
  have HZZ : Hid (setE 0 L 0 lx 0 = lx ∧ setE 0 L 0 lx 3 = L 3 ∧ setE 0 L 0 lx 4 = L 4) := Lib.hid ⟨rfl, rfl, rfl⟩
  rw [her, hlx]
  have HSHL : Hid (∀ a : Hs, (Try.prog.info? 37).map (·.size) = some a.cells.toList.length) := Lib.hid (fun a => by kernel_rfl)
  have HS8 : Hid ((Try.prog.info? 57).map (·.size) = some 8) := Lib.hid (by kernel_rfl)
  have hub := Try.underlying57
  clear her hii hoo hx hxo hlx HL HLX
  obtain ⟨W0, hW0⟩ : ∃ W0, W0 = ((w.alloc (.cells h.cells 37)).alloc (.cells #[.slice none 0 0, .slice none 0 0, .slice none 0 0, .slice none 0 0, .slice none 0 0, .slice none 0 0, .slice none 0 0, .slice none 0 0, .slice none 0 0, .slice none 0 0, .slice none 0 0, .slice none 0 0, .slice none 0 0, .slice none 0 0, .int .i64 0] 37)) := ⟨_, rfl⟩
  have hb0 : Below w.heap.size w W0 := by rw [hW0]; exact ((Below.refl _ _).alloc (Nat.le_refl _) _).alloc (by simp <;> omega) _
  have hs0 : W0.heap.size = w.heap.size + 2 := by rw [hW0]; simp
  have HH : Hid (∀ W, Below W0.heap.size W0 W → W.heap[w.heap.size]? = some (.cells h.cells 37 (0, 0))) := Lib.hid (fun W hW => (hW.block _ (by omega)).trans (by
    rw [hW0]
    have hq := heap_alloc_new w (.cells h.cells 37)
    exact (Below.heap_alloc _ _ _ (by simp <;> omega)).trans ((by simpa using hq))))
  have HZ : Hid (∀ W, Below W0.heap.size W0 W → W.heap[w.heap.size + 1]? = some (.cells Hs.zero 37 (0, 0))) := Lib.hid (fun W hW => (hW.block _ (by omega)).trans (by
    rw [hW0]
    have hq := heap_alloc_new (w.alloc (.cells h.cells 37)) (.cells #[.slice none 0 0, .slice none 0 0, .slice none 0 0, .slice none 0 0, .slice none 0 0, .slice none 0 0, .slice none 0 0, .slice none 0 0, .slice none 0 0, .slice none 0 0, .slice none 0 0, .slice none 0 0, .slice none 0 0, .slice none 0 0, .int .i64 0] 37)
    exact (by simpa [Hs.zero] using hq)))
  have HBW : Hid (∀ W, Below W0.heap.size W0 W → Below w.heap.size w W ∧ w.heap.size + 2 ≤ W.heap.size) := Lib.hid (fun W hW => ⟨hb0.trans (hW.mono (by omega)), by have := hW.size; omega⟩)
  have huh := Try.underlying37
  have HSH : Hid (∀ a : Hs, (Try.prog.info? 37).map (·.size) = some a.cells.size) := Lib.hid (fun a => by kernel_rfl)
  have HSQ : Hid ((Try.prog.info? 37).map (·.size) = some Hs.zero.size) := Lib.hid (by kernel_rfl)
  have H1C : Hid (∀ a : Hs, a.cells.all (·.oneCell') = true) := Lib.hid (fun a => by simp [Hs.cells, Value.oneCell'])
  have H1Q : Hid (Hs.zero.all (·.oneCell') = true) := Lib.hid (by simp [Hs.zero, Value.oneCell'])
  have H0 := Lib.hid (Below.refl W0.heap.size W0)
  clear hb0 hs0 hh hn0
  subst hW0
  go_enter Try.func23, Try.ntmps23
  go_wp2_with (first
    | (refine wpList_load_row rfl 37 (.tmp 4) rfl w.heap.size rfl _ _ _ _ (HH.out _ H0.out) huh rfl (HSH.out _) ?_)
    | fail)
  refine (CI.out _ (HBW.out _ H0.out).1).mono ?_
  rintro e w1 ⟨rfl, hb1⟩
  have H1 := Lib.hid (H0.out.trans (hb1.mono H0.out.size))
  clear hb1
  have H2 := Lib.hid (H1.out.alloc H1.out.size (.cells #[.string x.code, .string (x.nm 0), .int .i64 (x.fc 0), .string (x.nm 1), .int .i64 (x.fc 1), .string (x.nm 2), .int .i64 (x.fc 2), .string (x.nm 3), .int .i64 (x.fc 3), .int .i64 x.vol, .int .i64 x.wei, .bool x.lots, .bool x.serial, .bool x.chk] 68))
  cases ii with
  | false =>
    have HE : Hid (er = 12) := Lib.hid (by rw [HA.out]; rfl)
    go_wp2_with (first
      | (refine wpList_store_row rfl 37 (.tmp 8) (.tmp 24) rfl (w.heap.size + 1) Hs.zero rfl rfl _ _ (HZ.out _ H2.out) HSQ.out rfl H1Q.out ?_)
      | fail)
    exact bodyPost_ret (results_row_tmp rfl _ _ (w.heap.size + 1) _ _ _ _ rfl (setRow_heap _ _ _ _ _ _ (HZ.out _ H2.out)) huh rfl HSQ.out) rfl ⟨setRow_below (HBW.out _ H2.out).1 (by omega) _, .inl ⟨by rw [HE.out]; decide, by rw [HE.out]; rfl⟩⟩
  | true =>
    go_upto_region 4 with fail
    go_cut [38] from 25 to 39 (fun q wx => q = .bool oo ∧ wx = w1.alloc (.cells #[.string x.code, .string (x.nm 0), .int .i64 (x.fc 0), .string (x.nm 1), .int .i64 (x.fc 1), .string (x.nm 2), .int .i64 (x.fc 2), .string (x.nm 3), .int .i64 (x.fc 3), .int .i64 x.vol, .int .i64 x.wei, .bool x.lots, .bool x.serial, .bool x.chk] 68))
    case first =>
      by_cases q0 : v < 0
      · go_wp2_with fail
        go_meet
        exact ⟨congrArg Value.bool (by rw [HOO.out]; simp [q0]), rfl⟩
      ·
        by_cases q1 : 1000000 < v
        · go_wp2_with fail
          go_meet
          exact ⟨congrArg Value.bool (by rw [HOO.out]; simp [q1]), rfl⟩
        ·
          by_cases q2 : u < 0
          · go_wp2_with fail
            go_meet
            exact ⟨congrArg Value.bool (by rw [HOO.out]; simp [q2]), rfl⟩
          ·
            by_cases q3 : 1000000 < u
            · go_wp2_with fail
              go_meet
              exact ⟨congrArg Value.bool (by rw [HOO.out]; simp [q3]), rfl⟩
            ·
              go_wp2_with fail
              go_meet
              exact ⟨congrArg Value.bool (by rw [HOO.out]; simp [q0, q1, q2, q3]), rfl⟩
    case rest =>
      obtain ⟨rfl, rfl⟩ := hcut
      cases oo with
      | true =>
        have HE : Hid (er = 5) := Lib.hid (by rw [HA.out]; rfl)
        go_wp2_with (first
          | (refine wpList_store_row rfl 37 (.tmp 8) (.tmp 39) rfl (w.heap.size + 1) Hs.zero rfl rfl _ _ (HZ.out _ H2.out) HSQ.out rfl H1Q.out ?_)
          | fail)
        exact bodyPost_ret (results_row_tmp rfl _ _ (w.heap.size + 1) _ _ _ _ rfl (setRow_heap _ _ _ _ _ _ (HZ.out _ H2.out)) huh rfl HSQ.out) rfl ⟨setRow_below (HBW.out _ H2.out).1 (by omega) _, .inl ⟨by rw [HE.out]; decide, by rw [HE.out]; rfl⟩⟩
      | false =>
        have H3 := Lib.hid (H1.out.alloc H1.out.size (.cells #[.string x.code, .string (x.nm 0), .int .i64 (x.fc 0), .string (x.nm 1), .int .i64 (x.fc 1), .string (x.nm 2), .int .i64 (x.fc 2), .string (x.nm 3), .int .i64 (x.fc 3), .int .i64 v, .int .i64 u, .bool x.lots, .bool x.serial, .bool x.chk] 68))
        go_wp2_with (first
          | (refine wpList_load_row rfl 37 (.tmp 4) rfl w.heap.size rfl _ _ _ _ (HH.out _ H3.out) huh rfl (HSH.out _) ?_)
          | fail)
        have HSZ3 := Lib.hid (HBW.out _ H3.out).2
        refine (HPU.out _ (HBW.out _ H3.out).1).mono ?_
        rintro e w4 ⟨hb4, g, rfl, hk4, hg4⟩
        have H4 := Lib.hid (H3.out.trans (hb4.mono H3.out.size))
        have HQ5 : Hid ((w4.alloc (.cells #[.slice none 0 0, .slice none 0 0, .slice none 0 0, .slice none 0 0, .slice none 0 0, .slice none 0 0, .slice none 0 0, .slice none 0 0, .slice none 0 0, .slice none 0 0, .slice none 0 0, .slice none 0 0, .slice none 0 0, .slice none 0 0, .int .i64 0] 37)).heap[w4.heap.size]? = some (.cells #[.slice none 0 0, .slice none 0 0, .slice none 0 0, .slice none 0 0, .slice none 0 0, .slice none 0 0, .slice none 0 0, .slice none 0 0, .slice none 0 0, .slice none 0 0, .slice none 0 0, .slice none 0 0, .slice none 0 0, .slice none 0 0, .int .i64 0] 37 (0, 0))) := Lib.hid (heap_alloc_new _ _)
        obtain ⟨w5, hw5⟩ : ∃ w', w' = (w4.alloc (.cells #[.slice none 0 0, .slice none 0 0, .slice none 0 0, .slice none 0 0, .slice none 0 0, .slice none 0 0, .slice none 0 0, .slice none 0 0, .slice none 0 0, .slice none 0 0, .slice none 0 0, .slice none 0 0, .slice none 0 0, .slice none 0 0, .int .i64 0] 37)).setRow w4.heap.size g.cells := ⟨_, rfl⟩
        have hb5 : Below w4.heap.size w4 w5 := by rw [hw5]; exact setRow_below ((Below.refl _ _).alloc (Nat.le_refl _) _) (Nat.le_refl _) _
        have H5 := Lib.hid (H4.out.trans (hb5.mono H4.out.size))
        have HG5 : Hid (w5.heap[w4.heap.size]? = some (.cells g.cells 37 (0, 0))) := Lib.hid (by rw [hw5]; exact setRow_heap _ _ _ _ _ _ HQ5.out)
        have HT5 : Hid (HT g (setE 0 L 0 lx) w5) := Lib.hid (hg4.below hb5)
        have HK5 := Lib.hid (hk4.below (Nat.le_refl _) hb5)
        have HW5 := Lib.hid hw5
        obtain ⟨gb, hgb⟩ : ∃ n, n = w4.heap.size := ⟨_, rfl⟩
        have HGB := Lib.hid hgb
        rw [← hgb] at HG5 HQ5
        clear hw5 hb4 hb5 hk4 hg4 hgb
        obtain ⟨m, hm⟩ : ∃ n, g.n 3 = n := ⟨_, rfl⟩
        obtain ⟨mq, hmq⟩ : ∃ n, g.n 4 = n := ⟨_, rfl⟩
        have HM : Hid (m = (L 3).length) := Lib.hid (by rw [← hm, (HT5.out 3 (by decide)).1, HZZ.out.2.1])
        have HMQ : Hid (mq = (L 4).length) := Lib.hid (by rw [← hmq, (HT5.out 4 (by decide)).1, HZZ.out.2.2])
        have hm9 : m ≤ 1000000 := by rw [← hm]; exact (HT5.out 3 (by decide)).2.1
        have hq9 : mq ≤ 1000000 := by rw [← hmq]; exact (HT5.out 4 (by decide)).2.1
        have HGL : Hid (∀ W, Below w5.heap.size w5 W → W.heap[gb]? = some (.cells g.cells 37 (0, 0)) ∧ W.cell? ⟨gb, 3, none⟩ = some (.slice (g.A 3) m (g.c 3)) ∧ W.cell? ⟨gb, 4, none⟩ = some (.slice (g.A 4) mq (g.c 4)) ∧ gb < W.heap.size) := Lib.hid (fun W hW => by
          have q := (hW.block _ (lt_of_block HG5.out)).trans HG5.out
          exact ⟨q, by rw [cell_of_block q, ← hm]; rfl, by rw [cell_of_block q, ← hmq]; rfl, lt_of_block q⟩)
        have HBA : Hid (∀ k (hk : k < (L 3).length), ∃ b off, g.A 3 = some ⟨b, off, none⟩ ∧ b < w5.heap.size ∧ w5.rangeAt b (off + k * 8) (bnOf (L 3)[k]).cells) := Lib.hid (fun k hk => bin_at (L := setE 0 L 0 lx) HT5.out (k := k) hk)
        have HQA : Hid (∀ k (hk : k < (L 4).length), ∃ b off, g.A 4 = some ⟨b, off, none⟩ ∧ b < w5.heap.size ∧ w5.rangeAt b (off + k * 6) (qnOf (L 4)[k]).cells) := Lib.hid (fun k hk => quant_at (L := setE 0 L 0 lx) HT5.out (k := k) hk)
        have HLB : Hid (∀ k (hk : k < (L 3).length), codeOf (L 3)[k] = (bnOf (L 3)[k]).code) := Lib.hid (fun k hk => code_bn ((HHT.out 3 (by decide)).2.2.1 _ (List.getElem_mem hk)))
        clear hm hmq
        have hq5 := HQ5.out
        rw [HGB.out] at hq5
        go_upto_region 9 with (first
          | (refine wpList_store_row rfl 37 (.tmp 12) (.tmp 46) rfl w4.heap.size g.cells rfl rfl _ _ hq5 (HSH.out _) rfl (H1C.out _) ?_; rw [← HW5.out, ← HGB.out])
          | fail)
        clear hq5
        go_wp2_with fail
        go_loopw [13] (fun i wr => ∃ k : Nat, k ≤ m ∧ i = .int .i64 (k : Int) ∧ Hid (((L 3).take k).any (badB lx (L 4) t) = false) ∧ Hid (Below w5.heap.size w5 wr)) (fun i _ => m - (intOf i).toNat)
        case atStart => exact ⟨0, by omega, rfl, Lib.hid rfl, Lib.hid (Below.refl _ _)⟩
        case round =>
          obtain ⟨k, hk, rfl, hno, hw⟩ := hrel
          obtain ⟨_, d3, d4, dlt⟩ := HGL.out _ hw.out
          by_cases hlt : k < m
          · have hkl : k < (L 3).length := by rw [← HM.out]; exact hlt
            obtain ⟨b, off, hA, hb, r1⟩ := HBA.out k hkl
            have hcd := HLB.out k hkl
            have hsn : ((L 3).take (k + 1)).any (badB lx (L 4) t) = (((L 3).take k).any (badB lx (L 4) t) || badB lx (L 4) t (L 3)[k]) := by rw [List.take_succ_eq_append_getElem hkl, List.any_append]; simp
            rw [hno.out, Bool.false_or] at hsn
            unfold badB at hsn
            rw [hcd] at hsn
            have hmem : (standsQ (L 4) (codeOf (L 3)[k]) t && fullB lx (L 4) (bnOf (L 3)[k])) = true → (L 3).any (badB lx (L 4) t) = true := fun h => List.any_eq_true.2 ⟨_, List.getElem_mem hkl, h⟩
            rw [hcd] at hmem
            obtain ⟨y, hy⟩ : ∃ y, bnOf (L 3)[k] = y := ⟨_, rfl⟩
            rw [hy] at r1 hsn hmem
            have HRE : Hid (∀ W, Below w5.heap.size w5 W → W.rangeAt b (off + k * 8) y.cells) := Lib.hid (fun W hW => rangeAt_below r1 hb hW)
            have HSN := Lib.hid hsn
            have HMEM := Lib.hid hmem
            obtain ⟨fb, hfb⟩ : ∃ z, fullB lx (L 4) y = z := ⟨_, rfl⟩
            have HFB := Lib.hid hfb
            obtain ⟨yc, hyc⟩ : ∃ z, y.code = z := ⟨_, rfl⟩
            have HYC := Lib.hid hyc
            have HAB := Lib.hid hA
            have hbl : b < w5.heap.size := hb
            have h1 : (0 : Int) ≤ (k : Int) := by omega
            have h2 : (k : Int) < (m : Int) := by omega
            clear r1 hsn hmem hcd hy hfb hyc hA hb hkl
            go_wp2_with fail
            clear d3 d4 dlt
            go_loopw [14, 15] (fun z j wx => ∃ q : Nat, q ≤ mq ∧ j = .int .i64 (q : Int) ∧ z = .bool (standsQ ((L 4).take q) yc t) ∧ Hid (Below w5.heap.size w5 wx)) (fun _ j _ => mq - (intOf j).toNat)
            case atStart => exact ⟨0, by omega, rfl, rfl, hw⟩
            case round =>
              obtain ⟨q, hq, rfl, rfl, hx⟩ := hrel
              obtain ⟨_, d3, d4, dlt⟩ := HGL.out _ hx.out
              obtain ⟨β, hβ⟩ : ∃ β, standsQ ((L 4).take q) yc t = β := ⟨_, rfl⟩
              rw [hβ]
              by_cases hqt : q < mq
              · have hql : q < (L 4).length := by rw [← HMQ.out]; exact hqt
                obtain ⟨b2, off2, hA2, hb2, r2⟩ := HQA.out q hql
                have hss := standsQ_snoc (L 4) yc t q hql
                rw [hβ] at hss
                obtain ⟨qn, hqn⟩ : ∃ z, qnOf (L 4)[q] = z := ⟨_, rfl⟩
                rw [hqn] at r2 hss
                obtain ⟨qb, qi, qlo, qs, qq, qh⟩ := qn
                simp only [] at hss
                have r3 : wr.heap.size = wr.heap.size := rfl
                clear r3
                have r4 := rangeAt_below r2 hb2 hx.out
                have z0 : _ = some (Value.string qb) := r4 0 (.string qb) rfl
                have z1 : _ = some (Value.string qi) := r4 1 (.string qi) rfl
                have y0 := HRE.out _ hx.out 0 (.string yc) (by rw [← HYC.out]; rfl)
                rw [HAB.out] at d3
                rw [hA2] at d4
                rw [Nat.add_zero] at z0 y0
                have l1 := Nat.lt_of_lt_of_le hbl hx.out.size
                have l2 := Nat.lt_of_lt_of_le hb2 hx.out.size
                have i1 : (0 : Int) ≤ (q : Int) := by omega
                have i2 : (q : Int) < (mq : Int) := by omega
                have HSS := Lib.hid hss
                clear hss r4 r2 hA2 hb2 hqn hql hβ
                cases β with
                | true =>
                  have HEQ : Hid (standsQ ((L 4).take (q + 1)) yc t = true) := Lib.hid (by rw [HSS.out]; simp)
                  clear HSS
                  go_wp2_with fail
                  go_quiet (fail)
                  go_wp2_with fail
                  go_roundw
                  case rel => exact ⟨q + 1, by omega, by go_num, by rw [HEQ.out], Lib.hid (below_drewN hx.out _)⟩
                  case measure => simp [intOf]; omega
                | false =>
                  cases he1 : Pl.eqv qb yc with
                  | false =>
                    have he' : (qb.toList == yc.toList) = false := he1
                    rw [he1] at HSS
                    clear he1
                    have HEQ : Hid (standsQ ((L 4).take (q + 1)) yc t = false) := Lib.hid (by rw [HSS.out]; simp)
                    clear HSS
                    go_wp2_with fail
                    go_quiet (fail)
                    go_wp2_with fail
                    go_roundw
                    case rel => exact ⟨q + 1, by omega, by go_num, by rw [HEQ.out], Lib.hid (below_drewN hx.out _)⟩
                    case measure => simp [intOf]; omega
                  | true =>
                    have he' : (qb.toList == yc.toList) = true := he1
                    rw [he1] at HSS
                    clear he1
                    cases he2 : Pl.eqv qi t with
                    | false =>
                      have hf' : (qi.toList == t.toList) = false := he2
                      rw [he2] at HSS
                      clear he2
                      have HEQ : Hid (standsQ ((L 4).take (q + 1)) yc t = false) := Lib.hid (by rw [HSS.out]; simp)
                      clear HSS
                      go_wp2_with fail
                      go_quiet (fail)
                      go_wp2_with fail
                      go_roundw
                      case rel => exact ⟨q + 1, by omega, by go_num, by rw [HEQ.out], Lib.hid (below_drewN hx.out _)⟩
                      case measure => simp [intOf]; omega
                    | true =>
                      have hf' : (qi.toList == t.toList) = true := he2
                      rw [he2] at HSS
                      clear he2
                      have HEQ : Hid (standsQ ((L 4).take (q + 1)) yc t = true) := Lib.hid (by rw [HSS.out]; simp)
                      clear HSS
                      go_wp2_with fail
                      go_quiet (fail)
                      go_wp2_with fail
                      go_roundw
                      case rel => exact ⟨q + 1, by omega, by go_num, by rw [HEQ.out], Lib.hid (below_drewN hx.out _)⟩
                      case measure => simp [intOf]; omega
              · have hqe : (L 4).take q = L 4 := List.take_of_length_le (by rw [← HMQ.out]; omega)
                rw [hqe, ← HYC.out] at hβ
                rw [hβ, HFB.out] at HSN HMEM
                clear hβ hqe
                have CX : Hid (∀ X : BW wr, Calls Try.prog 48 #[.agg g.cells, .agg y.cells.toArray] X.W fun e w' => e = .returned (.bool fb) ∧ Below X.W.heap.size X.W w') := Lib.hid (fun X => by rw [← HFB.out]; exact CF.out g (setE 0 L 0 lx) y X.W (HT5.out.below (hx.out.trans (X.h.mono hx.out.size))))
                have RGG : Hid (∀ X : BW wr, X.W.heap[gb]? = some (.cells g.cells 37 (0, 0))) := Lib.hid (fun X => (HGL.out _ (hx.out.trans (X.h.mono hx.out.size))).1)
                have RRE : Hid (∀ X : BW wr, X.W.rangeAt b (off + k * 8) y.cells) := Lib.hid (fun X => HRE.out _ (hx.out.trans (X.h.mono hx.out.size)))
                have HSL8 : Hid ((Try.prog.info? 57).map (·.size) = some y.cells.length) := Lib.hid HS8.out
                have x3 : ∀ X : BW wr, X.W.cell? ⟨gb, 3, none⟩ = some (.slice (some ⟨b, off, none⟩) m (g.c 3)) := fun X => by have := (HGL.out _ (hx.out.trans (X.h.mono hx.out.size))).2.1; rwa [HAB.out] at this
                go_wp2_with fail
                clear d3 d4 dlt
                cases β with
                | false =>
                  refine wp_grow wr (by kernel_rfl) (by kernel_rfl) (Below.refl _ _) ?_
                  simp only []
                  iterate 10 go_big_quiet_step (fail)
                  refine wpQuiet_nil ?_
                  intro X
                  clear x3
                  obtain ⟨w6, hb6⟩ := X
                  simp only []
                  have H6 := Lib.hid (hx.out.trans (hb6.mono hx.out.size))
                  clear hb6 CX RGG RRE
                  go_wp2_with fail
                  go_roundw
                  case rel => exact ⟨k + 1, by omega, by go_num, HSN, H6⟩
                  case measure => simp [intOf]; omega
                | true =>
                  refine wp_grow wr (by kernel_rfl) (by kernel_rfl) (Below.refl _ _) ?_
                  simp only []
                  iterate 2 go_big_quiet_step (fail)
                  refine BigFrame.wpQuiet_want (by kernel_rfl) (fun K hK => quiet_load_mid 37 (.tmp 12) rfl gb 0 rfl g.cells.toList _ (fun W ⟨X, hX⟩ => by rw [hX]; exact range_row0 (RGG.out X)) huh rfl (HSHL.out _) (hK _ ?_))
                  simp only [Act.put, List.setIfInBounds_toArray, List.set_cons_zero, List.set_cons_succ, Array.toArray_toList]
                  iterate 4 go_big_quiet_step (fail)
                  refine BigFrame.wpQuiet_want (by kernel_rfl) (fun K hK => quiet_load_mid 57 (.tmp 95) rfl b (off + k * 8) rfl y.cells _ (fun W ⟨X, hX⟩ => by rw [hX]; exact RRE.out X) hub rfl HSL8.out (hK _ ?_))
                  simp only [Act.put, List.setIfInBounds_toArray, List.set_cons_zero, List.set_cons_succ]
                  go_big_quiet_step (exact grow_call _ (CX.out _))
                  go_big_quiet_step (fail)
                  refine wpQuiet_nil ?_
                  intro X
                  cases fb with
                  | true =>
                    clear x3
                    obtain ⟨w6, hb6⟩ := X
                    simp only []
                    have H6 := Lib.hid (hx.out.trans (hb6.mono hx.out.size))
                    clear hb6 CX RGG RRE
                    have HE : Hid (er = 26) := Lib.hid (by rw [HA.out, HMEM.out rfl]; rfl)
                    have H7 := Lib.hid (H5.out.trans (H6.out.mono H5.out.size))
                    go_wp2_with (first
                      | (refine wpList_store_row rfl 37 (.tmp 8) (.tmp 99) rfl (w.heap.size + 1) Hs.zero rfl rfl _ _ (HZ.out _ H7.out) HSQ.out rfl H1Q.out ?_)
                      | fail)
                    exact bodyPost_ret (results_row_tmp rfl _ _ (w.heap.size + 1) _ _ _ _ rfl (setRow_heap _ _ _ _ _ _ (HZ.out _ H7.out)) huh rfl HSQ.out) rfl ⟨setRow_below (HBW.out _ H7.out).1 (by omega) _, .inl ⟨by rw [HE.out]; decide, by rw [HE.out]; rfl⟩⟩
                  | false =>
                    clear x3
                    obtain ⟨w6, hb6⟩ := X
                    simp only []
                    have H6 := Lib.hid (hx.out.trans (hb6.mono hx.out.size))
                    clear hb6 CX RGG RRE
                    go_wp2_with fail
                    go_roundw
                    case rel => exact ⟨k + 1, by omega, by go_num, HSN, H6⟩
                    case measure => simp [intOf]; omega
          · have HEQ : Hid ((L 3).any (badB lx (L 4) t) = false) := Lib.hid (by have := hno.out; rwa [List.take_of_length_le (by rw [← HM.out]; omega)] at this)
            have HE : Hid (er = 0) := Lib.hid (by rw [HA.out, HEQ.out]; rfl)
            have H7 := Lib.hid (H5.out.trans (hw.out.mono H5.out.size))
            have HG7 := Lib.hid (HGL.out _ hw.out).1
            have HK7 := Lib.hid (HK5.out.below (Nat.le_refl _) hw.out)
            have HSB := Lib.hid (HBW.out _ H7.out).2
            go_wp2_with (first
              | (refine wpList_load_row rfl 37 (.tmp 12) rfl gb rfl _ _ _ _ HG7.out huh rfl (HSH.out _) ?_)
              | (refine wpList_store_row rfl 37 (.tmp 8) (.tmp 100) rfl (w.heap.size + 1) g.cells rfl rfl _ _ (HZ.out _ H7.out) (HSH.out _) rfl (H1C.out _) ?_)
              | fail)
            rcases HK7.out with ⟨h0, _⟩ | ⟨_, A, n, cc, hl, ho, hg⟩
            · exact absurd rfl h0
            · subst hg
              exact bodyPost_ret (results_row_tmp rfl _ _ (w.heap.size + 1) _ _ _ _ rfl (setRow_heap _ _ _ _ _ _ (HZ.out _ H7.out)) huh rfl (HSH.out _)) rfl ⟨setRow_below (HBW.out _ H7.out).1 (by omega) _, .inr ⟨HE.out, A, n, cc, hl, own_rowed (B' := w.heap.size) ho (by have := HSZ3.out; omega) (by have := HSZ3.out; omega), rfl⟩⟩

end Go.Proofs.Ythoblccmdadmmaa
