/-
 CONTRACTS of the rows' FindItem, FindZone, FindBin; of the reference's Load, Fits, Site. (By wip/tools/gen_uref.py.)
-/
import Derived.Test.YtgbilfkjfeheaaaGreatOFind
import Derived.Test.YtgbilfkjfeheaaaGreatOPl
import Derived.Deep.CutRange
namespace Go.Proofs.YtgbilfkjfeheaaaGreat
set_option linter.unusedVariables false
open Go.RowKit
open Pl (firstG findG putG It)

theorem frItem {h : Hs} {L : Nat → List (List Value)} {w : World} (hh : HT h L w) (s : ByteArray) : Calls Tryz.prog 66 #[.agg h.cells, .string s] w fun e w' => e = .returned (.tuple #[.agg (gotItem (L 0) s).toArray, .bool (atItem (L 0) s).isSome]) ∧ Below w.heap.size w w' :=
 rfindItem h (L 0) s w (hh 0 (by decide)).1 (hh 0 (by decide)).2.1 (hh 0 (by decide)).2.2.1 (hh 0 (by decide)).2.2.2
theorem frZone {h : Hs} {L : Nat → List (List Value)} {w : World} (hh : HT h L w) (s : ByteArray) : Calls Tryz.prog 127 #[.agg h.cells, .string s] w fun e w' => e = .returned (.tuple #[.agg (gotZone (L 2) s).toArray, .bool (atZone (L 2) s).isSome]) ∧ Below w.heap.size w w' :=
 rfindZone h (L 2) s w (hh 2 (by decide)).1 (hh 2 (by decide)).2.1 (hh 2 (by decide)).2.2.1 (hh 2 (by decide)).2.2.2
theorem frBin {h : Hs} {L : Nat → List (List Value)} {w : World} (hh : HT h L w) (s : ByteArray) : Calls Tryz.prog 84 #[.agg h.cells, .string s] w fun e w' => e = .returned (.tuple #[.agg (gotBin (L 3) s).toArray, .bool (atBin (L 3) s).isSome]) ∧ Below w.heap.size w w' :=
 rfindBin h (L 3) s w (hh 3 (by decide)).1 (hh 3 (by decide)).2.1 (hh 3 (by decide)).2.2.1 (hh 3 (by decide)).2.2.2

set_option maxRecDepth 100000 in
set_option maxHeartbeats 3200000 in
theorem rload_any (h : Hs) (L : Nat → List (List Value)) (s : ByteArray) (w : World) (hh : HT h L w) :
 Calls Tryz.prog 115 #[.agg h.cells, .string s] w fun e w' => e = .returned (.tuple #[.int .i64 (loadP (L 0) (L 4) s).1, .int .i64 (loadP (L 0) (L 4) s).2]) ∧ Below w.heap.size w w' := by
 have HHT := Lib.hid hh
 have hn9 := (hh 4 (by decide)).2.1
 obtain ⟨m, hmm⟩ : ∃ m, h.n 4 = m := ⟨_, rfl⟩
 have HNM : Hid (m = (L 4).length) := Lib.hid (by rw [← hmm]; exact (hh 4 (by decide)).1)
 rw [hmm] at hn9
 have HMM := Lib.hid hmm
 obtain ⟨r, hr⟩ : ∃ r, loadP (L 0) (L 4) s = r := ⟨_, rfl⟩
 rw [hr]
 have HR := Lib.hid hr
 clear hr hmm
 obtain ⟨W0, hW0⟩ : ∃ W0, W0 = (w.alloc (.cells h.cells 37)) := ⟨_, rfl⟩
 have hb0 : Below w.heap.size w W0 := by rw [hW0]; exact (Below.refl _ _).alloc (Nat.le_refl _) _
 have hs0 : W0.heap.size = w.heap.size + 1 := by rw [hW0]; simp
 have HH : Hid (∀ W, Below W0.heap.size W0 W → W.heap[w.heap.size]? = some (.cells h.cells 37 (0, 0))) := Lib.hid (fun W hW => (hW.block _ (by omega)).trans (by
  rw [hW0]
  have hq := heap_alloc_new w (.cells h.cells 37)
  exact (by simpa using hq)))
 have HBW : Hid (∀ W, Below W0.heap.size W0 W → Below w.heap.size w W ∧ w.heap.size + 1 ≤ W.heap.size) := Lib.hid (fun W hW => ⟨hb0.trans (hW.mono (by omega)), by have := hW.size; omega⟩)
 have huh := Tryz.underlying37
 have HSH : Hid (∀ a : Hs, (Tryz.prog.info? 37).map (·.size) = some a.cells.size) := Lib.hid (fun a => by kernel_rfl)
 have HL4 : Hid (∀ W, Below W0.heap.size W0 W → W.cell? ⟨w.heap.size, 4, none⟩ = some (.slice (h.A 4) m (h.c 4)) ∧ w.heap.size < W.heap.size) := Lib.hid (fun W hW => ⟨by rw [cell_of_block (HH.out W hW), ← HMM.out]; rfl, by have := hW.size; omega⟩)
 have HSQ6 : Hid ((Tryz.prog.info? 71).map (·.size) = some 6) := Lib.hid (by kernel_rfl)
 have huq := Tryz.underlying71
 have H0 := Lib.hid (Below.refl W0.heap.size W0)
 clear hb0 hs0 hh
 subst hW0
 go_enter Tryz.func115, Tryz.ntmps115
 go_wp2_with fail
 go_loopw [6, 7, 8] (fun v u i wr => ∃ (k : Nat) (va vb : Int), k ≤ m ∧ v = .int .i64 va ∧ u = .int .i64 vb ∧ i = .int .i64 (k : Int) ∧ Hid (loadP (L 0) ((L 4).take k) s = (va, vb)) ∧ Hid (Below (w.alloc (.cells h.cells 37)).heap.size (w.alloc (.cells h.cells 37)) wr)) (fun _ _ i _ => m - (intOf i).toNat)
 case atStart => exact ⟨0, 0, 0, by omega, rfl, rfl, rfl, Lib.hid rfl, H0⟩
 case round =>
  obtain ⟨k, va, vb, hk, rfl, rfl, rfl, hv, hw⟩ := hrel
  obtain ⟨d4, dlt⟩ := HL4.out _ hw.out
  by_cases hlt : k < m
  · have hkl : k < (L 4).length := by rw [← HNM.out]; exact hlt
    have HTR : HT h L wr := HHT.out.below (HBW.out _ hw.out).1
    obtain ⟨b, off, hA, hb, r1⟩ := quant_at HTR hkl
    have hsn := loadP_snoc (L 0) (L 4) s k hkl
    rw [hv.out] at hsn
    unfold loadQ at hsn
    obtain ⟨q, hq⟩ : ∃ q, qnOf (L 4)[k] = q := ⟨_, rfl⟩
    rw [hq] at r1 hsn
    obtain ⟨qb, qi, ql, qs, qq, qh⟩ := q
    simp only [] at hsn
    have HRE : Hid (wr.rangeAt b (off + k * 6) [.string qb, .string qi, .string ql, .int .i64 qs, .int .i64 qq, .int .i64 qh]) := Lib.hid r1
    obtain ⟨x, hx, hxo⟩ := item_it HTR qi
    obtain ⟨is, his⟩ : ∃ z, (atItem (L 0) qi).isSome = z := ⟨_, rfl⟩
    rw [hxo, his] at hsn
    have HSN := Lib.hid hsn
    have CF : Hid (∀ W, HT h L W → Calls Tryz.prog 66 #[.agg h.cells, .string qi] W fun e w' => e = .returned (.tuple #[.agg #[.string x.code, .string (x.nm 0), .int .i64 (x.fc 0), .string (x.nm 1), .int .i64 (x.fc 1), .string (x.nm 2), .int .i64 (x.fc 2), .string (x.nm 3), .int .i64 (x.fc 3), .int .i64 x.vol, .int .i64 x.wei, .bool x.lots, .bool x.serial, .bool x.chk], .bool is]) ∧ Below W.heap.size W w') := Lib.hid (fun W hW => by have := frItem hW qi; rw [hx, his] at this; exact this)
    obtain ⟨w1, hw1⟩ : ∃ w1, w1 = wr.alloc (.cells #[.string qb, .string qi, .string ql, .int .i64 qs, .int .i64 qq, .int .i64 qh] 71) := ⟨_, rfl⟩
    have hb1 : Below wr.heap.size wr w1 := by rw [hw1]; exact (Below.refl _ _).alloc (Nat.le_refl _) _
    have HX1 : Hid (w1.heap[wr.heap.size]? = some (.cells #[.string qb, .string qi, .string ql, .int .i64 qs, .int .i64 qq, .int .i64 qh] 71 (0, 0))) := Lib.hid (by rw [hw1]; exact heap_alloc_new _ _)
    have HW1 := Lib.hid hw1
    have HB1 := Lib.hid (hw.out.trans (hb1.mono hw.out.size))
    have HT1 := Lib.hid (HTR.below hb1)
    have h1 : (0 : Int) ≤ (k : Int) := by omega
    have h2 : (k : Int) < (m : Int) := by omega
    rw [hA] at d4
    clear hw1 hb1 r1 hq hx hxo his hsn hkl HTR hA hb
    have hbx := HW1.out ▸ HH.out _ HB1.out
    have e1 : w1.cell? ⟨wr.heap.size, 1, none⟩ = some (.string qi) := by rw [cell_of_block HX1.out]; rfl
    rw [HW1.out] at e1
    go_wp2_with (first
     | (refine wpList_load_mid rfl 71 (.tmp 22) rfl b (off + k * 6) rfl [.string qb, .string qi, .string ql, .int .i64 qs, .int .i64 qq, .int .i64 qh] _ HRE.out huq rfl HSQ6.out ?_)
     | (refine wpList_load_row rfl 37 (.tmp 2) rfl w.heap.size rfl _ _ _ _ hbx huh rfl (HSH.out _) ?_)
     | fail)
    rw [← HW1.out]
    refine (CF.out _ HT1.out).mono ?_
    rintro e w2 ⟨rfl, hb2⟩
    have HB2 := Lib.hid (HB1.out.trans (hb2.mono HB1.out.size))
    have HX2 := Lib.hid ((hb2.block _ (lt_of_block HX1.out)).trans HX1.out)
    obtain ⟨w3, hw3⟩ : ∃ w3, w3 = w2.alloc (.cells #[.string x.code, .string (x.nm 0), .int .i64 (x.fc 0), .string (x.nm 1), .int .i64 (x.fc 1), .string (x.nm 2), .int .i64 (x.fc 2), .string (x.nm 3), .int .i64 (x.fc 3), .int .i64 x.vol, .int .i64 x.wei, .bool x.lots, .bool x.serial, .bool x.chk] 87) := ⟨_, rfl⟩
    have HB3 : Hid (Below _ _ w3) := Lib.hid (hw3 ▸ HB2.out.alloc HB2.out.size _)
    have HX3 : Hid (w3.heap[wr.heap.size]? = some (.cells #[.string qb, .string qi, .string ql, .int .i64 qs, .int .i64 qq, .int .i64 qh] 71 (0, 0))) := Lib.hid (by rw [hw3]; exact (Below.heap_alloc _ _ _ (lt_of_block HX2.out)).trans HX2.out)
    have HY3 : Hid (w3.heap[w2.heap.size]? = some (.cells #[.string x.code, .string (x.nm 0), .int .i64 (x.fc 0), .string (x.nm 1), .int .i64 (x.fc 1), .string (x.nm 2), .int .i64 (x.fc 2), .string (x.nm 3), .int .i64 (x.fc 3), .int .i64 x.vol, .int .i64 x.wei, .bool x.lots, .bool x.serial, .bool x.chk] 87 (0, 0))) := Lib.hid (by rw [hw3]; exact heap_alloc_new _ _)
    have HW3 := Lib.hid hw3
    clear hw3 hb2 hbx e1 d4 dlt
    go_upto_region 8 with fail
    rw [← HW3.out]
    have y0 : w3.cell? ⟨wr.heap.size, 0, none⟩ = some (.string qb) := by rw [cell_of_block HX3.out]; rfl
    have y4 : w3.cell? ⟨wr.heap.size, 4, none⟩ = some (.int .i64 qq) := by rw [cell_of_block HX3.out]; rfl
    have ylt : wr.heap.size < w3.heap.size := lt_of_block HX3.out
    have z9 : w3.cell? ⟨w2.heap.size, 9, none⟩ = some (.int .i64 x.vol) := by rw [cell_of_block HY3.out]; rfl
    have z10 : w3.cell? ⟨w2.heap.size, 10, none⟩ = some (.int .i64 x.wei) := by rw [cell_of_block HY3.out]; rfl
    have zlt : w2.heap.size < w3.heap.size := lt_of_block HY3.out
    cases he : Pl.eqv qb s with
    | false =>
     have he' : (qb.toList == s.toList) = false := he
     have hsel : (Pl.eqv qb s && is) = false := by rw [he]; rfl
     have HS9 := Lib.hid hsel
     clear he hsel
     have HV : Hid (loadP (L 0) ((L 4).take (k + 1)) s = (va, vb)) := Lib.hid (by rw [HSN.out, HS9.out]; rfl)
     go_wp2_with fail
     go_roundw
     case rel => exact ⟨k + 1, _, _, by omega, rfl, rfl, by go_num, HV, HB3⟩
     case measure => simp [intOf]; omega
    | true =>
     have he' : (qb.toList == s.toList) = true := he
     have HEE := Lib.hid he
     clear he
     cases is with
     | false =>
      have HV : Hid (loadP (L 0) ((L 4).take (k + 1)) s = (va, vb)) := Lib.hid (by rw [HSN.out, HEE.out]; rfl)
      go_wp2_with fail
      go_roundw
      case rel => exact ⟨k + 1, _, _, by omega, rfl, rfl, by go_num, HV, HB3⟩
      case measure => simp [intOf]; omega
     | true =>
      have HV : Hid (loadP (L 0) ((L 4).take (k + 1)) s = (wrap64 (va + wrap64 (qq * x.vol)), wrap64 (vb + wrap64 (qq * x.wei)))) := Lib.hid (by rw [HSN.out, HEE.out]; rfl)
      go_wp2_with fail
      go_roundw
      case rel => exact ⟨k + 1, _, _, by omega, rfl, rfl, by go_num, HV, HB3⟩
      case measure => simp [intOf]; omega
  · have hkm : k = m := by omega
    have HV : Hid ((va, vb) = r) := Lib.hid (by rw [← hv.out, ← HR.out, List.take_of_length_le (by rw [← HNM.out]; omega)])
    go_wp2_with fail
    go_ret2
    exact ⟨by rw [← HV.out]; rfl, (HBW.out _ hw.out).1⟩

set_option maxRecDepth 100000 in
set_option maxHeartbeats 3200000 in
theorem rfitsr_any (h : Hs) (L : Nat → List (List Value)) (s t : ByteArray) (n : Int) (w : World) (hh : HT h L w) :
 Calls Tryz.prog 77 #[.agg h.cells, .string s, .string t, .int .i64 n] w fun e w' => e = .returned (.int .i64 (roomE (L 0) (L 3) (L 4) s t n : Nat)) ∧ Below w.heap.size w w' := by
 obtain ⟨y, hy, hyb⟩ := bin_eight hh s
 obtain ⟨x, hx, hxo⟩ := item_it hh t
 obtain ⟨ib, hib⟩ : ∃ z, (atBin (L 3) s).isSome = z := ⟨_, rfl⟩
 obtain ⟨ii, hii⟩ : ∃ z, (atItem (L 0) t).isSome = z := ⟨_, rfl⟩
 obtain ⟨lv, hlv⟩ : ∃ z, (loadP (L 0) (L 4) s).1 = z := ⟨_, rfl⟩
 obtain ⟨lw, hlw⟩ : ∃ z, (loadP (L 0) (L 4) s).2 = z := ⟨_, rfl⟩
 obtain ⟨r, hr⟩ : ∃ r, roomE (L 0) (L 3) (L 4) s t n = r := ⟨_, rfl⟩
 have HA : Hid (r = if (ib && ii) = false then 12 else if y.vol < wrap64 (lv + wrap64 (n * x.vol)) ∨ y.wei < wrap64 (lw + wrap64 (n * x.wei)) then 26 else 0) := Lib.hid (by rw [← hr]; unfold roomE; rw [hib, hii, hyb, hxo, hlv, hlw])
 have CB : Hid (∀ W, Below w.heap.size w W → Calls Tryz.prog 84 #[.agg h.cells, .string s] W fun e w' => e = .returned (.tuple #[.agg #[.string y.code, .string y.zone, .int .i64 y.kind, .int .i64 y.aisle, .int .i64 y.place, .int .i64 y.vol, .int .i64 y.wei, .bool y.frz], .bool ib]) ∧ Below W.heap.size W w') := Lib.hid (fun W hW => by have := frBin (hh.below hW) s; rw [hy, hib] at this; exact this)
 have CI : Hid (∀ W, Below w.heap.size w W → Calls Tryz.prog 66 #[.agg h.cells, .string t] W fun e w' => e = .returned (.tuple #[.agg #[.string x.code, .string (x.nm 0), .int .i64 (x.fc 0), .string (x.nm 1), .int .i64 (x.fc 1), .string (x.nm 2), .int .i64 (x.fc 2), .string (x.nm 3), .int .i64 (x.fc 3), .int .i64 x.vol, .int .i64 x.wei, .bool x.lots, .bool x.serial, .bool x.chk], .bool ii]) ∧ Below W.heap.size W w') := Lib.hid (fun W hW => by have := frItem (hh.below hW) t; rw [hx, hii] at this; exact this)
 have CL : Hid (∀ W, Below w.heap.size w W → Calls Tryz.prog 115 #[.agg h.cells, .string s] W fun e w' => e = .returned (.tuple #[.int .i64 lv, .int .i64 lw]) ∧ Below W.heap.size W w') := Lib.hid (fun W hW => by have := rload_any h L s W (hh.below hW); rwa [hlv, hlw] at this)
 rw [hr]
 clear hr hib hii hlv hlw hy hyb hx hxo
 obtain ⟨W0, hW0⟩ : ∃ W0, W0 = (w.alloc (.cells h.cells 37)) := ⟨_, rfl⟩
 have hb0 : Below w.heap.size w W0 := by rw [hW0]; exact (Below.refl _ _).alloc (Nat.le_refl _) _
 have hs0 : W0.heap.size = w.heap.size + 1 := by rw [hW0]; simp
 have HH : Hid (∀ W, Below W0.heap.size W0 W → W.heap[w.heap.size]? = some (.cells h.cells 37 (0, 0))) := Lib.hid (fun W hW => (hW.block _ (by omega)).trans (by
  rw [hW0]
  have hq := heap_alloc_new w (.cells h.cells 37)
  exact (by simpa using hq)))
 have HBW : Hid (∀ W, Below W0.heap.size W0 W → Below w.heap.size w W ∧ w.heap.size + 1 ≤ W.heap.size) := Lib.hid (fun W hW => ⟨hb0.trans (hW.mono (by omega)), by have := hW.size; omega⟩)
 have huh := Tryz.underlying37
 have HSH : Hid (∀ a : Hs, (Tryz.prog.info? 37).map (·.size) = some a.cells.size) := Lib.hid (fun a => by kernel_rfl)
 have H0 := Lib.hid (Below.refl W0.heap.size W0)
 clear hb0 hs0 hh
 subst hW0
 go_enter Tryz.func77, Tryz.ntmps77
 go_wp2_with (first
  | (refine wpList_load_row rfl 37 (.tmp 4) rfl w.heap.size rfl _ _ _ _ (HH.out _ H0.out) huh rfl (HSH.out _) ?_)
  | fail)
 refine (CB.out _ (HBW.out _ H0.out).1).mono ?_
 rintro e w1 ⟨rfl, hb1⟩
 have H1 := Lib.hid (H0.out.trans (hb1.mono H0.out.size))
 clear hb1
 have H2 := Lib.hid (H1.out.alloc H1.out.size (.cells #[.string y.code, .string y.zone, .int .i64 y.kind, .int .i64 y.aisle, .int .i64 y.place, .int .i64 y.vol, .int .i64 y.wei, .bool y.frz] 64))
 go_wp2_with (first
  | (refine wpList_load_row rfl 37 (.tmp 4) rfl w.heap.size rfl _ _ _ _ (HH.out _ H2.out) huh rfl (HSH.out _) ?_)
  | fail)
 refine (CI.out _ (HBW.out _ H2.out).1).mono ?_
 rintro e w2 ⟨rfl, hb2⟩
 have hb2q := hb2
 have H3 := Lib.hid (H2.out.trans (hb2.mono H2.out.size))
 clear hb2
 have HBQ : Hid (Below (w1.alloc (.cells #[.string y.code, .string y.zone, .int .i64 y.kind, .int .i64 y.aisle, .int .i64 y.place, .int .i64 y.vol, .int .i64 y.wei, .bool y.frz] 64)).heap.size (w1.alloc (.cells #[.string y.code, .string y.zone, .int .i64 y.kind, .int .i64 y.aisle, .int .i64 y.place, .int .i64 y.vol, .int .i64 y.wei, .bool y.frz] 64)) w2) := Lib.hid hb2q
 obtain ⟨w3, hw3⟩ : ∃ w3, w3 = w2.alloc (.cells #[.string x.code, .string (x.nm 0), .int .i64 (x.fc 0), .string (x.nm 1), .int .i64 (x.fc 1), .string (x.nm 2), .int .i64 (x.fc 2), .string (x.nm 3), .int .i64 (x.fc 3), .int .i64 x.vol, .int .i64 x.wei, .bool x.lots, .bool x.serial, .bool x.chk] 87) := ⟨_, rfl⟩
 have H4 : Hid (Below _ _ w3) := Lib.hid (hw3 ▸ H3.out.alloc H3.out.size _)
 have HX : Hid (∀ W, Below w3.heap.size w3 W → W.cell? ⟨w2.heap.size, 9, none⟩ = some (.int .i64 x.vol) ∧ W.cell? ⟨w2.heap.size, 10, none⟩ = some (.int .i64 x.wei) ∧ W.cell? ⟨w1.heap.size, 5, none⟩ = some (.int .i64 y.vol) ∧ W.cell? ⟨w1.heap.size, 6, none⟩ = some (.int .i64 y.wei) ∧ w2.heap.size < W.heap.size ∧ w1.heap.size < W.heap.size) := Lib.hid (fun W hW => by
  have a1 : w3.heap[w2.heap.size]? = some (.cells #[.string x.code, .string (x.nm 0), .int .i64 (x.fc 0), .string (x.nm 1), .int .i64 (x.fc 1), .string (x.nm 2), .int .i64 (x.fc 2), .string (x.nm 3), .int .i64 (x.fc 3), .int .i64 x.vol, .int .i64 x.wei, .bool x.lots, .bool x.serial, .bool x.chk] 87 (0, 0)) := by rw [hw3]; exact heap_alloc_new _ _
  have a0 := heap_alloc_new w1 (.cells #[.string y.code, .string y.zone, .int .i64 y.kind, .int .i64 y.aisle, .int .i64 y.place, .int .i64 y.vol, .int .i64 y.wei, .bool y.frz] 64)
  have hlt := lt_of_block a0
  have a2 : w3.heap[w1.heap.size]? = some (.cells #[.string y.code, .string y.zone, .int .i64 y.kind, .int .i64 y.aisle, .int .i64 y.place, .int .i64 y.vol, .int .i64 y.wei, .bool y.frz] 64 (0, 0)) := by rw [hw3]; exact (Below.heap_alloc _ _ _ (Nat.lt_of_lt_of_le hlt HBQ.out.size)).trans ((HBQ.out.block _ hlt).trans a0)
  have b1 := (hW.block _ (lt_of_block a1)).trans a1
  have b2 := (hW.block _ (lt_of_block a2)).trans a2
  exact ⟨by rw [cell_of_block b1]; rfl, by rw [cell_of_block b1]; rfl, by rw [cell_of_block b2]; rfl, by rw [cell_of_block b2]; rfl, lt_of_block b1, lt_of_block b2⟩)
 have HW3 := Lib.hid hw3
 clear hw3
 go_upto_region 3 with fail
 rw [← HW3.out]
 cases ib with
 | false =>
  have HE : Hid (r = 12) := Lib.hid (by rw [HA.out]; rfl)
  go_wp2_with fail
  go_ret
  exact ⟨by rw [HE.out]; rfl, (HBW.out _ H4.out).1⟩
 | true =>
  cases ii with
  | false =>
   have HE : Hid (r = 12) := Lib.hid (by rw [HA.out]; rfl)
   go_wp2_with fail
   go_ret
   exact ⟨by rw [HE.out]; rfl, (HBW.out _ H4.out).1⟩
  | true =>
   go_wp2_with (first
    | (refine wpList_load_row rfl 37 (.tmp 4) rfl w.heap.size rfl _ _ _ _ (HH.out _ H4.out) huh rfl (HSH.out _) ?_)
    | fail)
   refine (CL.out _ (HBW.out _ H4.out).1).mono ?_
   rintro e w4 ⟨rfl, hb4⟩
   have H5 := Lib.hid (H4.out.trans (hb4.mono H4.out.size))
   obtain ⟨x9, x10, y5, y6, l2, l1⟩ := HX.out _ hb4
   clear hb4
   have HA2 : Hid (r = if y.vol < wrap64 (lv + wrap64 (n * x.vol)) ∨ y.wei < wrap64 (lw + wrap64 (n * x.wei)) then 26 else 0) := Lib.hid (by rw [HA.out]; rfl)
   by_cases q1 : y.vol < wrap64 (lv + wrap64 (n * x.vol))
   · have HE : Hid (r = 26) := Lib.hid (by rw [HA2.out, if_pos (.inl q1)])
     go_wp2_with fail
     go_ret
     exact ⟨by rw [HE.out]; rfl, (HBW.out _ H5.out).1⟩
   · by_cases q2 : y.wei < wrap64 (lw + wrap64 (n * x.wei))
     · have HE : Hid (r = 26) := Lib.hid (by rw [HA2.out, if_pos (.inr q2)])
       go_wp2_with fail
       go_ret
       exact ⟨by rw [HE.out]; rfl, (HBW.out _ H5.out).1⟩
     · have HE : Hid (r = 0) := Lib.hid (by rw [HA2.out, if_neg (fun h => h.elim q1 q2)])
       go_wp2_with fail
       go_ret
       exact ⟨by rw [HE.out]; rfl, (HBW.out _ H5.out).1⟩

set_option maxRecDepth 100000 in
set_option maxHeartbeats 1600000 in
theorem rsite_any (h : Hs) (L : Nat → List (List Value)) (s : ByteArray) (w : World) (hh : HT h L w) :
 Calls Tryz.prog 86 #[.agg h.cells, .string s] w fun e w' => e = .returned (.string (siteT (L 2) (L 3) s)) ∧ Below w.heap.size w w' := by
 obtain ⟨y, hy, hyb⟩ := bin_eight hh s
 obtain ⟨ga, gb, hg, hgs⟩ := zone_two hh y.zone
 have HFB := Lib.hid (fun W (hW : Below w.heap.size w W) => frBin (hh.below hW) s)
 have HFZ := Lib.hid (fun W (hW : Below w.heap.size w W) => frZone (hh.below hW) y.zone)
 obtain ⟨il, hil⟩ : ∃ q, (atBin (L 3) s).isSome = q := ⟨_, rfl⟩
 obtain ⟨iz, hiz⟩ : ∃ q, (atZone (L 2) y.zone).isSome = q := ⟨_, rfl⟩
 obtain ⟨r, hr⟩ : ∃ r, siteT (L 2) (L 3) s = r := ⟨_, rfl⟩
 have HA : Hid (r = if il = true then gb else ⟨#[]⟩) := Lib.hid (by rw [← hr]; unfold siteT; rw [hil, hyb, hgs])
 rw [hy, hil] at HFB
 unfold Bn.cells at HFB
 rw [hg, hiz] at HFZ
 rw [hr]
 clear hr hil hiz hy hyb hg hgs
 obtain ⟨W0, hW0⟩ : ∃ W0, W0 = (w.alloc (.cells h.cells 37)) := ⟨_, rfl⟩
 have hb0 : Below w.heap.size w W0 := by rw [hW0]; exact (Below.refl _ _).alloc (Nat.le_refl _) _
 have hs0 : W0.heap.size = w.heap.size + 1 := by rw [hW0]; simp
 have HH : Hid (∀ W, Below W0.heap.size W0 W → W.heap[w.heap.size]? = some (.cells h.cells 37 (0, 0))) := Lib.hid (fun W hW => (hW.block _ (by omega)).trans (by
  rw [hW0]
  have hq := heap_alloc_new w (.cells h.cells 37)
  exact (by simpa using hq)))
 have HBW : Hid (∀ W, Below W0.heap.size W0 W → Below w.heap.size w W ∧ w.heap.size + 1 ≤ W.heap.size) := Lib.hid (fun W hW => ⟨hb0.trans (hW.mono (by omega)), by have := hW.size; omega⟩)
 have huh := Tryz.underlying37
 have HSH : Hid (∀ a : Hs, (Tryz.prog.info? 37).map (·.size) = some a.cells.size) := Lib.hid (fun a => by kernel_rfl)
 have H0 := Lib.hid (Below.refl W0.heap.size W0)
 clear hb0 hs0 hh
 subst hW0
 go_enter Tryz.func86, Tryz.ntmps86
 go_wp2_with (first
  | (refine wpList_load_row rfl 37 (.tmp 2) rfl w.heap.size rfl _ _ _ _ (HH.out _ H0.out) huh rfl (HSH.out _) ?_)
  | fail)
 refine (HFB.out _ (HBW.out _ H0.out).1).mono ?_
 rintro e w1 ⟨rfl, hb1⟩
 have H1 := Lib.hid (H0.out.trans (hb1.mono H0.out.size))
 clear hb1
 have H2 := Lib.hid (H1.out.alloc H1.out.size (.cells #[.string y.code, .string y.zone, .int .i64 y.kind, .int .i64 y.aisle, .int .i64 y.place, .int .i64 y.vol, .int .i64 y.wei, .bool y.frz] 64))
 cases il with
 | false =>
  have HE : Hid (r = ⟨#[]⟩) := Lib.hid (by rw [HA.out]; rfl)
  go_wp2_with fail
  go_ret
  exact ⟨by rw [HE.out]; rfl, (HBW.out _ H2.out).1⟩
 | true =>
  have HE : Hid (r = gb) := Lib.hid (by rw [HA.out]; rfl)
  go_wp2_with (first
   | (refine wpList_load_row rfl 37 (.tmp 2) rfl w.heap.size rfl _ _ _ _ (HH.out _ H2.out) huh rfl (HSH.out _) ?_)
   | fail)
  refine (HFZ.out _ (HBW.out _ H2.out).1).mono ?_
  rintro e w2 ⟨rfl, hb2⟩
  have H3 := Lib.hid (H2.out.trans (hb2.mono H2.out.size))
  clear hb2
  have H4 := Lib.hid (H3.out.alloc H3.out.size (.cells #[.string ga, .string gb] 93))
  go_wp2_with fail
  go_ret
  exact ⟨by rw [HE.out]; rfl, (HBW.out _ H4.out).1⟩

end Go.Proofs.YtgbilfkjfeheaaaGreat
