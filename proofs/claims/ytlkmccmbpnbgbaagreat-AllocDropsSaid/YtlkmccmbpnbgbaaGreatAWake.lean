/-
 THE CHAPTER'S EXAMPLES HOLD, over the contracts. (By wip/tools/gen_con16.py.)
-/
import Derived.Test.YtlkmccmbpnbgbaaGreatASmall
import Derived.Test.YtlkmccmbpnbgbaaGreatKAlloc
import Derived.Test.YtlkmccmbpnbgbaaGreatKDrop
import Derived.Test.YtlkmccmbpnbgbaaGreatKSum
import Derived.Test.YtlkmccmbpnbgbaaGreatJHead
import Derived.Deep.CutRange
import Derived.BigQuiet
namespace Go.Proofs.YtlkmccmbpnbgbaaGreat
set_option linter.unusedVariables false
open Go.RowKit
open Pl (firstG findG putG It)

/-- The examples' houses: allocated; with more nuts; allocated again; dropped. -/
def exA : HL := allM exL ⟨#[111]⟩
def exM : HL := setE 0 exA 4 [[.string ⟨#[98]⟩, .string ⟨#[110, 117, 116]⟩, .string ⟨#[]⟩, .int .i64 1, .int .i64 9, .int .i64 5]]
def exK : HL := allM exM ⟨#[111]⟩
def exD : HL := dropM exA ⟨#[111]⟩
theorem HT.putRow {h : Hs} {L : HL} {W : World} {i n c : Nat} {A : Option Addr} {l : List (List Value)} (hh : HT h L W) (hl : Things (kOf i) l) (hn : n = l.length) (hn6 : n ≤ 1000000) (hr : Rd W W.heap.size A l.flatten) : HT (h.set i A n c) (setE 0 L i l) W := fun j hj => by
 by_cases h0 : j = i
 · subst h0
   rw [setE_at rfl]
   exact ⟨by simpa [Hs.set] using hn, by simpa [Hs.set] using hn6, hl, by simpa [Hs.set] using hr⟩
 · rw [setE_off rfl L h0]
   simpa [Hs.set, h0] using hh j hj
set_option maxRecDepth 100000 in
theorem ea0 : allE exL ⟨#[111]⟩ = 0 := by kernel_rfl
set_option maxRecDepth 100000 in
theorem ea4 : exA 4 = [[.string ⟨#[98]⟩, .string ⟨#[110, 117, 116]⟩, .string ⟨#[]⟩, .int .i64 1, .int .i64 5, .int .i64 5]] := by kernel_rfl
set_option maxRecDepth 100000 in
theorem ea7 : exA 7 = [[.string ⟨#[111]⟩, .string ⟨#[115]⟩, .string ⟨#[110, 117, 116]⟩, .int .i64 8, .int .i64 0, .int .i64 3, .int .i64 0, .int .i64 0, .string ⟨#[]⟩, .int .i64 0, .int .i64 0, .int .i64 0, .int .i64 0, .int .i64 0, .string ⟨#[]⟩, .int .i64 0, .int .i64 0, .int .i64 0, .int .i64 0, .int .i64 0, .string ⟨#[]⟩, .int .i64 0, .int .i64 0, .int .i64 0, .int .i64 0, .int .i64 0, .string ⟨#[]⟩, .int .i64 0, .int .i64 0, .int .i64 0, .int .i64 0, .int .i64 0, .string ⟨#[]⟩, .int .i64 0, .int .i64 0, .int .i64 0, .int .i64 0, .int .i64 0, .string ⟨#[]⟩, .int .i64 0, .int .i64 0, .int .i64 0, .int .i64 0, .int .i64 0, .string ⟨#[]⟩, .int .i64 0, .int .i64 0, .int .i64 0, .int .i64 0, .int .i64 0]] := by kernel_rfl
set_option maxRecDepth 100000 in
theorem ea8 : exA 8 = [[.string ⟨#[111]⟩, .int .i64 0, .string ⟨#[98]⟩, .string ⟨#[110, 117, 116]⟩, .string ⟨#[]⟩, .int .i64 1, .int .i64 5, .int .i64 0]] := by kernel_rfl
set_option maxRecDepth 100000 in
theorem ek0 : allE exM ⟨#[111]⟩ = 0 := by kernel_rfl
set_option maxRecDepth 100000 in
theorem ek7 : exK 7 = [[.string ⟨#[111]⟩, .string ⟨#[115]⟩, .string ⟨#[110, 117, 116]⟩, .int .i64 8, .int .i64 0, .int .i64 0, .int .i64 0, .int .i64 0, .string ⟨#[]⟩, .int .i64 0, .int .i64 0, .int .i64 0, .int .i64 0, .int .i64 0, .string ⟨#[]⟩, .int .i64 0, .int .i64 0, .int .i64 0, .int .i64 0, .int .i64 0, .string ⟨#[]⟩, .int .i64 0, .int .i64 0, .int .i64 0, .int .i64 0, .int .i64 0, .string ⟨#[]⟩, .int .i64 0, .int .i64 0, .int .i64 0, .int .i64 0, .int .i64 0, .string ⟨#[]⟩, .int .i64 0, .int .i64 0, .int .i64 0, .int .i64 0, .int .i64 0, .string ⟨#[]⟩, .int .i64 0, .int .i64 0, .int .i64 0, .int .i64 0, .int .i64 0, .string ⟨#[]⟩, .int .i64 0, .int .i64 0, .int .i64 0, .int .i64 0, .int .i64 0]] := by kernel_rfl
set_option maxRecDepth 100000 in
theorem ek8 : exK 8 = [[.string ⟨#[111]⟩, .int .i64 0, .string ⟨#[98]⟩, .string ⟨#[110, 117, 116]⟩, .string ⟨#[]⟩, .int .i64 1, .int .i64 8, .int .i64 0]] := by kernel_rfl
set_option maxRecDepth 100000 in
theorem ed0 : dropE exA ⟨#[111]⟩ = 0 := by kernel_rfl
set_option maxRecDepth 100000 in
theorem ed4 : exD 4 = [[.string ⟨#[98]⟩, .string ⟨#[110, 117, 116]⟩, .string ⟨#[]⟩, .int .i64 1, .int .i64 5, .int .i64 0]] := by kernel_rfl
set_option maxRecDepth 100000 in
theorem ed7 : exD 7 = [] := by kernel_rfl
set_option maxRecDepth 100000 in
theorem ekc : claimedZ (exK 8) ⟨#[111]⟩ 0 = 8 := by kernel_rfl
set_option maxRecDepth 100000 in
theorem ean : ((List.range 14).all fun i => decide ((exA i).length ≤ 1000)) = true := by kernel_rfl
set_option maxRecDepth 100000 in
theorem emn : ((List.range 14).all fun i => decide ((exM i).length ≤ 1000)) = true := by kernel_rfl
set_option maxRecDepth 100000 in
set_option maxHeartbeats 6400000 in
/-- The chapter's examples hold. -/
theorem awake_any (w : World) : Calls Tryz.prog 9 #[] w fun e w' => e = .returned (.bool true) ∧ Below w.heap.size w w' := by
 have huh := Tryz.underlying37
 have HSH : Hid (∀ a : Hs, (Tryz.prog.info? 37).map (·.size) = some a.cells.size) := Lib.hid (fun a => by kernel_rfl)
 have HSHL : Hid (∀ a : Hs, (Tryz.prog.info? 37).map (·.size) = some a.cells.toList.length) := Lib.hid (fun a => by kernel_rfl)
 have H1C : Hid (∀ a : Hs, a.cells.all (·.oneCell') = true) := Lib.hid (fun a => by simp [Hs.cells, Value.oneCell'])
 have huK := Tryz.underlying44
 have HSK4 : Hid ((Tryz.prog.info? 44).map (·.size) = some 4) := Lib.hid (by kernel_rfl)
 have HAN : Hid (∀ i, i < 14 → (exA i).length ≤ 1000) := Lib.hid (fun i hi => of_decide_eq_true (List.all_eq_true.1 ean i (List.mem_range.2 hi)))
 have HMN : Hid (∀ i, i < 14 → (exM i).length ≤ 1000) := Lib.hid (fun i hi => of_decide_eq_true (List.all_eq_true.1 emn i (List.mem_range.2 hi)))
 have B0 := Lib.hid (Below.refl w.heap.size w)
 go_enter Tryz.func9, Tryz.ntmps9
 go_wp2_with fail
 refine (small_any _).mono ?_
 rintro e w1 ⟨s, rfl, hts, hcs, hzs, hns, hb1⟩
 have B1 := Lib.hid (B0.out.trans (hb1.mono B0.out.size))
 have HTs1 := Lib.hid hts
 have HCs := Lib.hid hcs
 have HNs := Lib.hid hns
 clear hts hcs hzs hns hb1
 go_wp2_with fail
 refine (calloc s exL ⟨#[111]⟩ _ HTs1.out HNs.out HCs.out).mono ?_
 rintro e w2 ⟨hb2, p, rfl, hat, haz, hac, _⟩
 rw [ea0] at hat ⊢
 rw [setX_ok rfl] at hat
 have hat : HT p exA w2 := hat
 have B2 := Lib.hid (B1.out.trans (hb2.mono B1.out.size))
 have HTs2 := Lib.hid (HTs1.out.below hb2)
 have HTp2 := Lib.hid hat
 have HCp := Lib.hid hac
 clear hat haz hac hb2
 have HCP := Lib.hid (HCp.out HCs.out)
 have HQ3 : Hid ((w2.alloc (.cells #[.slice none 0 0, .slice none 0 0, .slice none 0 0, .slice none 0 0, .slice none 0 0, .slice none 0 0, .slice none 0 0, .slice none 0 0, .slice none 0 0, .slice none 0 0, .slice none 0 0, .slice none 0 0, .slice none 0 0, .slice none 0 0, .int .i64 0] 37)).heap[w2.heap.size]? = some (.cells #[.slice none 0 0, .slice none 0 0, .slice none 0 0, .slice none 0 0, .slice none 0 0, .slice none 0 0, .slice none 0 0, .slice none 0 0, .slice none 0 0, .slice none 0 0, .slice none 0 0, .slice none 0 0, .slice none 0 0, .slice none 0 0, .int .i64 0] 37 (0, 0))) := Lib.hid (heap_alloc_new _ _)
 obtain ⟨w3, hw3⟩ : ∃ w', w' = (w2.alloc (.cells #[.slice none 0 0, .slice none 0 0, .slice none 0 0, .slice none 0 0, .slice none 0 0, .slice none 0 0, .slice none 0 0, .slice none 0 0, .slice none 0 0, .slice none 0 0, .slice none 0 0, .slice none 0 0, .slice none 0 0, .slice none 0 0, .int .i64 0] 37)).setRow w2.heap.size p.cells := ⟨_, rfl⟩
 have hb3 : Below w2.heap.size w2 w3 := by rw [hw3]; exact setRow_below ((Below.refl _ _).alloc (Nat.le_refl _) _) (Nat.le_refl _) _
 have B3 := Lib.hid (B2.out.trans (hb3.mono B2.out.size))
 have HTs3 := Lib.hid (HTs2.out.below hb3)
 have HTp3 := Lib.hid (HTp2.out.below hb3)
 have HA3 : Hid (w3.heap[w2.heap.size]? = some (.cells p.cells 37 (0, 0))) := Lib.hid (by rw [hw3]; exact setRow_heap _ _ _ _ _ _ HQ3.out)
 have HW3 := Lib.hid hw3
 clear hb3 hw3
 go_upto_region 2 with (first | (refine wpList_store_row rfl 37 (.tmp 1) (.tmp 11) rfl w2.heap.size p.cells rfl rfl _ _ HQ3.out (HSH.out _) rfl (H1C.out _) ?_; rw [← HW3.out]) | fail)
 obtain ⟨n8, _, _, r8⟩ := HTp3.out 8 (by decide)
 rw [ea8] at n8 r8
 obtain ⟨b8, o8, A8, lt8, c8⟩ := r8 (by decide)
 have d8 : w3.cell? ⟨w2.heap.size, 8, none⟩ = some (.slice (some ⟨b8, o8, none⟩) 1 (p.c 8)) := by rw [cell_of_block HA3.out]; show some (Value.slice (p.A 8) (p.n 8) (p.c 8)) = _; rw [A8, n8]; rfl
 have r8_6 : w3.cell? ⟨b8, o8 + 6, none⟩ = some (.int .i64 5) := c8 6 _ rfl
 clear n8 r8 A8 c8
 obtain ⟨n7, _, _, r7⟩ := HTp3.out 7 (by decide)
 rw [ea7] at n7 r7
 obtain ⟨b7, o7, A7, lt7, c7⟩ := r7 (by decide)
 have d7 : w3.cell? ⟨w2.heap.size, 7, none⟩ = some (.slice (some ⟨b7, o7, none⟩) 1 (p.c 7)) := by rw [cell_of_block HA3.out]; show some (Value.slice (p.A 7) (p.n 7) (p.c 7)) = _; rw [A7, n7]; rfl
 have r7_5 : w3.cell? ⟨b7, o7 + 2 + 3, none⟩ = some (.int .i64 3) := c7 5 _ rfl
 clear n7 r7 A7 c7
 obtain ⟨n4, _, _, r4⟩ := HTp3.out 4 (by decide)
 rw [ea4] at n4 r4
 obtain ⟨b4, o4, A4, lt4, c4⟩ := r4 (by decide)
 have d4 : w3.cell? ⟨w2.heap.size, 4, none⟩ = some (.slice (some ⟨b4, o4, none⟩) 1 (p.c 4)) := by rw [cell_of_block HA3.out]; show some (Value.slice (p.A 4) (p.n 4) (p.c 4)) = _; rw [A4, n4]; rfl
 have r4_5 : w3.cell? ⟨b4, o4 + 5, none⟩ = some (.int .i64 5) := c4 5 _ rfl
 clear n4 r4 A4 c4
 have clt : w2.heap.size < w3.heap.size := lt_of_block HA3.out
 go_upto_region 4 with fail
 clear clt
 clear d8 r8_6 lt8
 clear d7 r7_5 lt7
 clear d4 r4_5 lt4
 have HQ4 : Hid ((w3.alloc (.cells #[.slice none 0 0, .slice none 0 0, .slice none 0 0, .slice none 0 0, .slice none 0 0, .slice none 0 0, .slice none 0 0, .slice none 0 0, .slice none 0 0, .slice none 0 0, .slice none 0 0, .slice none 0 0, .slice none 0 0, .slice none 0 0, .int .i64 0] 37)).heap[w3.heap.size]? = some (.cells #[.slice none 0 0, .slice none 0 0, .slice none 0 0, .slice none 0 0, .slice none 0 0, .slice none 0 0, .slice none 0 0, .slice none 0 0, .slice none 0 0, .slice none 0 0, .slice none 0 0, .slice none 0 0, .slice none 0 0, .slice none 0 0, .int .i64 0] 37 (0, 0))) := Lib.hid (heap_alloc_new _ _)
 obtain ⟨w4, hw4⟩ : ∃ w', w' = (w3.alloc (.cells #[.slice none 0 0, .slice none 0 0, .slice none 0 0, .slice none 0 0, .slice none 0 0, .slice none 0 0, .slice none 0 0, .slice none 0 0, .slice none 0 0, .slice none 0 0, .slice none 0 0, .slice none 0 0, .slice none 0 0, .slice none 0 0, .int .i64 0] 37)).setRow w3.heap.size p.cells := ⟨_, rfl⟩
 have hb4 : Below w3.heap.size w3 w4 := by rw [hw4]; exact setRow_below ((Below.refl _ _).alloc (Nat.le_refl _) _) (Nat.le_refl _) _
 have HA4 := Lib.hid ((hb4.block _ (lt_of_block HA3.out)).trans HA3.out)
 have B4 := Lib.hid (B3.out.trans (hb4.mono B3.out.size))
 have HTs4 := Lib.hid (HTs3.out.below hb4)
 have HTp4 := Lib.hid (HTp3.out.below hb4)
 have HM4 : Hid (w4.heap[w3.heap.size]? = some (.cells p.cells 37 (0, 0))) := Lib.hid (by rw [hw4]; exact setRow_heap _ _ _ _ _ _ HQ4.out)
 have HW4 := Lib.hid hw4
 clear hb4 hw4
 have HOM : Hid (Off w3.heap.size p exA) := Lib.hid (HTp3.out.offge (Nat.le_refl _))
 go_upto_region 5 with (first
  | (refine wpList_load_row rfl 37 (.tmp 1) rfl w2.heap.size rfl _ _ _ _ HA3.out huh rfl (HSH.out _) ?_)
  | (refine wpList_store_row rfl 37 (.tmp 3) (.tmp 53) rfl w3.heap.size p.cells rfl rfl _ _ HQ4.out (HSH.out _) rfl (H1C.out _) ?_; rw [← HW4.out])
  | fail)
 obtain ⟨n4, _, _, r4⟩ := HTp4.out 4 (by decide)
 rw [ea4] at n4 r4
 obtain ⟨b4, o4, A4, lt4, c4⟩ := r4 (by decide)
 have d4 : w4.cell? ⟨w2.heap.size, 4, none⟩ = some (.slice (some ⟨b4, o4, none⟩) 1 (p.c 4)) := by rw [cell_of_block HA4.out]; show some (Value.slice (p.A 4) (p.n 4) (p.c 4)) = _; rw [A4, n4]; rfl
 have m4 : w4.cell? ⟨w3.heap.size, 4, none⟩ = some (.slice (some ⟨b4, o4, none⟩) 1 (p.c 4)) := by rw [cell_of_block HM4.out]; show some (Value.slice (p.A 4) (p.n 4) (p.c 4)) = _; rw [A4, n4]; rfl
 have mf : w4.frozen? ⟨w3.heap.size, 4, none⟩ = false := frozen_of_block HM4.out
 have mlt : w3.heap.size < w4.heap.size := lt_of_block HM4.out
 have alt : w2.heap.size < w4.heap.size := lt_of_block HA4.out
 have RK : Hid (w4.rangeAt b4 o4 [.string ⟨#[98]⟩, .string ⟨#[110, 117, 116]⟩, .string ⟨#[]⟩, .int .i64 1]) := Lib.hid (fun j v hv => c4 j v (by have hj : j < 4 := (List.getElem?_eq_some_iff.1 hv).1; match j, hj with | 0, _ | 1, _ | 2, _ | 3, _ => exact hv))
 have BM : Hid (w2.heap.size ≠ w3.heap.size) := Lib.hid (by have := lt_of_block HA3.out; omega)
 clear n4 r4 A4 c4
 obtain ⟨w5, hw5⟩ : ∃ W, W = (w4.setCell ⟨w3.heap.size, 4, none⟩ (.slice (some ⟨w4.heap.size, 0, none⟩) 1 1)).alloc (.cells #[.string ⟨#[98]⟩, .string ⟨#[110, 117, 116]⟩, .string ⟨#[]⟩, .int .i64 1, .int .i64 9, .int .i64 5] 62) := ⟨_, rfl⟩
 have hsc : (w4.setCell ⟨w3.heap.size, 4, none⟩ (.slice (some ⟨w4.heap.size, 0, none⟩) 1 1)).heap.size = w4.heap.size := by simp [World.setCell]
 have hal : Below w4.heap.size (w4.setCell ⟨w3.heap.size, 4, none⟩ (.slice (some ⟨w4.heap.size, 0, none⟩) 1 1)) w5 := by rw [hw5]; exact (Below.refl _ _).alloc (Nat.le_of_eq hsc.symm) _
 have hal' : Below (w4.setCell ⟨w3.heap.size, 4, none⟩ (.slice (some ⟨w4.heap.size, 0, none⟩) 1 1)).heap.size (w4.setCell ⟨w3.heap.size, 4, none⟩ (.slice (some ⟨w4.heap.size, 0, none⟩) 1 1)) w5 := by rw [hsc]; exact hal
 have B5 : Hid (Below w.heap.size w w5) := Lib.hid (by rw [hw5]; exact (B4.out.setCell (show w.heap.size ≤ w3.heap.size by have := B3.out.size; exact this) _).alloc (by rw [hsc]; exact B4.out.size) _)
 have HA5 : Hid (w5.heap[w2.heap.size]? = some (.cells p.cells 37 (0, 0))) := Lib.hid ((hal.block _ alt).trans ((block_setCell_other BM.out _).trans HA4.out))
 have HM5 : Hid (w5.heap[w3.heap.size]? = some (.cells (p.set 4 (some ⟨w4.heap.size, 0, none⟩) 1 1).cells 37 (0, 0))) := Lib.hid ((hal.block _ mlt).trans (by rw [block_setCell HM4.out, p.set_cells _ _ _ 4 (by decide)]))
 have HTp5 : Hid (HT p exA w5) := Lib.hid ((HTp4.out.setCellOff HOM.out _).below hal')
 have HTm5 : Hid (HT (p.set 4 (some ⟨w4.heap.size, 0, none⟩) 1 1) exM w5) := Lib.hid (HTp5.out.putRow (Things.one (fits_of (by decide))) rfl (by omega) (fun _ => ⟨w4.heap.size, 0, rfl, by rw [hw5]; simp [World.setCell], fun j u hu => by
  have hq : w5.heap[w4.heap.size]? = some (.cells #[.string ⟨#[98]⟩, .string ⟨#[110, 117, 116]⟩, .string ⟨#[]⟩, .int .i64 1, .int .i64 9, .int .i64 5] 62 (0, 0)) := by
   rw [hw5]
   have hq := heap_alloc_new (w4.setCell ⟨w3.heap.size, 4, none⟩ (.slice (some ⟨w4.heap.size, 0, none⟩) 1 1)) (.cells #[.string ⟨#[98]⟩, .string ⟨#[110, 117, 116]⟩, .string ⟨#[]⟩, .int .i64 1, .int .i64 9, .int .i64 5] 62)
   rw [hsc] at hq
   exact hq
  rw [Nat.zero_add, cell_of_block hq, List.getElem?_toArray]
  simpa using hu⟩))
 have HCM : Hid (Caps (p.set 4 (some ⟨w4.heap.size, 0, none⟩) 1 1)) := Lib.hid (fun j hj => by
  by_cases e : j = 4
  · subst e; simp [Hs.set]
  · simpa [Hs.set, e] using HCP.out j hj)
 obtain ⟨m, hm⟩ : ∃ m, p.set 4 (some ⟨w4.heap.size, 0, none⟩) 1 1 = m := ⟨_, rfl⟩
 rw [hm] at HM5 HTm5 HCM
 have HW5 := Lib.hid hw5
 clear hal hal' hsc hm hw5
 go_upto_region 6 with (first
  | (refine wpList_load_mid rfl 44 (.tmp 57) rfl b4 o4 rfl [.string ⟨#[98]⟩, .string ⟨#[110, 117, 116]⟩, .string ⟨#[]⟩, .int .i64 1] _ RK.out huK rfl HSK4.out ?_)
  | fail)
 rw [← HW5.out]
 clear d4 m4 mf mlt alt lt4
 go_wp2_with (first
  | (refine wpList_load_row rfl 37 (.tmp 3) rfl w3.heap.size rfl _ _ _ _ HM5.out huh rfl (HSH.out _) ?_)
  | fail)
 refine (calloc m exM ⟨#[111]⟩ _ HTm5.out (fun i hi => by rw [(HTm5.out i hi).1]; exact HMN.out i hi) HCM.out).mono ?_
 rintro e w6 ⟨hb6, q, rfl, hat, haz, hac, _⟩
 rw [ek0] at hat ⊢
 rw [setX_ok rfl] at hat
 have hat : HT q exK w6 := hat
 have HA6 := Lib.hid ((hb6.block _ (lt_of_block HA5.out)).trans HA5.out)
 have HM6 := Lib.hid ((hb6.block _ (lt_of_block HM5.out)).trans HM5.out)
 have B6 := Lib.hid (B5.out.trans (hb6.mono B5.out.size))
 have HTp6 := Lib.hid (HTp5.out.below hb6)
 have HTm6 := Lib.hid (HTm5.out.below hb6)
 have HTq6 := Lib.hid hat
 have HCq := Lib.hid hac
 clear hat haz hac hb6
 have HQ7 : Hid ((w6.alloc (.cells #[.slice none 0 0, .slice none 0 0, .slice none 0 0, .slice none 0 0, .slice none 0 0, .slice none 0 0, .slice none 0 0, .slice none 0 0, .slice none 0 0, .slice none 0 0, .slice none 0 0, .slice none 0 0, .slice none 0 0, .slice none 0 0, .int .i64 0] 37)).heap[w6.heap.size]? = some (.cells #[.slice none 0 0, .slice none 0 0, .slice none 0 0, .slice none 0 0, .slice none 0 0, .slice none 0 0, .slice none 0 0, .slice none 0 0, .slice none 0 0, .slice none 0 0, .slice none 0 0, .slice none 0 0, .slice none 0 0, .slice none 0 0, .int .i64 0] 37 (0, 0))) := Lib.hid (heap_alloc_new _ _)
 obtain ⟨w7, hw7⟩ : ∃ w', w' = (w6.alloc (.cells #[.slice none 0 0, .slice none 0 0, .slice none 0 0, .slice none 0 0, .slice none 0 0, .slice none 0 0, .slice none 0 0, .slice none 0 0, .slice none 0 0, .slice none 0 0, .slice none 0 0, .slice none 0 0, .slice none 0 0, .slice none 0 0, .int .i64 0] 37)).setRow w6.heap.size q.cells := ⟨_, rfl⟩
 have hb7 : Below w6.heap.size w6 w7 := by rw [hw7]; exact setRow_below ((Below.refl _ _).alloc (Nat.le_refl _) _) (Nat.le_refl _) _
 have HA7 := Lib.hid ((hb7.block _ (lt_of_block HA6.out)).trans HA6.out)
 have HM7 := Lib.hid ((hb7.block _ (lt_of_block HM6.out)).trans HM6.out)
 have B7 := Lib.hid (B6.out.trans (hb7.mono B6.out.size))
 have HTp7 := Lib.hid (HTp6.out.below hb7)
 have HTm7 := Lib.hid (HTm6.out.below hb7)
 have HTq7 := Lib.hid (HTq6.out.below hb7)
 have HK7 : Hid (w7.heap[w6.heap.size]? = some (.cells q.cells 37 (0, 0))) := Lib.hid (by rw [hw7]; exact setRow_heap _ _ _ _ _ _ HQ7.out)
 have HW7 := Lib.hid hw7
 clear hb7 hw7
 go_wp2_with (first
  | (refine wpList_store_row rfl 37 (.tmp 4) (.tmp 65) rfl w6.heap.size q.cells rfl rfl _ _ HQ7.out (HSH.out _) rfl (H1C.out _) ?_; rw [← HW7.out])
  | (refine wpList_load_row rfl 37 (.tmp 1) rfl w2.heap.size rfl _ _ _ _ HA7.out huh rfl (HSH.out _) ?_)
  | fail)
 refine (cdrop p exA ⟨#[111]⟩ _ HTp7.out (by rw [(HTp7.out 4 (by decide)).1]; exact HAN.out 4 (by decide)) (by rw [(HTp7.out 8 (by decide)).1]; exact HAN.out 8 (by decide)) HCP.out).mono ?_
 rintro e w8 ⟨hb8, d, rfl, hat, haz, hac, _⟩
 rw [ed0] at hat ⊢
 rw [setX_ok rfl] at hat
 have hat : HT d exD w8 := hat
 have HA8 := Lib.hid ((hb8.block _ (lt_of_block HA7.out)).trans HA7.out)
 have HM8 := Lib.hid ((hb8.block _ (lt_of_block HM7.out)).trans HM7.out)
 have HK8 := Lib.hid ((hb8.block _ (lt_of_block HK7.out)).trans HK7.out)
 have B8 := Lib.hid (B7.out.trans (hb8.mono B7.out.size))
 have HTp8 := Lib.hid (HTp7.out.below hb8)
 have HTm8 := Lib.hid (HTm7.out.below hb8)
 have HTq8 := Lib.hid (HTq7.out.below hb8)
 have HTd8 := Lib.hid hat
 have HCd := Lib.hid hac
 clear hat haz hac hb8
 have HQ9 : Hid ((w8.alloc (.cells #[.slice none 0 0, .slice none 0 0, .slice none 0 0, .slice none 0 0, .slice none 0 0, .slice none 0 0, .slice none 0 0, .slice none 0 0, .slice none 0 0, .slice none 0 0, .slice none 0 0, .slice none 0 0, .slice none 0 0, .slice none 0 0, .int .i64 0] 37)).heap[w8.heap.size]? = some (.cells #[.slice none 0 0, .slice none 0 0, .slice none 0 0, .slice none 0 0, .slice none 0 0, .slice none 0 0, .slice none 0 0, .slice none 0 0, .slice none 0 0, .slice none 0 0, .slice none 0 0, .slice none 0 0, .slice none 0 0, .slice none 0 0, .int .i64 0] 37 (0, 0))) := Lib.hid (heap_alloc_new _ _)
 obtain ⟨w9, hw9⟩ : ∃ w', w' = (w8.alloc (.cells #[.slice none 0 0, .slice none 0 0, .slice none 0 0, .slice none 0 0, .slice none 0 0, .slice none 0 0, .slice none 0 0, .slice none 0 0, .slice none 0 0, .slice none 0 0, .slice none 0 0, .slice none 0 0, .slice none 0 0, .slice none 0 0, .int .i64 0] 37)).setRow w8.heap.size d.cells := ⟨_, rfl⟩
 have hb9 : Below w8.heap.size w8 w9 := by rw [hw9]; exact setRow_below ((Below.refl _ _).alloc (Nat.le_refl _) _) (Nat.le_refl _) _
 have HA9 := Lib.hid ((hb9.block _ (lt_of_block HA8.out)).trans HA8.out)
 have HM9 := Lib.hid ((hb9.block _ (lt_of_block HM8.out)).trans HM8.out)
 have HK9 := Lib.hid ((hb9.block _ (lt_of_block HK8.out)).trans HK8.out)
 have B9 := Lib.hid (B8.out.trans (hb9.mono B8.out.size))
 have HTp9 := Lib.hid (HTp8.out.below hb9)
 have HTm9 := Lib.hid (HTm8.out.below hb9)
 have HTq9 := Lib.hid (HTq8.out.below hb9)
 have HTd9 := Lib.hid (HTd8.out.below hb9)
 have HD9 : Hid (w9.heap[w8.heap.size]? = some (.cells d.cells 37 (0, 0))) := Lib.hid (by rw [hw9]; exact setRow_heap _ _ _ _ _ _ HQ9.out)
 have HW9 := Lib.hid hw9
 clear hb9 hw9
 go_upto_region 8 with (first | (refine wpList_store_row rfl 37 (.tmp 6) (.tmp 70) rfl w8.heap.size d.cells rfl rfl _ _ HQ9.out (HSH.out _) rfl (H1C.out _) ?_; rw [← HW9.out]) | fail)
 obtain ⟨n8, _, _, r8⟩ := HTq9.out 8 (by decide)
 rw [ek8] at n8 r8
 obtain ⟨b8, o8, A8, lt8, c8⟩ := r8 (by decide)
 have d8 : w9.cell? ⟨w6.heap.size, 8, none⟩ = some (.slice (some ⟨b8, o8, none⟩) 1 (q.c 8)) := by rw [cell_of_block HK9.out]; show some (Value.slice (q.A 8) (q.n 8) (q.c 8)) = _; rw [A8, n8]; rfl
 have r8_6 : w9.cell? ⟨b8, o8 + 6, none⟩ = some (.int .i64 8) := c8 6 _ rfl
 clear n8 r8 A8 c8
 obtain ⟨n7, _, _, r7⟩ := HTq9.out 7 (by decide)
 rw [ek7] at n7 r7
 obtain ⟨b7, o7, A7, lt7, c7⟩ := r7 (by decide)
 have d7 : w9.cell? ⟨w6.heap.size, 7, none⟩ = some (.slice (some ⟨b7, o7, none⟩) 1 (q.c 7)) := by rw [cell_of_block HK9.out]; show some (Value.slice (q.A 7) (q.n 7) (q.c 7)) = _; rw [A7, n7]; rfl
 have r7_5 : w9.cell? ⟨b7, o7 + 2 + 3, none⟩ = some (.int .i64 0) := c7 5 _ rfl
 clear n7 r7 A7 c7
 obtain ⟨n4, _, _, r4⟩ := HTd9.out 4 (by decide)
 rw [ed4] at n4 r4
 obtain ⟨b4, o4, A4, lt4, c4⟩ := r4 (by decide)
 have d4 : w9.cell? ⟨w8.heap.size, 4, none⟩ = some (.slice (some ⟨b4, o4, none⟩) 1 (d.c 4)) := by rw [cell_of_block HD9.out]; show some (Value.slice (d.A 4) (d.n 4) (d.c 4)) = _; rw [A4, n4]; rfl
 have r4_5 : w9.cell? ⟨b4, o4 + 5, none⟩ = some (.int .i64 0) := c4 5 _ rfl
 clear n4 r4 A4 c4
 obtain ⟨n9, _, _, _⟩ := HTd9.out 7 (by decide)
 rw [ed7] at n9
 have d9 : w9.cell? ⟨w8.heap.size, 7, none⟩ = some (.slice (d.A 7) 0 (d.c 7)) := by rw [cell_of_block HD9.out]; show some (Value.slice (d.A 7) (d.n 7) (d.c 7)) = _; rw [n9]; rfl
 clear n9
 have klt : w6.heap.size < w9.heap.size := lt_of_block HK9.out
 have dlt : w8.heap.size < w9.heap.size := lt_of_block HD9.out
 go_wp2_with (first
  | (refine BigFrame.wpList_want (by kernel_rfl) (fun K hK => Go.wp_load_mid 37 (.tmp 4) rfl w6.heap.size 0 rfl q.cells.toList _ (range_row0 HK9.out) huh rfl (HSHL.out _) (hK _ _ ?_)); clear hK K)
  | fail)
 have hcz := cclaimed q exK ⟨#[111]⟩ 0 w9 HTq9.out
 rw [ekc] at hcz
 refine hcz.mono ?_
 clear hcz
 rintro e wn ⟨rfl, hbn⟩
 have BN := Lib.hid (B9.out.trans (hbn.mono B9.out.size))
 clear hbn klt dlt d9
 clear d8 r8_6 lt8
 clear d7 r7_5 lt7
 clear d4 r4_5 lt4
 go_wp2_with fail
 go_ret
 exact ⟨rfl, BN.out⟩
end Go.Proofs.YtlkmccmbpnbgbaaGreat
