/-
  THE CHAPTER's EXAMPLES.
-/
import Derived.Test.YtcihibmapbigdaaIAdd
import Derived.Test.YtcihibmapbigdaaICheck3
namespace Go.Proofs.Ytcihibmapbigdaa
set_option linter.unusedVariables false
open Go.RowKit
open Pl (It)

def nutI : It := ⟨⟨#[110, 117, 116]⟩, Pl.at4 ⟨#[98, 111, 120]⟩ ⟨#[99, 97, 115, 101]⟩ ⟨#[]⟩ ⟨#[]⟩, Pl.at4 12 240 0 0, 3, 2, false, false, false⟩

def nutA : It := ⟨⟨#[110, 117, 116]⟩, Pl.at4 ⟨#[98, 111, 120]⟩ ⟨#[98, 111, 120]⟩ ⟨#[]⟩ ⟨#[]⟩, Pl.at4 12 240 0 0, 3, 2, false, false, false⟩
def nutB : It := ⟨⟨#[110, 117, 116]⟩, Pl.at4 ⟨#[101, 97, 99, 104]⟩ ⟨#[99, 97, 115, 101]⟩ ⟨#[]⟩ ⟨#[]⟩, Pl.at4 12 240 0 0, 3, 2, false, false, false⟩

def hs0 : Hs := ⟨fun _ => none, fun _ => 0, fun _ => 0, 0⟩
theorem chI : Pl.chE nutI = 0 := by decide +kernel
def serI : It := ⟨⟨#[]⟩, Pl.at4 ⟨#[]⟩ ⟨#[]⟩ ⟨#[]⟩ ⟨#[]⟩, Pl.at4 0 0 0 0, 0, 0, false, true, false⟩
theorem chS : Pl.chE serI = 3 := by decide +kernel
theorem okS : serI.Ok := ⟨by decide, fun i hi => by
  match i, hi with
  | 0, _ => decide
  | 1, _ => decide
  | 2, _ => decide
  | 3, _ => decide
  | i + 4, hi => omega⟩
theorem range_row {w : World} {b : Nat} {cs : List Value} {t : TypeId} (h : w.heap[b]? = some (.cells cs.toArray t (0, 0))) : w.rangeAt b 0 cs := fun i v hv => by rw [cell_of_block h, List.getElem?_toArray, Nat.zero_add]; exact hv
theorem chA : Pl.chE nutA = 11 := by decide +kernel
theorem chB : Pl.chE nutB = 11 := by decide +kernel
theorem okI : nutI.Ok := ⟨by decide, fun i hi => by
  match i, hi with
  | 0, _ => decide
  | 1, _ => decide
  | 2, _ => decide
  | 3, _ => decide
  | i + 4, hi => omega⟩
theorem okA : nutA.Ok := ⟨by decide, fun i hi => by
  match i, hi with
  | 0, _ => decide
  | 1, _ => decide
  | 2, _ => decide
  | 3, _ => decide
  | i + 4, hi => omega⟩
theorem okB : nutB.Ok := ⟨by decide, fun i hi => by
  match i, hi with
  | 0, _ => decide
  | 1, _ => decide
  | 2, _ => decide
  | 3, _ => decide
  | i + 4, hi => omega⟩
theorem addNut (w : World) : Calls Try.prog 11 #[.agg Hs.zero, .agg nutI.cells.toArray] w fun e w' => ∃ A c, e = .returned (.tuple #[.agg (hs0.set 0 A 1 c).cells, .int .i64 0]) ∧ Rd w' w'.heap.size A [nutI.cells].flatten ∧ Below w.heap.size w w' := by
  refine (adds_any hs0 nutI.cells 0 [] w nutI.fits (fun W => (check_any nutI okI W).mono fun e w' ⟨h1, h2⟩ => ⟨by rw [h1, chI], h2⟩) rfl (by decide) (Nat.le_refl _) (by decide) (fun e he => by simp at he) Rd.none_).mono ?_
  rintro e w' ⟨hb, h | ⟨h, A, n, c, hn, ho, rfl⟩⟩
  · exact absurd (show addE [] nutI.cells 0 = 0 from by decide +kernel) h.1
  · have : Pl.putG ordI [] nutI.cells = [nutI.cells] := rfl
    rw [this] at hn ho
    obtain rfl : n = 1 := hn
    exact ⟨A, c, rfl, Rd.of_own ho, hb⟩
theorem findNut (A : Option Addr) (c : Nat) (w : World) (hr : Rd w w.heap.size A [nutI.cells].flatten) : Calls Try.prog 13 #[.agg (hs0.set 0 A 1 c).cells, .string ⟨#[110, 117, 116]⟩] w fun e w' => e = .returned (.tuple #[.agg nutI.cells.toArray, .bool true]) ∧ Below w.heap.size w w' := by
  refine (finds_any (hs0.set 0 A 1 c) [nutI.cells] ⟨#[110, 117, 116]⟩ w rfl (by simp [Hs.set]) (fun e he => by rw [List.mem_singleton] at he; subst he; exact nutI.fits) hr).mono fun e w' ⟨h1, h2⟩ => ⟨?_, h2⟩
  have ha : atI [nutI.cells] ⟨#[110, 117, 116]⟩ = some 0 := by decide +kernel
  have hg : gotI [nutI.cells] ⟨#[110, 117, 116]⟩ = nutI.cells := by unfold gotI; rw [ha]; rfl
  rw [h1, ha, hg, Option.isSome_some]

set_option maxRecDepth 100000 in
theorem nut_any (w : World) : Calls Try.prog 19 #[] w fun e w' => e = .returned (.agg nutI.cells.toArray) ∧ Below w.heap.size w w' := by
  go_enter Try.func19, Try.ntmps19
  go_wp2_with fail
  exact bodyPost_ret (results_cell_row rfl _ _ w.heap.size _ _ _ _ rfl (heap_alloc_new _ _) Try.underlying42 rfl (by kernel_rfl)) rfl ⟨rfl, (Below.refl _ _).alloc (Nat.le_refl _) _⟩

set_option maxRecDepth 100000 in
set_option maxHeartbeats 3200000 in
theorem awake_any (w : World) : Calls Try.prog 9 #[] w fun e w' => e = .returned (.bool true) ∧ Below w.heap.size w w' := by
  go_enter Try.func9, Try.ntmps9
  go_wp2_with fail
  refine (nut_any _).mono ?_
  rintro e w1 ⟨rfl, hb1⟩
  have B1 := Lib.hid hb1
  clear hb1
  unfold It.cells nutI
  simp only [Pl.at4]
  go_wp2_with fail
  refine (nut_any _).mono ?_
  rintro e w2 ⟨rfl, hb2⟩
  have HA2 : Hid (w2.heap[w1.heap.size]? = some (.cells nutA.cells.toArray 42 (0, 0))) := Lib.hid ((hb2.block _ (by simp)).trans (heap_alloc_new _ _))
  have B2 := Lib.hid (B1.out.trans ((((Below.refl w1.heap.size w1).alloc (Nat.le_refl _) _).trans (hb2.mono (by simp))).mono B1.out.size))
  clear hb2
  unfold It.cells nutI
  simp only [Pl.at4]
  go_wp2_with fail
  refine (nut_any _).mono ?_
  rintro e w3 ⟨rfl, hb3⟩
  have HB3 : Hid (w3.heap[w2.heap.size]? = some (.cells nutB.cells.toArray 42 (0, 0))) := Lib.hid ((hb3.block _ (by simp)).trans (heap_alloc_new _ _))
  have HA3 : Hid (w3.heap[w1.heap.size]? = some (.cells nutA.cells.toArray 42 (0, 0))) := Lib.hid ((hb3.block _ (by have := lt_of_block HA2.out; simp; omega)).trans ((Below.heap_alloc _ _ _ (lt_of_block HA2.out)).trans HA2.out))
  have B3 := Lib.hid (B2.out.trans ((((Below.refl w2.heap.size w2).alloc (Nat.le_refl _) _).trans (hb3.mono (by simp))).mono B2.out.size))
  clear hb3
  go_wp2_with fail
  refine (addNut w3).mono ?_
  rintro e w4 ⟨A, c, rfl, hr, hb4⟩
  have HA4 := Lib.hid ((hb4.block _ (lt_of_block HA3.out)).trans HA3.out)
  have HB4 := Lib.hid ((hb4.block _ (lt_of_block HB3.out)).trans HB3.out)
  have B4 := Lib.hid (B3.out.trans (hb4.mono B3.out.size))
  have HR := Lib.hid hr
  clear hb4 hr
  have huh := Try.underlying37
  have HSH : Hid (∀ a : Hs, (Try.prog.info? 37).map (·.size) = some a.cells.size) := Lib.hid (fun a => by kernel_rfl)
  have H1C : Hid (∀ a : Hs, a.cells.all (·.oneCell') = true) := Lib.hid (fun a => by simp [Hs.cells, Value.oneCell'])
  have HQ : Hid ((w4.alloc (.cells Hs.zero 37)).heap[w4.heap.size]? = some (.cells Hs.zero 37 (0, 0))) := Lib.hid (heap_alloc_new _ _)
  obtain ⟨w5, hw5⟩ : ∃ w5, w5 = (w4.alloc (.cells Hs.zero 37)).setRow w4.heap.size (hs0.set 0 A 1 c).cells := ⟨_, rfl⟩
  have hb5 : Below w4.heap.size w4 w5 := by rw [hw5]; exact setRow_below ((Below.refl _ _).alloc (Nat.le_refl _) _) (Nat.le_refl _) _
  have HW5 := Lib.hid hw5
  have HH5 : Hid (w5.heap[w4.heap.size]? = some (.cells (hs0.set 0 A 1 c).cells 37 (0, 0))) := Lib.hid (by rw [hw5]; exact setRow_heap _ _ _ _ _ _ HQ.out)
  have HA5 := Lib.hid ((hb5.block _ (lt_of_block HA4.out)).trans HA4.out)
  have HB5 := Lib.hid ((hb5.block _ (lt_of_block HB4.out)).trans HB4.out)
  have B5 := Lib.hid (B4.out.trans (hb5.mono B4.out.size))
  have HR5 := Lib.hid ((HR.out.below hb5).mono hb5.size)
  clear hb5 hw5
  unfold Hs.zero at HW5
  have HZ : Hid (Hs.zero.all (·.oneCell') = true) := Lib.hid (by simp [Hs.zero, Value.oneCell'])
  go_wp2_with (first
    | (refine wpList_store_row rfl 37 (.tmp 3) (.tmp 19) rfl w4.heap.size (hs0.set 0 A 1 c).cells rfl rfl _ _ HQ.out (HSH.out _) rfl (H1C.out _) ?_; rw [← HW5.out])
    | (refine wpList_load_row rfl 37 (.tmp 3) rfl w4.heap.size rfl _ _ _ _ HH5.out huh rfl (HSH.out _) ?_)
    | fail)
  refine (findNut A c w5 HR5.out).mono ?_
  rintro e w6 ⟨rfl, hb6⟩
  have HA6 := Lib.hid ((hb6.block _ (lt_of_block HA5.out)).trans HA5.out)
  have HB6 := Lib.hid ((hb6.block _ (lt_of_block HB5.out)).trans HB5.out)
  have B6 := Lib.hid (B5.out.trans (hb6.mono B5.out.size))
  clear hb6
  obtain ⟨w7, hw7⟩ : ∃ w7, w7 = (w6.alloc (.cells zeroI.toArray 42)).setRow w6.heap.size nutI.cells.toArray := ⟨_, rfl⟩
  have HQ7 : Hid ((w6.alloc (.cells zeroI.toArray 42)).heap[w6.heap.size]? = some (.cells zeroI.toArray 42 (0, 0))) := Lib.hid (heap_alloc_new _ _)
  have hb7 : Below w6.heap.size w6 w7 := by rw [hw7]; exact setRow_below ((Below.refl _ _).alloc (Nat.le_refl _) _) (Nat.le_refl _) _
  have HW7 := Lib.hid hw7
  have HX7 : Hid (w7.heap[w6.heap.size]? = some (.cells nutI.cells.toArray 42 (0, 0))) := Lib.hid (by rw [hw7]; exact setRow_heap _ _ _ _ _ _ HQ7.out)
  have HA7 := Lib.hid ((hb7.block _ (lt_of_block HA6.out)).trans HA6.out)
  have HB7 := Lib.hid ((hb7.block _ (lt_of_block HB6.out)).trans HB6.out)
  have B7 := Lib.hid (B6.out.trans (hb7.mono B6.out.size))
  clear hb7 hw7
  have HN1 : Hid ((Try.prog.info? 42).map (·.size) = some nutI.cells.toArray.size) := Lib.hid (by kernel_rfl)
  have HN2 : Hid (zeroI.toArray.size = nutI.cells.toArray.size) := Lib.hid (by kernel_rfl)
  have HN3 : Hid (nutI.cells.toArray.all (·.oneCell') = true) := Lib.hid (by kernel_rfl)
  unfold zeroI at HW7
  go_wp2_with (first
    | (refine wpList_store_row rfl 42 (.tmp 5) (.tmp 24) rfl w6.heap.size nutI.cells.toArray rfl rfl _ _ HQ7.out HN1.out HN2.out HN3.out ?_; rw [← HW7.out])
    | fail)
  have HB0 := B7.out
  have HSS : Hid (∀ W, Below w7.heap.size w7 W → W.cell? ⟨w6.heap.size, 0, none⟩ = some (.string ⟨#[110, 117, 116]⟩) ∧ W.cell? ⟨w6.heap.size, 1, none⟩ = some (.string ⟨#[98, 111, 120]⟩) ∧ W.cell? ⟨w6.heap.size, 2, none⟩ = some (.int .i64 12) ∧ W.cell? ⟨w6.heap.size, 3, none⟩ = some (.string ⟨#[99, 97, 115, 101]⟩) ∧ W.cell? ⟨w6.heap.size, 4, none⟩ = some (.int .i64 240) ∧ W.cell? ⟨w6.heap.size, 5, none⟩ = some (.string ⟨#[]⟩) ∧ W.cell? ⟨w6.heap.size, 6, none⟩ = some (.int .i64 0) ∧ W.cell? ⟨w6.heap.size, 7, none⟩ = some (.string ⟨#[]⟩) ∧ W.cell? ⟨w6.heap.size, 8, none⟩ = some (.int .i64 0) ∧ W.cell? ⟨w6.heap.size, 9, none⟩ = some (.int .i64 3) ∧ W.cell? ⟨w6.heap.size, 10, none⟩ = some (.int .i64 2) ∧ W.cell? ⟨w6.heap.size, 11, none⟩ = some (.bool false) ∧ W.cell? ⟨w6.heap.size, 12, none⟩ = some (.bool false) ∧ W.cell? ⟨w6.heap.size, 13, none⟩ = some (.bool false) ∧ W.cell? ⟨w1.heap.size, 0, none⟩ = some (.string ⟨#[110, 117, 116]⟩) ∧ W.cell? ⟨w1.heap.size, 1, none⟩ = some (.string ⟨#[98, 111, 120]⟩) ∧ W.cell? ⟨w1.heap.size, 2, none⟩ = some (.int .i64 12) ∧ W.cell? ⟨w1.heap.size, 3, none⟩ = some (.string ⟨#[98, 111, 120]⟩) ∧ W.cell? ⟨w1.heap.size, 4, none⟩ = some (.int .i64 240) ∧ W.cell? ⟨w1.heap.size, 5, none⟩ = some (.string ⟨#[]⟩) ∧ W.cell? ⟨w1.heap.size, 6, none⟩ = some (.int .i64 0) ∧ W.cell? ⟨w1.heap.size, 7, none⟩ = some (.string ⟨#[]⟩) ∧ W.cell? ⟨w1.heap.size, 8, none⟩ = some (.int .i64 0) ∧ W.cell? ⟨w1.heap.size, 9, none⟩ = some (.int .i64 3) ∧ W.cell? ⟨w1.heap.size, 10, none⟩ = some (.int .i64 2) ∧ W.cell? ⟨w1.heap.size, 11, none⟩ = some (.bool false) ∧ W.cell? ⟨w1.heap.size, 12, none⟩ = some (.bool false) ∧ W.cell? ⟨w1.heap.size, 13, none⟩ = some (.bool false) ∧ W.cell? ⟨w2.heap.size, 0, none⟩ = some (.string ⟨#[110, 117, 116]⟩) ∧ W.cell? ⟨w2.heap.size, 1, none⟩ = some (.string ⟨#[101, 97, 99, 104]⟩) ∧ W.cell? ⟨w2.heap.size, 2, none⟩ = some (.int .i64 12) ∧ W.cell? ⟨w2.heap.size, 3, none⟩ = some (.string ⟨#[99, 97, 115, 101]⟩) ∧ W.cell? ⟨w2.heap.size, 4, none⟩ = some (.int .i64 240) ∧ W.cell? ⟨w2.heap.size, 5, none⟩ = some (.string ⟨#[]⟩) ∧ W.cell? ⟨w2.heap.size, 6, none⟩ = some (.int .i64 0) ∧ W.cell? ⟨w2.heap.size, 7, none⟩ = some (.string ⟨#[]⟩) ∧ W.cell? ⟨w2.heap.size, 8, none⟩ = some (.int .i64 0) ∧ W.cell? ⟨w2.heap.size, 9, none⟩ = some (.int .i64 3) ∧ W.cell? ⟨w2.heap.size, 10, none⟩ = some (.int .i64 2) ∧ W.cell? ⟨w2.heap.size, 11, none⟩ = some (.bool false) ∧ W.cell? ⟨w2.heap.size, 12, none⟩ = some (.bool false) ∧ W.cell? ⟨w2.heap.size, 13, none⟩ = some (.bool false)) := Lib.hid (fun W hW => by
    have e1 := (hW.block _ (lt_of_block HX7.out)).trans HX7.out
    have e2 := (hW.block _ (lt_of_block HA7.out)).trans HA7.out
    have e3 := (hW.block _ (lt_of_block HB7.out)).trans HB7.out
    exact ⟨(cell_of_block e1).trans rfl, (cell_of_block e1).trans rfl, (cell_of_block e1).trans rfl, (cell_of_block e1).trans rfl, (cell_of_block e1).trans rfl, (cell_of_block e1).trans rfl, (cell_of_block e1).trans rfl, (cell_of_block e1).trans rfl, (cell_of_block e1).trans rfl, (cell_of_block e1).trans rfl, (cell_of_block e1).trans rfl, (cell_of_block e1).trans rfl, (cell_of_block e1).trans rfl, (cell_of_block e1).trans rfl, (cell_of_block e2).trans rfl, (cell_of_block e2).trans rfl, (cell_of_block e2).trans rfl, (cell_of_block e2).trans rfl, (cell_of_block e2).trans rfl, (cell_of_block e2).trans rfl, (cell_of_block e2).trans rfl, (cell_of_block e2).trans rfl, (cell_of_block e2).trans rfl, (cell_of_block e2).trans rfl, (cell_of_block e2).trans rfl, (cell_of_block e2).trans rfl, (cell_of_block e2).trans rfl, (cell_of_block e2).trans rfl, (cell_of_block e3).trans rfl, (cell_of_block e3).trans rfl, (cell_of_block e3).trans rfl, (cell_of_block e3).trans rfl, (cell_of_block e3).trans rfl, (cell_of_block e3).trans rfl, (cell_of_block e3).trans rfl, (cell_of_block e3).trans rfl, (cell_of_block e3).trans rfl, (cell_of_block e3).trans rfl, (cell_of_block e3).trans rfl, (cell_of_block e3).trans rfl, (cell_of_block e3).trans rfl, (cell_of_block e3).trans rfl⟩)
  have H : Hid (Below w7.heap.size w7 w7.drew) := Lib.hid (Below.refl _ _).drew
  have hui := Try.underlying42
  have hi1 : (Try.prog.info? 42).map (·.size) = some nutI.cells.length := by kernel_rfl
  have hi2 : (Try.prog.info? 42).map (·.size) = some nutA.cells.length := by kernel_rfl
  have hi3 : (Try.prog.info? 42).map (·.size) = some nutB.cells.length := by kernel_rfl
  have heq : ∀ W, (binOp .eql 42 (.agg #[.string ⟨#[110, 117, 116]⟩, .string ⟨#[98, 111, 120]⟩, .int .i64 12, .string ⟨#[99, 97, 115, 101]⟩, .int .i64 240, .string ⟨#[]⟩, .int .i64 0, .string ⟨#[]⟩, .int .i64 0, .int .i64 3, .int .i64 2, .bool false, .bool false, .bool false]) (.agg #[.string ⟨#[110, 117, 116]⟩, .string ⟨#[98, 111, 120]⟩, .int .i64 12, .string ⟨#[99, 97, 115, 101]⟩, .int .i64 240, .string ⟨#[]⟩, .int .i64 0, .string ⟨#[]⟩, .int .i64 0, .int .i64 3, .int .i64 2, .bool false, .bool false, .bool false])).run Try.prog W = .ok (.bool true) W := fun W => by kernel_rfl
  clear HB0
  go_region_held3 (fun w' => w'.cell? ⟨w6.heap.size, 0, none⟩ = some (.string ⟨#[110, 117, 116]⟩) ∧ w'.cell? ⟨w6.heap.size, 1, none⟩ = some (.string ⟨#[98, 111, 120]⟩) ∧ w'.cell? ⟨w6.heap.size, 2, none⟩ = some (.int .i64 12) ∧ w'.cell? ⟨w6.heap.size, 3, none⟩ = some (.string ⟨#[99, 97, 115, 101]⟩) ∧ w'.cell? ⟨w6.heap.size, 4, none⟩ = some (.int .i64 240) ∧ w'.cell? ⟨w6.heap.size, 5, none⟩ = some (.string ⟨#[]⟩) ∧ w'.cell? ⟨w6.heap.size, 6, none⟩ = some (.int .i64 0) ∧ w'.cell? ⟨w6.heap.size, 7, none⟩ = some (.string ⟨#[]⟩) ∧ w'.cell? ⟨w6.heap.size, 8, none⟩ = some (.int .i64 0) ∧ w'.cell? ⟨w6.heap.size, 9, none⟩ = some (.int .i64 3) ∧ w'.cell? ⟨w6.heap.size, 10, none⟩ = some (.int .i64 2) ∧ w'.cell? ⟨w6.heap.size, 11, none⟩ = some (.bool false) ∧ w'.cell? ⟨w6.heap.size, 12, none⟩ = some (.bool false) ∧ w'.cell? ⟨w6.heap.size, 13, none⟩ = some (.bool false) ∧ w'.cell? ⟨w1.heap.size, 0, none⟩ = some (.string ⟨#[110, 117, 116]⟩) ∧ w'.cell? ⟨w1.heap.size, 1, none⟩ = some (.string ⟨#[98, 111, 120]⟩) ∧ w'.cell? ⟨w1.heap.size, 2, none⟩ = some (.int .i64 12) ∧ w'.cell? ⟨w1.heap.size, 3, none⟩ = some (.string ⟨#[98, 111, 120]⟩) ∧ w'.cell? ⟨w1.heap.size, 4, none⟩ = some (.int .i64 240) ∧ w'.cell? ⟨w1.heap.size, 5, none⟩ = some (.string ⟨#[]⟩) ∧ w'.cell? ⟨w1.heap.size, 6, none⟩ = some (.int .i64 0) ∧ w'.cell? ⟨w1.heap.size, 7, none⟩ = some (.string ⟨#[]⟩) ∧ w'.cell? ⟨w1.heap.size, 8, none⟩ = some (.int .i64 0) ∧ w'.cell? ⟨w1.heap.size, 9, none⟩ = some (.int .i64 3) ∧ w'.cell? ⟨w1.heap.size, 10, none⟩ = some (.int .i64 2) ∧ w'.cell? ⟨w1.heap.size, 11, none⟩ = some (.bool false) ∧ w'.cell? ⟨w1.heap.size, 12, none⟩ = some (.bool false) ∧ w'.cell? ⟨w1.heap.size, 13, none⟩ = some (.bool false) ∧ w'.cell? ⟨w2.heap.size, 0, none⟩ = some (.string ⟨#[110, 117, 116]⟩) ∧ w'.cell? ⟨w2.heap.size, 1, none⟩ = some (.string ⟨#[101, 97, 99, 104]⟩) ∧ w'.cell? ⟨w2.heap.size, 2, none⟩ = some (.int .i64 12) ∧ w'.cell? ⟨w2.heap.size, 3, none⟩ = some (.string ⟨#[99, 97, 115, 101]⟩) ∧ w'.cell? ⟨w2.heap.size, 4, none⟩ = some (.int .i64 240) ∧ w'.cell? ⟨w2.heap.size, 5, none⟩ = some (.string ⟨#[]⟩) ∧ w'.cell? ⟨w2.heap.size, 6, none⟩ = some (.int .i64 0) ∧ w'.cell? ⟨w2.heap.size, 7, none⟩ = some (.string ⟨#[]⟩) ∧ w'.cell? ⟨w2.heap.size, 8, none⟩ = some (.int .i64 0) ∧ w'.cell? ⟨w2.heap.size, 9, none⟩ = some (.int .i64 3) ∧ w'.cell? ⟨w2.heap.size, 10, none⟩ = some (.int .i64 2) ∧ w'.cell? ⟨w2.heap.size, 11, none⟩ = some (.bool false) ∧ w'.cell? ⟨w2.heap.size, 12, none⟩ = some (.bool false) ∧ w'.cell? ⟨w2.heap.size, 13, none⟩ = some (.bool false))
    (first | exact HSS.out _ H.out)
    (first
      | (go_at_call 19; refine (nut_any _).mono ?_; rintro e w' ⟨rfl, hb'⟩; simp only [It.cells, nutI, Pl.at4]; have H := Lib.hid (H.out.trans (hb'.mono H.out.size)); clear hb')
      | (go_at_call_of 16 (Value.agg #[.string ⟨#[110, 117, 116]⟩, .string ⟨#[98, 111, 120]⟩, .int .i64 12, .string ⟨#[98, 111, 120]⟩, .int .i64 240, .string ⟨#[]⟩, .int .i64 0, .string ⟨#[]⟩, .int .i64 0, .int .i64 3, .int .i64 2, .bool false, .bool false, .bool false]); refine (check_any nutA okA _).mono ?_; rintro e w' ⟨rfl, hb'⟩; rw [chA]; have H := Lib.hid (H.out.trans (hb'.mono H.out.size)); clear hb')
      | (go_at_call_of 16 (Value.agg #[.string ⟨#[110, 117, 116]⟩, .string ⟨#[101, 97, 99, 104]⟩, .int .i64 12, .string ⟨#[99, 97, 115, 101]⟩, .int .i64 240, .string ⟨#[]⟩, .int .i64 0, .string ⟨#[]⟩, .int .i64 0, .int .i64 3, .int .i64 2, .bool false, .bool false, .bool false]); refine (check_any nutB okB _).mono ?_; rintro e w' ⟨rfl, hb'⟩; rw [chB]; have H := Lib.hid (H.out.trans (hb'.mono H.out.size)); clear hb')
      | (go_at_call 16; refine (check_any serI okS _).mono ?_; rintro e w' ⟨rfl, hb'⟩; rw [chS]; have H := Lib.hid (H.out.trans (hb'.mono H.out.size)); clear hb'))
  go_wp2_with fail
  go_ret
  exact ⟨rfl, B7.out.trans (H.out.mono B7.out.size)⟩
end Go.Proofs.Ytcihibmapbigdaa
