/-
  THE LAW's house, and its examples.
-/
import Derived.Test.YtnkhnbpopdmkhaaGreatWSame
import Derived.Test.YtnkhnbpopdmkhaaGreatJHead
import Derived.Deep.CutRange
namespace Go.Proofs.YtnkhnbpopdmkhaaGreat
set_option linter.unusedVariables false
open Go.RowKit
open Pl (firstG findG putG It)

/-- The law's example: a house. -/
def exBins (k : Nat) : List (List Value) := [[.string ⟨#[98, 49]⟩, .string ⟨#[122]⟩, .int .i64 1, .int .i64 0, .int .i64 0, .int .i64 0, .int .i64 0, .bool false], [.string ⟨#[98, 50]⟩, .string ⟨#[122]⟩, .int .i64 1, .int .i64 0, .int .i64 0, .int .i64 0, .int .i64 0, .bool false], [.string ⟨#[98, 51]⟩, .string ⟨#[122]⟩, .int .i64 1, .int .i64 0, .int .i64 0, .int .i64 0, .int .i64 0, .bool false]].take k
def exL : Nat → List (List Value) := fun i => if i = 0 then [[.string ⟨#[110, 117, 116]⟩, .string ⟨#[]⟩, .int .i64 0, .string ⟨#[]⟩, .int .i64 0, .string ⟨#[]⟩, .int .i64 0, .string ⟨#[]⟩, .int .i64 0, .int .i64 0, .int .i64 0, .bool true, .bool false, .bool false]] else if i = 1 then [[.string ⟨#[110, 117, 116]⟩, .string ⟨#[97]⟩, .int .i64 30], [.string ⟨#[110, 117, 116]⟩, .string ⟨#[98]⟩, .int .i64 0], [.string ⟨#[110, 117, 116]⟩, .string ⟨#[99]⟩, .int .i64 9]] else if i = 2 then [[.string ⟨#[122]⟩, .string ⟨#[115]⟩]] else if i = 3 then exBins 3 else if i = 4 then [[.string ⟨#[98, 49]⟩, .string ⟨#[110, 117, 116]⟩, .string ⟨#[98]⟩, .int .i64 1, .int .i64 4, .int .i64 0], [.string ⟨#[98, 50]⟩, .string ⟨#[110, 117, 116]⟩, .string ⟨#[97]⟩, .int .i64 1, .int .i64 5, .int .i64 0], [.string ⟨#[98, 51]⟩, .string ⟨#[110, 117, 116]⟩, .string ⟨#[99]⟩, .int .i64 1, .int .i64 3, .int .i64 2]] else []
set_option maxRecDepth 100000 in
set_option maxHeartbeats 3200000 in
theorem small_any (w : World) : Calls Tryz.prog 17 #[] w fun e w' => ∃ a : Hs, e = .returned (.agg a.cells) ∧ HT a exL w' ∧ Caps a ∧ (∀ i, i < 14 → a.n i ≤ 1000) ∧ Below w.heap.size w w' ∧ (∀ g, g < w.heap.size → Off g a exL) := by
  obtain ⟨i0, z0, hi0, hz0, hz1, hz2, hz3⟩ := info_thing (P := Tryz.prog) (T := 77) (sz := 8) (by kernel_rfl)
  have hby : ∀ x, x ≤ 1000000 → x * i0.bytes ≤ 140737488355328 := fun x hx => Nat.le_trans (Nat.mul_le_mul hx hz3) (by decide)
  have HBY := Lib.hid hby
  clear hby
  obtain ⟨w4, hw4⟩ : ∃ W, W = (((((w.alloc (.cells #[.slice none 0 0, .slice none 0 0, .slice none 0 0, .slice none 0 0, .slice none 0 0, .slice none 0 0, .slice none 0 0, .slice none 0 0, .slice none 0 0, .slice none 0 0, .slice none 0 0, .slice none 0 0, .slice none 0 0, .slice none 0 0, .int .i64 0] 37)).alloc (.cells #[.string ⟨#[110, 117, 116]⟩, .string ⟨#[]⟩, .int .i64 0, .string ⟨#[]⟩, .int .i64 0, .string ⟨#[]⟩, .int .i64 0, .string ⟨#[]⟩, .int .i64 0, .int .i64 0, .int .i64 0, .bool true, .bool false, .bool false] 68)).alloc (.cells #[.string ⟨#[122]⟩, .string ⟨#[115]⟩] 74)).alloc (.cells #[.slice (some ⟨w.heap.size + 1, 0, none⟩) 1 1, .slice (some ⟨w.heap.size + 1 + 1 + 1 + 1, 0, none⟩) 3 3, .slice (some ⟨w.heap.size + 1 + 1, 0, none⟩) 1 1, .slice none 0 0, .slice none 0 0, .slice none 0 0, .slice none 0 0, .slice none 0 0, .slice none 0 0, .slice none 0 0, .slice none 0 0, .slice none 0 0, .slice none 0 0, .slice none 0 0, .int .i64 0] 37)).alloc (.cells #[.string ⟨#[110, 117, 116]⟩, .string ⟨#[97]⟩, .int .i64 30, .string ⟨#[110, 117, 116]⟩, .string ⟨#[98]⟩, .int .i64 0, .string ⟨#[110, 117, 116]⟩, .string ⟨#[99]⟩, .int .i64 9] 71)) := ⟨_, rfl⟩
  have hb4 : Below w.heap.size w w4 := by rw [hw4]; exact (((((Below.refl _ _).alloc (Nat.le_refl _) _).alloc (by simp) _).alloc (by simp; omega) _).alloc (by simp; omega) _).alloc (by simp; omega) _
  have hs4 : w4.heap.size = w.heap.size + 5 := by rw [hw4]; simp
  have b0 : w4.heap[w.heap.size]? = some (.cells #[.slice none 0 0, .slice none 0 0, .slice none 0 0, .slice none 0 0, .slice none 0 0, .slice none 0 0, .slice none 0 0, .slice none 0 0, .slice none 0 0, .slice none 0 0, .slice none 0 0, .slice none 0 0, .slice none 0 0, .slice none 0 0, .int .i64 0] 37 (0, 0)) := by
    rw [hw4]
    have hq := heap_alloc_new w (.cells #[.slice none 0 0, .slice none 0 0, .slice none 0 0, .slice none 0 0, .slice none 0 0, .slice none 0 0, .slice none 0 0, .slice none 0 0, .slice none 0 0, .slice none 0 0, .slice none 0 0, .slice none 0 0, .slice none 0 0, .slice none 0 0, .int .i64 0] 37)
    exact (Below.heap_alloc _ _ _ (by simp <;> omega)).trans ((Below.heap_alloc _ _ _ (by simp <;> omega)).trans ((Below.heap_alloc _ _ _ (by simp <;> omega)).trans ((Below.heap_alloc _ _ _ (by simp <;> omega)).trans ((by simpa using hq)))))
  have b1 : w4.heap[w.heap.size + 1]? = some (.cells #[.string ⟨#[110, 117, 116]⟩, .string ⟨#[]⟩, .int .i64 0, .string ⟨#[]⟩, .int .i64 0, .string ⟨#[]⟩, .int .i64 0, .string ⟨#[]⟩, .int .i64 0, .int .i64 0, .int .i64 0, .bool true, .bool false, .bool false] 68 (0, 0)) := by
    rw [hw4]
    have hq := heap_alloc_new (w.alloc (.cells #[.slice none 0 0, .slice none 0 0, .slice none 0 0, .slice none 0 0, .slice none 0 0, .slice none 0 0, .slice none 0 0, .slice none 0 0, .slice none 0 0, .slice none 0 0, .slice none 0 0, .slice none 0 0, .slice none 0 0, .slice none 0 0, .int .i64 0] 37)) (.cells #[.string ⟨#[110, 117, 116]⟩, .string ⟨#[]⟩, .int .i64 0, .string ⟨#[]⟩, .int .i64 0, .string ⟨#[]⟩, .int .i64 0, .string ⟨#[]⟩, .int .i64 0, .int .i64 0, .int .i64 0, .bool true, .bool false, .bool false] 68)
    exact (Below.heap_alloc _ _ _ (by simp <;> omega)).trans ((Below.heap_alloc _ _ _ (by simp <;> omega)).trans ((Below.heap_alloc _ _ _ (by simp <;> omega)).trans ((by simpa using hq))))
  have b2 : w4.heap[w.heap.size + 2]? = some (.cells #[.string ⟨#[122]⟩, .string ⟨#[115]⟩] 74 (0, 0)) := by
    rw [hw4]
    have hq := heap_alloc_new ((w.alloc (.cells #[.slice none 0 0, .slice none 0 0, .slice none 0 0, .slice none 0 0, .slice none 0 0, .slice none 0 0, .slice none 0 0, .slice none 0 0, .slice none 0 0, .slice none 0 0, .slice none 0 0, .slice none 0 0, .slice none 0 0, .slice none 0 0, .int .i64 0] 37)).alloc (.cells #[.string ⟨#[110, 117, 116]⟩, .string ⟨#[]⟩, .int .i64 0, .string ⟨#[]⟩, .int .i64 0, .string ⟨#[]⟩, .int .i64 0, .string ⟨#[]⟩, .int .i64 0, .int .i64 0, .int .i64 0, .bool true, .bool false, .bool false] 68)) (.cells #[.string ⟨#[122]⟩, .string ⟨#[115]⟩] 74)
    exact (Below.heap_alloc _ _ _ (by simp <;> omega)).trans ((Below.heap_alloc _ _ _ (by simp <;> omega)).trans ((by simpa using hq)))
  have b3 : w4.heap[w.heap.size + 3]? = some (.cells #[.slice (some ⟨w.heap.size + 1, 0, none⟩) 1 1, .slice (some ⟨w.heap.size + 1 + 1 + 1 + 1, 0, none⟩) 3 3, .slice (some ⟨w.heap.size + 1 + 1, 0, none⟩) 1 1, .slice none 0 0, .slice none 0 0, .slice none 0 0, .slice none 0 0, .slice none 0 0, .slice none 0 0, .slice none 0 0, .slice none 0 0, .slice none 0 0, .slice none 0 0, .slice none 0 0, .int .i64 0] 37 (0, 0)) := by
    rw [hw4]
    have hq := heap_alloc_new (((w.alloc (.cells #[.slice none 0 0, .slice none 0 0, .slice none 0 0, .slice none 0 0, .slice none 0 0, .slice none 0 0, .slice none 0 0, .slice none 0 0, .slice none 0 0, .slice none 0 0, .slice none 0 0, .slice none 0 0, .slice none 0 0, .slice none 0 0, .int .i64 0] 37)).alloc (.cells #[.string ⟨#[110, 117, 116]⟩, .string ⟨#[]⟩, .int .i64 0, .string ⟨#[]⟩, .int .i64 0, .string ⟨#[]⟩, .int .i64 0, .string ⟨#[]⟩, .int .i64 0, .int .i64 0, .int .i64 0, .bool true, .bool false, .bool false] 68)).alloc (.cells #[.string ⟨#[122]⟩, .string ⟨#[115]⟩] 74)) (.cells #[.slice (some ⟨w.heap.size + 1, 0, none⟩) 1 1, .slice (some ⟨w.heap.size + 1 + 1 + 1 + 1, 0, none⟩) 3 3, .slice (some ⟨w.heap.size + 1 + 1, 0, none⟩) 1 1, .slice none 0 0, .slice none 0 0, .slice none 0 0, .slice none 0 0, .slice none 0 0, .slice none 0 0, .slice none 0 0, .slice none 0 0, .slice none 0 0, .slice none 0 0, .slice none 0 0, .int .i64 0] 37)
    exact (Below.heap_alloc _ _ _ (by simp <;> omega)).trans ((by simpa using hq))
  have b4 : w4.heap[w.heap.size + 4]? = some (.cells #[.string ⟨#[110, 117, 116]⟩, .string ⟨#[97]⟩, .int .i64 30, .string ⟨#[110, 117, 116]⟩, .string ⟨#[98]⟩, .int .i64 0, .string ⟨#[110, 117, 116]⟩, .string ⟨#[99]⟩, .int .i64 9] 71 (0, 0)) := by
    rw [hw4]
    have hq := heap_alloc_new ((((w.alloc (.cells #[.slice none 0 0, .slice none 0 0, .slice none 0 0, .slice none 0 0, .slice none 0 0, .slice none 0 0, .slice none 0 0, .slice none 0 0, .slice none 0 0, .slice none 0 0, .slice none 0 0, .slice none 0 0, .slice none 0 0, .slice none 0 0, .int .i64 0] 37)).alloc (.cells #[.string ⟨#[110, 117, 116]⟩, .string ⟨#[]⟩, .int .i64 0, .string ⟨#[]⟩, .int .i64 0, .string ⟨#[]⟩, .int .i64 0, .string ⟨#[]⟩, .int .i64 0, .int .i64 0, .int .i64 0, .bool true, .bool false, .bool false] 68)).alloc (.cells #[.string ⟨#[122]⟩, .string ⟨#[115]⟩] 74)).alloc (.cells #[.slice (some ⟨w.heap.size + 1, 0, none⟩) 1 1, .slice (some ⟨w.heap.size + 1 + 1 + 1 + 1, 0, none⟩) 3 3, .slice (some ⟨w.heap.size + 1 + 1, 0, none⟩) 1 1, .slice none 0 0, .slice none 0 0, .slice none 0 0, .slice none 0 0, .slice none 0 0, .slice none 0 0, .slice none 0 0, .slice none 0 0, .slice none 0 0, .slice none 0 0, .slice none 0 0, .int .i64 0] 37)) (.cells #[.string ⟨#[110, 117, 116]⟩, .string ⟨#[97]⟩, .int .i64 30, .string ⟨#[110, 117, 116]⟩, .string ⟨#[98]⟩, .int .i64 0, .string ⟨#[110, 117, 116]⟩, .string ⟨#[99]⟩, .int .i64 9] 71)
    exact (by simpa using hq)
  have HB4 := Lib.hid hb4
  have HS4 := Lib.hid hs4
  have F0 := Lib.hid b0
  have F1 := Lib.hid b1
  have F2 := Lib.hid b2
  have F3 := Lib.hid b3
  have F4 := Lib.hid b4
  have HW4 := Lib.hid hw4
  clear hb4 hs4 b0 b1 b2 b3 b4 hw4
  go_enter Tryz.func17, Tryz.ntmps17
  go_upto_region 3 with fail
  rw [← HW4.out]
  go_wp2_with fail
  go_loopw [2] (fun i wr => ∃ (k c : Nat) (A : Option Addr), k ≤ 3 ∧ i = .int .i64 ((k : Int) + 1) ∧ Hid (wr.heap[w.heap.size + 3]? = some (.cells #[.slice (some ⟨w.heap.size + 1, 0, none⟩) 1 1, .slice (some ⟨w.heap.size + 1 + 1 + 1 + 1, 0, none⟩) 3 3, .slice (some ⟨w.heap.size + 1 + 1, 0, none⟩) 1 1, .slice A k c, .slice none 0 0, .slice none 0 0, .slice none 0 0, .slice none 0 0, .slice none 0 0, .slice none 0 0, .slice none 0 0, .slice none 0 0, .slice none 0 0, .slice none 0 0, .int .i64 0] 37 (0, 0))) ∧ Hid (wr.ownsRow (w.heap.size + 5) 77 8 (.slice A k c) k (exBins k).flatten) ∧ Hid (∀ g, g < w.heap.size + 5 → g ≠ w.heap.size + 3 → wr.heap[g]? = w4.heap[g]?) ∧ Hid (Below w.heap.size w wr) ∧ Hid (w.heap.size + 5 ≤ wr.heap.size)) (fun i _ => (4 - intOf i).toNat)
  case atStart => exact ⟨0, 0, none, by omega, rfl, F3, Lib.hid (World.ownsRow_nil _ _ _ _), Lib.hid (fun _ _ _ => rfl), HB4, Lib.hid (by rw [HS4.out]; exact Nat.le_refl _)⟩
  case round =>
    obtain ⟨k, c, A, hk, rfl, hbx, hown, hkp, hw, hsz⟩ := hrel
    have d3 : wr.cell? ⟨w.heap.size + 3, 3, none⟩ = some (.slice A k c) := by rw [cell_of_block hbx.out]; rfl
    have dlt := lt_of_block hbx.out
    have hk4 : k = 0 ∨ k = 1 ∨ k = 2 ∨ k = 3 := by omega
    rcases hk4 with h0 | h0 | h0 | h0
    · have hki : ((k : Int) + 1) = 1 := by omega
      have HK := Lib.hid h0
      clear h0
      have hcv : (convert 124 9 (.slice (some ⟨wr.heap.size, 0, none⟩) 1 1)).run Tryz.prog (wr.alloc (.cells #[.int .u8 49] 5)) = .ok (.string ⟨#[49]⟩) (wr.alloc (.cells #[.int .u8 49] 5)) := run_convert_bytes_back _ _ _ 5 ⟨wr.heap.size, 0, none⟩ 1 [49] Tryz.underlying124 Tryz.underlying5 Tryz.underlying9 (fun j hj => by
        obtain rfl : j = 0 := by simpa using hj
        have hq := heap_alloc_new wr (.cells #[.int .u8 49] 5)
        exact (cell_of_block hq).trans rfl)
      have hcat : (⟨#[98]⟩ ++ ⟨#[49]⟩ : ByteArray) = ⟨#[98, 49]⟩ := rfl
      have HG1 : Hid (w.heap.size + 5 ≤ ((wr.alloc (.cells #[.int .u8 49] 5)).alloc (.cells #[.string ⟨#[98, 49]⟩, .string ⟨#[122]⟩, .int .i64 1, .int .i64 0, .int .i64 0, .int .i64 0, .int .i64 0, .bool false] 77)).heap.size) := Lib.hid (by have := hsz.out; simp; omega)
      have HE1 : Hid (∀ u ∈ ([.string ⟨#[98, 49]⟩, .string ⟨#[122]⟩, .int .i64 1, .int .i64 0, .int .i64 0, .int .i64 0, .int .i64 0, .bool false] : List Value), u.oneCell' = true) := Lib.hid (by simp [Value.oneCell'])
      have HWB : Hid (Below w.heap.size w ((wr.alloc (.cells #[.int .u8 49] 5)).alloc (.cells #[.string ⟨#[98, 49]⟩, .string ⟨#[122]⟩, .int .i64 1, .int .i64 0, .int .i64 0, .int .i64 0, .int .i64 0, .bool false] 77))) := Lib.hid ((hw.out.alloc hw.out.size _).alloc (by have := hw.out.size; simp; omega) _)
      have HKB : Hid (∀ g, g < wr.heap.size → ((wr.alloc (.cells #[.int .u8 49] 5)).alloc (.cells #[.string ⟨#[98, 49]⟩, .string ⟨#[122]⟩, .int .i64 1, .int .i64 0, .int .i64 0, .int .i64 0, .int .i64 0, .bool false] 77)).heap[g]? = wr.heap[g]?) := Lib.hid (fun g hg => (Below.heap_alloc _ _ _ (by simp; omega)).trans (Below.heap_alloc _ _ _ hg))
      have HRD : Hid (Rd ((wr.alloc (.cells #[.int .u8 49] 5)).alloc (.cells #[.string ⟨#[98, 49]⟩, .string ⟨#[122]⟩, .int .i64 1, .int .i64 0, .int .i64 0, .int .i64 0, .int .i64 0, .bool false] 77)) (wr.heap.size + 2) (some ⟨wr.heap.size + 1, 0, none⟩) [.string ⟨#[98, 49]⟩, .string ⟨#[122]⟩, .int .i64 1, .int .i64 0, .int .i64 0, .int .i64 0, .int .i64 0, .bool false]) := Lib.hid (by have := rd_one (wr.alloc (.cells #[.int .u8 49] 5)) [.string ⟨#[98, 49]⟩, .string ⟨#[122]⟩, .int .i64 1, .int .i64 0, .int .i64 0, .int .i64 0, .int .i64 0, .bool false] 77; simpa using this)
      have HBL6 : Hid (∀ W, Below (w.heap.size + 5) ((wr.alloc (.cells #[.int .u8 49] 5)).alloc (.cells #[.string ⟨#[98, 49]⟩, .string ⟨#[122]⟩, .int .i64 1, .int .i64 0, .int .i64 0, .int .i64 0, .int .i64 0, .bool false] 77)) W → W.heap[w.heap.size + 3]? = some (.cells #[.slice (some ⟨w.heap.size + 1, 0, none⟩) 1 1, .slice (some ⟨w.heap.size + 1 + 1 + 1 + 1, 0, none⟩) 3 3, .slice (some ⟨w.heap.size + 1 + 1, 0, none⟩) 1 1, .slice A k c, .slice none 0 0, .slice none 0 0, .slice none 0 0, .slice none 0 0, .slice none 0 0, .slice none 0 0, .slice none 0 0, .slice none 0 0, .slice none 0 0, .slice none 0 0, .int .i64 0] 37 (0, 0))) := Lib.hid (fun W hW => (hW.block (w.heap.size + 3) (by omega)).trans ((HKB.out (w.heap.size + 3) dlt).trans hbx.out))
      have HF6 : Hid (∀ W, Below (w.heap.size + 5) ((wr.alloc (.cells #[.int .u8 49] 5)).alloc (.cells #[.string ⟨#[98, 49]⟩, .string ⟨#[122]⟩, .int .i64 1, .int .i64 0, .int .i64 0, .int .i64 0, .int .i64 0, .bool false] 77)) W → W.frozen? ⟨w.heap.size + 3, 3, none⟩ = false ∧ W.cell? ⟨w.heap.size + 3, 3, none⟩ = some (.slice A k c) ∧ w.heap.size + 3 < W.heap.size) := Lib.hid (fun W hW => ⟨frozen_of_block (HBL6.out W hW), by rw [cell_of_block (HBL6.out W hW)]; rfl, lt_of_block (HBL6.out W hW)⟩)
      go_wp2_with (first
        | (at_builtin; refine wpList_app rfl (.tmp 18) (.tmp 26) _ rfl (w.heap.size + 5) 77 i0 z0 8 i0.bytes Tryz.underlying25 hi0 hz0 hz1 rfl hz2 (by decide) A k c _ rfl ((hown.out.alloc _).alloc _) (wr.heap.size + 2) (some ⟨wr.heap.size + 1, 0, none⟩) 1 1 [.string ⟨#[98, 49]⟩, .string ⟨#[122]⟩, .int .i64 1, .int .i64 0, .int .i64 0, .int .i64 0, .int .i64 0, .bool false] rfl (by rfl) HRD.out HE1.out (by simp only [maxLen]; omega) (HBY.out _ (by omega)) HG1.out ?_; intro A5 c5 w6 hown6 hb6; have HO6 := Lib.hid hown6; have HB6 := Lib.hid hb6; obtain ⟨f6, c6, l6⟩ := HF6.out _ hb6; clear hown6 hb6)
        | fail)
      have hl : (exBins (k + 1)).flatten = (exBins k).flatten ++ [.string ⟨#[98, 49]⟩, .string ⟨#[122]⟩, .int .i64 1, .int .i64 0, .int .i64 0, .int .i64 0, .int .i64 0, .bool false] := by rw [HK.out]; rfl
      go_roundw
      case rel =>
        refine ⟨k + 1, c5, A5, by have := HK.out; omega, by rw [HK.out]; rfl, Lib.hid (by rw [block_setCell (HBL6.out w6 HB6.out)]; rfl), Lib.hid (by rw [hl]; exact own_far HO6.out (by show w.heap.size + 3 < w.heap.size + 5; omega) (Nat.le_refl _)), Lib.hid (fun g hg hne => (block_setCell_other hne _).trans ((HB6.out.block g hg).trans ((HKB.out g (by have := hsz.out; omega)).trans (hkp.out g hg hne)))), Lib.hid ((HWB.out.trans (HB6.out.mono (by omega))).setCell (show w.heap.size ≤ w.heap.size + 3 by omega) _), Lib.hid (by have := Nat.le_trans HG1.out HB6.out.size; simpa [World.setCell] using this)⟩
      case measure => have := HK.out; simp [intOf]; omega
    · have hki : ((k : Int) + 1) = 2 := by omega
      have HK := Lib.hid h0
      clear h0
      have hcv : (convert 124 9 (.slice (some ⟨wr.heap.size, 0, none⟩) 1 1)).run Tryz.prog (wr.alloc (.cells #[.int .u8 50] 5)) = .ok (.string ⟨#[50]⟩) (wr.alloc (.cells #[.int .u8 50] 5)) := run_convert_bytes_back _ _ _ 5 ⟨wr.heap.size, 0, none⟩ 1 [50] Tryz.underlying124 Tryz.underlying5 Tryz.underlying9 (fun j hj => by
        obtain rfl : j = 0 := by simpa using hj
        have hq := heap_alloc_new wr (.cells #[.int .u8 50] 5)
        exact (cell_of_block hq).trans rfl)
      have hcat : (⟨#[98]⟩ ++ ⟨#[50]⟩ : ByteArray) = ⟨#[98, 50]⟩ := rfl
      have HG1 : Hid (w.heap.size + 5 ≤ ((wr.alloc (.cells #[.int .u8 50] 5)).alloc (.cells #[.string ⟨#[98, 50]⟩, .string ⟨#[122]⟩, .int .i64 1, .int .i64 0, .int .i64 0, .int .i64 0, .int .i64 0, .bool false] 77)).heap.size) := Lib.hid (by have := hsz.out; simp; omega)
      have HE1 : Hid (∀ u ∈ ([.string ⟨#[98, 50]⟩, .string ⟨#[122]⟩, .int .i64 1, .int .i64 0, .int .i64 0, .int .i64 0, .int .i64 0, .bool false] : List Value), u.oneCell' = true) := Lib.hid (by simp [Value.oneCell'])
      have HWB : Hid (Below w.heap.size w ((wr.alloc (.cells #[.int .u8 50] 5)).alloc (.cells #[.string ⟨#[98, 50]⟩, .string ⟨#[122]⟩, .int .i64 1, .int .i64 0, .int .i64 0, .int .i64 0, .int .i64 0, .bool false] 77))) := Lib.hid ((hw.out.alloc hw.out.size _).alloc (by have := hw.out.size; simp; omega) _)
      have HKB : Hid (∀ g, g < wr.heap.size → ((wr.alloc (.cells #[.int .u8 50] 5)).alloc (.cells #[.string ⟨#[98, 50]⟩, .string ⟨#[122]⟩, .int .i64 1, .int .i64 0, .int .i64 0, .int .i64 0, .int .i64 0, .bool false] 77)).heap[g]? = wr.heap[g]?) := Lib.hid (fun g hg => (Below.heap_alloc _ _ _ (by simp; omega)).trans (Below.heap_alloc _ _ _ hg))
      have HRD : Hid (Rd ((wr.alloc (.cells #[.int .u8 50] 5)).alloc (.cells #[.string ⟨#[98, 50]⟩, .string ⟨#[122]⟩, .int .i64 1, .int .i64 0, .int .i64 0, .int .i64 0, .int .i64 0, .bool false] 77)) (wr.heap.size + 2) (some ⟨wr.heap.size + 1, 0, none⟩) [.string ⟨#[98, 50]⟩, .string ⟨#[122]⟩, .int .i64 1, .int .i64 0, .int .i64 0, .int .i64 0, .int .i64 0, .bool false]) := Lib.hid (by have := rd_one (wr.alloc (.cells #[.int .u8 50] 5)) [.string ⟨#[98, 50]⟩, .string ⟨#[122]⟩, .int .i64 1, .int .i64 0, .int .i64 0, .int .i64 0, .int .i64 0, .bool false] 77; simpa using this)
      have HBL6 : Hid (∀ W, Below (w.heap.size + 5) ((wr.alloc (.cells #[.int .u8 50] 5)).alloc (.cells #[.string ⟨#[98, 50]⟩, .string ⟨#[122]⟩, .int .i64 1, .int .i64 0, .int .i64 0, .int .i64 0, .int .i64 0, .bool false] 77)) W → W.heap[w.heap.size + 3]? = some (.cells #[.slice (some ⟨w.heap.size + 1, 0, none⟩) 1 1, .slice (some ⟨w.heap.size + 1 + 1 + 1 + 1, 0, none⟩) 3 3, .slice (some ⟨w.heap.size + 1 + 1, 0, none⟩) 1 1, .slice A k c, .slice none 0 0, .slice none 0 0, .slice none 0 0, .slice none 0 0, .slice none 0 0, .slice none 0 0, .slice none 0 0, .slice none 0 0, .slice none 0 0, .slice none 0 0, .int .i64 0] 37 (0, 0))) := Lib.hid (fun W hW => (hW.block (w.heap.size + 3) (by omega)).trans ((HKB.out (w.heap.size + 3) dlt).trans hbx.out))
      have HF6 : Hid (∀ W, Below (w.heap.size + 5) ((wr.alloc (.cells #[.int .u8 50] 5)).alloc (.cells #[.string ⟨#[98, 50]⟩, .string ⟨#[122]⟩, .int .i64 1, .int .i64 0, .int .i64 0, .int .i64 0, .int .i64 0, .bool false] 77)) W → W.frozen? ⟨w.heap.size + 3, 3, none⟩ = false ∧ W.cell? ⟨w.heap.size + 3, 3, none⟩ = some (.slice A k c) ∧ w.heap.size + 3 < W.heap.size) := Lib.hid (fun W hW => ⟨frozen_of_block (HBL6.out W hW), by rw [cell_of_block (HBL6.out W hW)]; rfl, lt_of_block (HBL6.out W hW)⟩)
      go_wp2_with (first
        | (at_builtin; refine wpList_app rfl (.tmp 18) (.tmp 26) _ rfl (w.heap.size + 5) 77 i0 z0 8 i0.bytes Tryz.underlying25 hi0 hz0 hz1 rfl hz2 (by decide) A k c _ rfl ((hown.out.alloc _).alloc _) (wr.heap.size + 2) (some ⟨wr.heap.size + 1, 0, none⟩) 1 1 [.string ⟨#[98, 50]⟩, .string ⟨#[122]⟩, .int .i64 1, .int .i64 0, .int .i64 0, .int .i64 0, .int .i64 0, .bool false] rfl (by rfl) HRD.out HE1.out (by simp only [maxLen]; omega) (HBY.out _ (by omega)) HG1.out ?_; intro A5 c5 w6 hown6 hb6; have HO6 := Lib.hid hown6; have HB6 := Lib.hid hb6; obtain ⟨f6, c6, l6⟩ := HF6.out _ hb6; clear hown6 hb6)
        | fail)
      have hl : (exBins (k + 1)).flatten = (exBins k).flatten ++ [.string ⟨#[98, 50]⟩, .string ⟨#[122]⟩, .int .i64 1, .int .i64 0, .int .i64 0, .int .i64 0, .int .i64 0, .bool false] := by rw [HK.out]; rfl
      go_roundw
      case rel =>
        refine ⟨k + 1, c5, A5, by have := HK.out; omega, by rw [HK.out]; rfl, Lib.hid (by rw [block_setCell (HBL6.out w6 HB6.out)]; rfl), Lib.hid (by rw [hl]; exact own_far HO6.out (by show w.heap.size + 3 < w.heap.size + 5; omega) (Nat.le_refl _)), Lib.hid (fun g hg hne => (block_setCell_other hne _).trans ((HB6.out.block g hg).trans ((HKB.out g (by have := hsz.out; omega)).trans (hkp.out g hg hne)))), Lib.hid ((HWB.out.trans (HB6.out.mono (by omega))).setCell (show w.heap.size ≤ w.heap.size + 3 by omega) _), Lib.hid (by have := Nat.le_trans HG1.out HB6.out.size; simpa [World.setCell] using this)⟩
      case measure => have := HK.out; simp [intOf]; omega
    · have hki : ((k : Int) + 1) = 3 := by omega
      have HK := Lib.hid h0
      clear h0
      have hcv : (convert 124 9 (.slice (some ⟨wr.heap.size, 0, none⟩) 1 1)).run Tryz.prog (wr.alloc (.cells #[.int .u8 51] 5)) = .ok (.string ⟨#[51]⟩) (wr.alloc (.cells #[.int .u8 51] 5)) := run_convert_bytes_back _ _ _ 5 ⟨wr.heap.size, 0, none⟩ 1 [51] Tryz.underlying124 Tryz.underlying5 Tryz.underlying9 (fun j hj => by
        obtain rfl : j = 0 := by simpa using hj
        have hq := heap_alloc_new wr (.cells #[.int .u8 51] 5)
        exact (cell_of_block hq).trans rfl)
      have hcat : (⟨#[98]⟩ ++ ⟨#[51]⟩ : ByteArray) = ⟨#[98, 51]⟩ := rfl
      have HG1 : Hid (w.heap.size + 5 ≤ ((wr.alloc (.cells #[.int .u8 51] 5)).alloc (.cells #[.string ⟨#[98, 51]⟩, .string ⟨#[122]⟩, .int .i64 1, .int .i64 0, .int .i64 0, .int .i64 0, .int .i64 0, .bool false] 77)).heap.size) := Lib.hid (by have := hsz.out; simp; omega)
      have HE1 : Hid (∀ u ∈ ([.string ⟨#[98, 51]⟩, .string ⟨#[122]⟩, .int .i64 1, .int .i64 0, .int .i64 0, .int .i64 0, .int .i64 0, .bool false] : List Value), u.oneCell' = true) := Lib.hid (by simp [Value.oneCell'])
      have HWB : Hid (Below w.heap.size w ((wr.alloc (.cells #[.int .u8 51] 5)).alloc (.cells #[.string ⟨#[98, 51]⟩, .string ⟨#[122]⟩, .int .i64 1, .int .i64 0, .int .i64 0, .int .i64 0, .int .i64 0, .bool false] 77))) := Lib.hid ((hw.out.alloc hw.out.size _).alloc (by have := hw.out.size; simp; omega) _)
      have HKB : Hid (∀ g, g < wr.heap.size → ((wr.alloc (.cells #[.int .u8 51] 5)).alloc (.cells #[.string ⟨#[98, 51]⟩, .string ⟨#[122]⟩, .int .i64 1, .int .i64 0, .int .i64 0, .int .i64 0, .int .i64 0, .bool false] 77)).heap[g]? = wr.heap[g]?) := Lib.hid (fun g hg => (Below.heap_alloc _ _ _ (by simp; omega)).trans (Below.heap_alloc _ _ _ hg))
      have HRD : Hid (Rd ((wr.alloc (.cells #[.int .u8 51] 5)).alloc (.cells #[.string ⟨#[98, 51]⟩, .string ⟨#[122]⟩, .int .i64 1, .int .i64 0, .int .i64 0, .int .i64 0, .int .i64 0, .bool false] 77)) (wr.heap.size + 2) (some ⟨wr.heap.size + 1, 0, none⟩) [.string ⟨#[98, 51]⟩, .string ⟨#[122]⟩, .int .i64 1, .int .i64 0, .int .i64 0, .int .i64 0, .int .i64 0, .bool false]) := Lib.hid (by have := rd_one (wr.alloc (.cells #[.int .u8 51] 5)) [.string ⟨#[98, 51]⟩, .string ⟨#[122]⟩, .int .i64 1, .int .i64 0, .int .i64 0, .int .i64 0, .int .i64 0, .bool false] 77; simpa using this)
      have HBL6 : Hid (∀ W, Below (w.heap.size + 5) ((wr.alloc (.cells #[.int .u8 51] 5)).alloc (.cells #[.string ⟨#[98, 51]⟩, .string ⟨#[122]⟩, .int .i64 1, .int .i64 0, .int .i64 0, .int .i64 0, .int .i64 0, .bool false] 77)) W → W.heap[w.heap.size + 3]? = some (.cells #[.slice (some ⟨w.heap.size + 1, 0, none⟩) 1 1, .slice (some ⟨w.heap.size + 1 + 1 + 1 + 1, 0, none⟩) 3 3, .slice (some ⟨w.heap.size + 1 + 1, 0, none⟩) 1 1, .slice A k c, .slice none 0 0, .slice none 0 0, .slice none 0 0, .slice none 0 0, .slice none 0 0, .slice none 0 0, .slice none 0 0, .slice none 0 0, .slice none 0 0, .slice none 0 0, .int .i64 0] 37 (0, 0))) := Lib.hid (fun W hW => (hW.block (w.heap.size + 3) (by omega)).trans ((HKB.out (w.heap.size + 3) dlt).trans hbx.out))
      have HF6 : Hid (∀ W, Below (w.heap.size + 5) ((wr.alloc (.cells #[.int .u8 51] 5)).alloc (.cells #[.string ⟨#[98, 51]⟩, .string ⟨#[122]⟩, .int .i64 1, .int .i64 0, .int .i64 0, .int .i64 0, .int .i64 0, .bool false] 77)) W → W.frozen? ⟨w.heap.size + 3, 3, none⟩ = false ∧ W.cell? ⟨w.heap.size + 3, 3, none⟩ = some (.slice A k c) ∧ w.heap.size + 3 < W.heap.size) := Lib.hid (fun W hW => ⟨frozen_of_block (HBL6.out W hW), by rw [cell_of_block (HBL6.out W hW)]; rfl, lt_of_block (HBL6.out W hW)⟩)
      go_wp2_with (first
        | (at_builtin; refine wpList_app rfl (.tmp 18) (.tmp 26) _ rfl (w.heap.size + 5) 77 i0 z0 8 i0.bytes Tryz.underlying25 hi0 hz0 hz1 rfl hz2 (by decide) A k c _ rfl ((hown.out.alloc _).alloc _) (wr.heap.size + 2) (some ⟨wr.heap.size + 1, 0, none⟩) 1 1 [.string ⟨#[98, 51]⟩, .string ⟨#[122]⟩, .int .i64 1, .int .i64 0, .int .i64 0, .int .i64 0, .int .i64 0, .bool false] rfl (by rfl) HRD.out HE1.out (by simp only [maxLen]; omega) (HBY.out _ (by omega)) HG1.out ?_; intro A5 c5 w6 hown6 hb6; have HO6 := Lib.hid hown6; have HB6 := Lib.hid hb6; obtain ⟨f6, c6, l6⟩ := HF6.out _ hb6; clear hown6 hb6)
        | fail)
      have hl : (exBins (k + 1)).flatten = (exBins k).flatten ++ [.string ⟨#[98, 51]⟩, .string ⟨#[122]⟩, .int .i64 1, .int .i64 0, .int .i64 0, .int .i64 0, .int .i64 0, .bool false] := by rw [HK.out]; rfl
      go_roundw
      case rel =>
        refine ⟨k + 1, c5, A5, by have := HK.out; omega, by rw [HK.out]; rfl, Lib.hid (by rw [block_setCell (HBL6.out w6 HB6.out)]; rfl), Lib.hid (by rw [hl]; exact own_far HO6.out (by show w.heap.size + 3 < w.heap.size + 5; omega) (Nat.le_refl _)), Lib.hid (fun g hg hne => (block_setCell_other hne _).trans ((HB6.out.block g hg).trans ((HKB.out g (by have := hsz.out; omega)).trans (hkp.out g hg hne)))), Lib.hid ((HWB.out.trans (HB6.out.mono (by omega))).setCell (show w.heap.size ≤ w.heap.size + 3 by omega) _), Lib.hid (by have := Nat.le_trans HG1.out HB6.out.size; simpa [World.setCell] using this)⟩
      case measure => have := HK.out; simp [intOf]; omega
    · have hki : ((k : Int) + 1) = 4 := by omega
      have HK := Lib.hid h0
      clear h0
      obtain ⟨aq, haq⟩ : ∃ a : Hs, a = ⟨fun i => if i = 0 then some ⟨w.heap.size + 1, 0, none⟩ else if i = 1 then some ⟨w.heap.size + 4, 0, none⟩ else if i = 2 then some ⟨w.heap.size + 2, 0, none⟩ else if i = 3 then A else if i = 4 then some ⟨wr.heap.size, 0, none⟩ else none, fun i => if i = 0 then 1 else if i = 1 then 3 else if i = 2 then 1 else if i = 3 then k else if i = 4 then 3 else 0, fun i => if i = 0 then 1 else if i = 1 then 3 else if i = 2 then 1 else if i = 3 then c else if i = 4 then 3 else 0, 0⟩ := ⟨_, rfl⟩
      obtain ⟨w7, hw7⟩ : ∃ W, W = ((wr.setCell ⟨w.heap.size + 3, 4, none⟩ (.slice (some ⟨wr.heap.size, 0, none⟩) 3 3)).alloc (.cells #[.string ⟨#[98, 49]⟩, .string ⟨#[110, 117, 116]⟩, .string ⟨#[98]⟩, .int .i64 1, .int .i64 4, .int .i64 0, .string ⟨#[98, 50]⟩, .string ⟨#[110, 117, 116]⟩, .string ⟨#[97]⟩, .int .i64 1, .int .i64 5, .int .i64 0, .string ⟨#[98, 51]⟩, .string ⟨#[110, 117, 116]⟩, .string ⟨#[99]⟩, .int .i64 1, .int .i64 3, .int .i64 2] 58)) := ⟨_, rfl⟩
      have hz7 : w7.heap.size = wr.heap.size + 1 := by rw [hw7]; simp [World.setCell]
      have e3 : w7.heap[w.heap.size + 3]? = some (.cells aq.cells 37 (0, 0)) := by rw [hw7, (Below.heap_alloc _ _ _ (by simpa [World.setCell] using dlt)).trans (block_setCell hbx.out _), haq]; rfl
      have e4 : w7.heap[wr.heap.size]? = some (.cells #[.string ⟨#[98, 49]⟩, .string ⟨#[110, 117, 116]⟩, .string ⟨#[98]⟩, .int .i64 1, .int .i64 4, .int .i64 0, .string ⟨#[98, 50]⟩, .string ⟨#[110, 117, 116]⟩, .string ⟨#[97]⟩, .int .i64 1, .int .i64 5, .int .i64 0, .string ⟨#[98, 51]⟩, .string ⟨#[110, 117, 116]⟩, .string ⟨#[99]⟩, .int .i64 1, .int .i64 3, .int .i64 2] 58 (0, 0)) := by
        rw [hw7]
        have hq := heap_alloc_new (wr.setCell ⟨w.heap.size + 3, 4, none⟩ (.slice (some ⟨wr.heap.size, 0, none⟩) 3 3)) (.cells #[.string ⟨#[98, 49]⟩, .string ⟨#[110, 117, 116]⟩, .string ⟨#[98]⟩, .int .i64 1, .int .i64 4, .int .i64 0, .string ⟨#[98, 50]⟩, .string ⟨#[110, 117, 116]⟩, .string ⟨#[97]⟩, .int .i64 1, .int .i64 5, .int .i64 0, .string ⟨#[98, 51]⟩, .string ⟨#[110, 117, 116]⟩, .string ⟨#[99]⟩, .int .i64 1, .int .i64 3, .int .i64 2] 58)
        rw [show (wr.setCell ⟨w.heap.size + 3, 4, none⟩ (.slice (some ⟨wr.heap.size, 0, none⟩) 3 3)).heap.size = wr.heap.size from by simp [World.setCell]] at hq
        exact hq
      have ek : ∀ g, g < w.heap.size + 5 → g ≠ w.heap.size + 3 → w7.heap[g]? = w4.heap[g]? := fun g hg hne => by
        rw [hw7]
        exact (Below.heap_alloc _ _ _ (by have := hsz.out; simp [World.setCell]; omega)).trans ((block_setCell_other hne _).trans (hkp.out g hg hne))
      have hb7 : Below w.heap.size w w7 := by rw [hw7]; exact (hw.out.setCell (show w.heap.size ≤ w.heap.size + 3 by omega) _).alloc (by simpa [World.setCell] using hw.out.size) _
      have ho7 : w7.ownsRow (w.heap.size + 5) 77 8 (.slice A k c) k (exBins k).flatten := by rw [hw7]; exact (own_far hown.out (by show w.heap.size + 3 < w.heap.size + 5; omega) (Nat.le_refl _)).alloc _
      obtain ⟨w8, hw8⟩ : ∃ W, W = w7.setRow w.heap.size aq.cells := ⟨_, rfl⟩
      have e0 := (ek w.heap.size (by omega) (by omega)).trans F0.out
      have hz8 : w8.heap.size = w7.heap.size := by rw [hw8]; simp
      have k8 : ∀ g, g ≠ w.heap.size → w8.heap[g]? = w7.heap[g]? := fun g hg => by rw [hw8]; exact setRow_other _ _ _ _ hg
      have ho8 : w8.ownsRow (w.heap.size + 5) 77 8 (.slice A k c) k (exBins k).flatten := by rw [hw8]; exact own_rowed ho7 (by omega) (Nat.le_refl _)
      have hb8 : Below w.heap.size w w8 := by rw [hw8]; exact setRow_below hb7 (Nat.le_refl _) _
      have f0 : w8.heap[w.heap.size]? = some (.cells aq.cells 37 (0, 0)) := by rw [hw8]; exact setRow_heap _ _ _ _ _ _ e0
      have f1 := (k8 (w.heap.size + 1) (by omega)).trans ((ek (w.heap.size + 1) (by omega) (by omega)).trans F1.out)
      have f2 := (k8 (w.heap.size + 2) (by omega)).trans ((ek (w.heap.size + 2) (by omega) (by omega)).trans F2.out)
      have f4 := (k8 (w.heap.size + 4) (by omega)).trans ((ek (w.heap.size + 4) (by omega) (by omega)).trans F4.out)
      have f5 := (k8 wr.heap.size (by have := hsz.out; omega)).trans e4
      have rdb : ∀ (g : Nat) (xs : List Value) (t : TypeId), g < w8.heap.size → w8.heap[g]? = some (.cells xs.toArray t (0, 0)) → Rd w8 w8.heap.size (some ⟨g, 0, none⟩) xs := fun g xs t hg h _ => ⟨g, 0, rfl, hg, fun j u hu => by
        rw [Nat.zero_add, cell_of_block h, List.getElem?_toArray]
        exact hu⟩
      have hs := hsz.out
      have hk3 := HK.out
      have HTA : Hid (HT aq exL w8) := Lib.hid (fun i hi => by
        by_cases h0 : i = 0
        · subst h0; rw [haq]; exact ⟨rfl, by show (1 : Nat) ≤ _; omega, fun e he => by simp only [exL, if_true, List.mem_singleton] at he; subst he; exact fits_of (by decide), rdb _ _ _ (by omega) f1⟩
        · by_cases h1 : i = 1
          · subst h1; rw [haq]; exact ⟨rfl, by show (3 : Nat) ≤ _; omega, fun e he => by
              have he2 : e ∈ ([[.string ⟨#[110, 117, 116]⟩, .string ⟨#[97]⟩, .int .i64 30], [.string ⟨#[110, 117, 116]⟩, .string ⟨#[98]⟩, .int .i64 0], [.string ⟨#[110, 117, 116]⟩, .string ⟨#[99]⟩, .int .i64 9]] : List (List Value)) := he
              simp only [List.mem_cons, List.not_mem_nil, or_false] at he2
              rcases he2 with rfl | rfl | rfl <;> exact fits_of (by decide), rdb _ _ _ (by omega) f4⟩
          · by_cases h2 : i = 2
            · subst h2; rw [haq]; exact ⟨rfl, by show (1 : Nat) ≤ _; omega, fun e he => by
                have he2 : e ∈ ([[.string ⟨#[122]⟩, .string ⟨#[115]⟩]] : List (List Value)) := he
                simp only [List.mem_singleton] at he2; subst he2; exact fits_of (by decide), rdb _ _ _ (by omega) f2⟩
            · by_cases h3 : i = 3
              · subst h3; rw [haq]
                refine ⟨by show k = _; rw [hk3]; rfl, by show k ≤ _; omega, fun e he => ?_, ?_⟩
                · have he2 : e ∈ ([[.string ⟨#[98, 49]⟩, .string ⟨#[122]⟩, .int .i64 1, .int .i64 0, .int .i64 0, .int .i64 0, .int .i64 0, .bool false], [.string ⟨#[98, 50]⟩, .string ⟨#[122]⟩, .int .i64 1, .int .i64 0, .int .i64 0, .int .i64 0, .int .i64 0, .bool false], [.string ⟨#[98, 51]⟩, .string ⟨#[122]⟩, .int .i64 1, .int .i64 0, .int .i64 0, .int .i64 0, .int .i64 0, .bool false]] : List (List Value)) := he
                  simp only [List.mem_cons, List.not_mem_nil, or_false] at he2
                  rcases he2 with rfl | rfl | rfl <;> exact fits_of (by decide)
                · have h9 := Rd.of_own ho8
                  rw [hk3] at h9
                  exact h9
              · by_cases h4 : i = 4
                · subst h4; rw [haq]; exact ⟨rfl, by show (3 : Nat) ≤ _; omega, fun e he => by
                    have he2 : e ∈ ([[.string ⟨#[98, 49]⟩, .string ⟨#[110, 117, 116]⟩, .string ⟨#[98]⟩, .int .i64 1, .int .i64 4, .int .i64 0], [.string ⟨#[98, 50]⟩, .string ⟨#[110, 117, 116]⟩, .string ⟨#[97]⟩, .int .i64 1, .int .i64 5, .int .i64 0], [.string ⟨#[98, 51]⟩, .string ⟨#[110, 117, 116]⟩, .string ⟨#[99]⟩, .int .i64 1, .int .i64 3, .int .i64 2]] : List (List Value)) := he
                    simp only [List.mem_cons, List.not_mem_nil, or_false] at he2
                    rcases he2 with rfl | rfl | rfl <;> exact fits_of (by decide), rdb _ _ _ (by omega) f5⟩
                · have e : exL i = [] := by unfold exL; rw [if_neg h0, if_neg h1, if_neg h2, if_neg h3, if_neg h4]
                  rw [e, haq]
                  simp only [h0, h1, h2, h3, h4, if_false]
                  exact ⟨rfl, by omega, fun e he => by simp at he, Rd.none_⟩)
      have hcap := own_cap ho8
      have hmax := own_max ho8
      have HCP : Hid (Caps aq) := Lib.hid (fun i hi => by
        rw [haq]
        simp only []
        repeat' split
        all_goals omega)
      have HNN : Hid (∀ i, i < 14 → aq.n i ≤ 1000) := Lib.hid (fun i hi => by
        rw [haq]
        simp only []
        repeat' split
        all_goals omega)
      have HOFF : Hid (∀ g, g < w.heap.size → Off g aq exL) := Lib.hid (fun g hg i hi hne p hp => by
        rw [haq] at hp
        simp only [] at hp
        have hA3 : ∀ p, A = some p → w.heap.size + 5 ≤ p.block := fun p hp => own_block ho8 hp
        have : p.block ≠ g := by
          repeat' split at hp
          all_goals first
            | (have := hA3 p hp; omega)
            | (injection hp with hp; subst hp; simp only []; omega)
            | cases hp
        exact this)
      have HFIN : Hid (∃ a : Hs, Ending.returned (.agg aq.cells) = .returned (.agg a.cells) ∧ HT a exL w8 ∧ Caps a ∧ (∀ i, i < 14 → a.n i ≤ 1000) ∧ Below w.heap.size w w8 ∧ (∀ g, g < w.heap.size → Off g a exL)) := Lib.hid ⟨aq, rfl, HTA.out, HCP.out, HNN.out, hb8, HOFF.out⟩
      have huh := Tryz.underlying37
      have HSH : Hid (∀ a : Hs, (Tryz.prog.info? 37).map (·.size) = some a.cells.size) := Lib.hid (fun a => by kernel_rfl)
      have H1C : Hid (∀ a : Hs, a.cells.all (·.oneCell') = true) := Lib.hid (fun a => by simp [Hs.cells, Value.oneCell'])
      have E3 := Lib.hid e3
      have E0 := Lib.hid e0
      have FF0 := Lib.hid f0
      have HW7 := Lib.hid hw7
      have HW8 := Lib.hid hw8
      have c4 : wr.cell? ⟨w.heap.size + 3, 4, none⟩ = some (.slice none 0 0) := by rw [cell_of_block hbx.out]; rfl
      have g4 : wr.frozen? ⟨w.heap.size + 3, 4, none⟩ = false := frozen_of_block hbx.out
      clear hcap hmax hk3 hs rdb f0 f1 f2 f4 f5 hb8 ho8 k8 hz8 e0 hw8 ho7 hb7 ek e4 e3 hz7 hw7 haq d3
      go_upto_region 8 with fail
      rw [← HW7.out]
      clear c4 g4
      go_wp2_with (first
        | (refine wpList_load_row rfl 37 (.tmp 1) rfl (w.heap.size + 3) rfl _ _ _ _ E3.out huh rfl (HSH.out _) ?_)
        | (refine wpList_store_row rfl 37 (.tmp 0) (.tmp 37) rfl w.heap.size aq.cells rfl rfl _ _ E0.out (HSH.out _) rfl (H1C.out _) ?_; rw [← HW8.out])
        | fail)
      exact bodyPost_ret (results_cell_row rfl _ _ w.heap.size _ _ _ _ rfl FF0.out huh rfl (HSH.out aq)) rfl HFIN.out
end Go.Proofs.YtnkhnbpopdmkhaaGreat
