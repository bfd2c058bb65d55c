/-
  THE LAW UnitsAdds, over the contracts.
-/
import Derived.Test.YtdcnkchhdmppeaaUSame
import Derived.Test.YtdcnkchhdmppeaaURow
namespace Go.Proofs.Ytdcnkchhdmppeaa.unitsAdds
set_option linter.unusedVariables false
open Go.RowKit
open Pl (It)

theorem err_any (x : It) (s : ByteArray) (n : Int) : Pl.baseE x s n = 0 ∨ Pl.baseE x s n = 10 ∨ Pl.baseE x s n = 20 := by
  unfold Pl.baseE
  split
  · simp
  · split <;> simp
theorem ok_of {x : It} {s : ByteArray} {n : Int} (h : Pl.baseE x s n = 0) : 1 ≤ n ∧ 1 ≤ Pl.factorU x s ∧ n * Pl.factorU x s ≤ 1000000000 := by
  unfold Pl.baseE at h
  have hf := Pl.factorU_cases x s
  split at h
  · cases h
  · split at h
    · cases h
    · exact ⟨by omega, by omega, by omega⟩
theorem both_ok {x : It} {s : ByteArray} {y z : Int} (hy : Pl.baseE x s y = 0) (hz : Pl.baseE x s z = 0) : ∃ a b : Int, Pl.baseU x s y = a ∧ Pl.baseU x s z = b ∧ 1 ≤ y ∧ 1 ≤ z ∧ y ≤ a ∧ a ≤ 1000000000 ∧ z ≤ b ∧ b ≤ 1000000000 ∧ (1000000000 < a + b → Pl.baseE x s (y + z) = 10) ∧ (a + b ≤ 1000000000 → Pl.baseE x s (y + z) = 0 ∧ Pl.baseU x s (y + z) = a + b) := by
  obtain ⟨y1, hf, y2⟩ := ok_of hy
  obtain ⟨z1, _, z2⟩ := ok_of hz
  have hys : y ≤ y * Pl.factorU x s := by
    have := Int.mul_le_mul_of_nonneg_left hf (by omega : 0 ≤ y)
    rwa [Int.mul_one] at this
  have hzs : z ≤ z * Pl.factorU x s := by
    have := Int.mul_le_mul_of_nonneg_left hf (by omega : 0 ≤ z)
    rwa [Int.mul_one] at this
  have hd := Int.add_mul y z (Pl.factorU x s)
  refine ⟨y * Pl.factorU x s, z * Pl.factorU x s, (Pl.baseU_ok y1 hf y2).1, (Pl.baseU_ok z1 hf z2).1, y1, z1, hys, y2, hzs, z2, fun h => ?_, fun h => ?_⟩
  · unfold Pl.baseE
    rw [if_neg (by omega), if_pos (.inr (by omega))]
  · have := Pl.baseU_ok (x := x) (s := s) (n := y + z) (by omega) hf (by omega)
    exact ⟨this.2, by rw [this.1, hd]⟩

set_option maxRecDepth 100000 in
set_option maxHeartbeats 1600000 in
theorem walk (cs : List Value) (s : ByteArray) (y z : Int) (w : World) (hf : Fits kItem cs) (hm : ∀ u ∈ cs, Mild u) (hs : s.size ≤ 140737488351232) (hy : Wf y) (hz : Wf z) :
    Calls Try.prog 5 #[.agg cs.toArray, .string s, .agg #[.int .i64 y, .int .i64 z]] w fun e w' => e = .returned (.bool true) ∧ Below w.heap.size w w' := by
  obtain ⟨x, rfl⟩ := It.of hf
  clear hf hm hs
  have HC : Hid (∀ n, Wf n → ∀ W, Calls Try.prog 8 #[.agg x.cells.toArray, .string s, .int .i64 n] W fun e w' => e = .returned (.tuple #[.int .i64 (Pl.baseU x s n), .int .i64 (Pl.baseE x s n)]) ∧ Below W.heap.size W w') := Lib.hid (fun n hn W => base_any x s n W hn.1 hn.2)
  have HY := Lib.hid hy
  have HZ := Lib.hid hz
  have hy1 := err_any x s y
  have hz1 := err_any x s z
  obtain ⟨a, ha⟩ : ∃ r, Pl.baseU x s y = r := ⟨_, rfl⟩
  obtain ⟨b, hb⟩ : ∃ r, Pl.baseU x s z = r := ⟨_, rfl⟩
  obtain ⟨ea, hea⟩ : ∃ r, Pl.baseE x s y = r := ⟨_, rfl⟩
  obtain ⟨eb, heb⟩ : ∃ r, Pl.baseE x s z = r := ⟨_, rfl⟩
  rw [hea] at hy1
  rw [heb] at hz1
  have HCY : Hid (∀ W, Calls Try.prog 8 #[.agg x.cells.toArray, .string s, .int .i64 y] W fun e w' => e = .returned (.tuple #[.int .i64 a, .int .i64 ea]) ∧ Below W.heap.size W w') := Lib.hid (fun W => by rw [← ha, ← hea]; exact HC.out y hy W)
  have HCZ : Hid (∀ W, Calls Try.prog 8 #[.agg x.cells.toArray, .string s, .int .i64 z] W fun e w' => e = .returned (.tuple #[.int .i64 b, .int .i64 eb]) ∧ Below W.heap.size W w') := Lib.hid (fun W => by rw [← hb, ← heb]; exact HC.out z hz W)
  have HBO : Hid (ea = 0 → eb = 0 → 1 ≤ y ∧ 1 ≤ z ∧ y ≤ a ∧ a ≤ 1000000000 ∧ z ≤ b ∧ b ≤ 1000000000 ∧ (1000000000 < a + b → Pl.baseE x s (y + z) = 10) ∧ (a + b ≤ 1000000000 → Pl.baseE x s (y + z) = 0 ∧ Pl.baseU x s (y + z) = a + b)) := Lib.hid (fun h1 h2 => by
    obtain ⟨a', b', e1, e2, h⟩ := both_ok (hea.trans h1) (heb.trans h2)
    rw [ha] at e1
    rw [hb] at e2
    subst e1 e2
    exact h)
  clear ha hb hea heb hy hz
  have HX0 : Hid (∀ W, Below (w.heap.size + 2) ((w.alloc (.cells x.cells.toArray 26)).alloc (.cells #[.int .i64 y, .int .i64 z] 38)) W → W.heap[w.heap.size]? = some (.cells x.cells.toArray 26 (0, 0)) ∧ W.cell? ⟨w.heap.size + 1, 0, none⟩ = some (.int .i64 y) ∧ W.cell? ⟨w.heap.size + 1, 1, none⟩ = some (.int .i64 z)) := Lib.hid (fun W hW => by
    have h0 := heap_alloc_new (w.alloc (.cells x.cells.toArray 26)) (.cells #[.int .i64 y, .int .i64 z] 38)
    rw [show (w.alloc (.cells x.cells.toArray 26)).heap.size = w.heap.size + 1 from by simp] at h0
    have h1 := (hW.block (w.heap.size + 1) (by omega)).trans h0
    exact ⟨(hW.block _ (by omega)).trans ((Below.heap_alloc _ _ _ (by simp)).trans (heap_alloc_new _ _)), by rw [cell_of_block h1]; rfl, by rw [cell_of_block h1]; rfl⟩)
  have BN : Hid (Below (w.heap.size + 2) ((w.alloc (.cells x.cells.toArray 26)).alloc (.cells #[.int .i64 y, .int .i64 z] 38)) ((w.alloc (.cells x.cells.toArray 26)).alloc (.cells #[.int .i64 y, .int .i64 z] 38))) := Lib.hid (Below.refl _ _)
  have HZ1 : Hid (w.heap.size + 2 ≤ ((w.alloc (.cells x.cells.toArray 26)).alloc (.cells #[.int .i64 y, .int .i64 z] 38)).heap.size) := Lib.hid (by simp)
  have HBA : Hid (Below w.heap.size w ((w.alloc (.cells x.cells.toArray 26)).alloc (.cells #[.int .i64 y, .int .i64 z] 38))) := Lib.hid (((Below.refl _ w).alloc (Nat.le_refl _) _).alloc (by simp) _)
  have hui := Try.underlying26
  have HSX : Hid ((Try.prog.info? 26).map (·.size) = some x.cells.toArray.size) := Lib.hid (by rw [show (Try.prog.info? 26).map (·.size) = some 14 from by kernel_rfl]; rfl)
  go_enter Try.func5, Try.ntmps5
  go_wp2_with (first
    | (refine wpList_load_row rfl 26 (.tmp 3) rfl w.heap.size rfl _ _ _ _ (HX0.out _ BN.out).1 hui rfl HSX.out ?_)
    | fail)
  refine (HCY.out _).mono ?_
  rintro e w1 ⟨rfl, hb1⟩
  have BN := Lib.hid (BN.out.trans (hb1.mono HZ1.out))
  have HS1 : Hid (w.heap.size + 2 ≤ w1.heap.size) := Lib.hid (Nat.le_trans HZ1.out BN.out.size)
  obtain ⟨_, c0, c1⟩ := HX0.out _ BN.out
  have hlt : w.heap.size + 1 < w1.heap.size := by have := HS1.out; omega
  clear hb1
  go_wp2_with (first
    | (refine wpList_load_row rfl 26 (.tmp 3) rfl w.heap.size rfl _ _ _ _ (HX0.out _ BN.out).1 hui rfl HSX.out ?_)
    | fail)
  refine (HCZ.out _).mono ?_
  rintro e w2 ⟨rfl, hb2⟩
  have BN := Lib.hid (BN.out.trans (hb2.mono HS1.out))
  have HS2 : Hid (w.heap.size + 2 ≤ w2.heap.size) := Lib.hid (Nat.le_trans HZ1.out BN.out.size)
  clear hb2 c0 c1 hlt
  obtain ⟨_, c0, c1⟩ := HX0.out _ BN.out
  have hlt : w.heap.size + 1 < w2.heap.size := by have := HS2.out; omega
  have hcase : (((ea : Int) != 0) = true) ∨ (((ea : Int) != 0) = false ∧ ((eb : Int) != 0) = true) ∨ (ea = 0 ∧ eb = 0) := by
    rcases hy1 with rfl | rfl | rfl
    · rcases hz1 with rfl | rfl | rfl
      · exact .inr (.inr ⟨rfl, rfl⟩)
      · exact .inr (.inl ⟨rfl, rfl⟩)
      · exact .inr (.inl ⟨rfl, rfl⟩)
    · exact .inl rfl
    · exact .inl rfl
  clear hy1 hz1
  rcases hcase with h1 | ⟨h1, h2⟩ | ⟨rfl, rfl⟩
  · go_wp2_with fail
    refine (awake_any _).mono ?_
    rintro e w3 ⟨rfl, hb3⟩
    have BN := Lib.hid (BN.out.trans (hb3.mono HS2.out))
    clear hb3
    go_wp2_with fail
    go_ret
    exact ⟨rfl, HBA.out.trans (BN.out.mono (by omega))⟩
  · go_wp2_with fail
    refine (awake_any _).mono ?_
    rintro e w3 ⟨rfl, hb3⟩
    have BN := Lib.hid (BN.out.trans (hb3.mono HS2.out))
    clear hb3
    go_wp2_with fail
    go_ret
    exact ⟨rfl, HBA.out.trans (BN.out.mono (by omega))⟩
  · obtain ⟨y1, z1, ya, a1, zb, b1, hov, hin⟩ := HBO.out rfl rfl
    have HWF : Hid (Wf (y + z)) := Lib.hid ⟨by omega, by omega⟩
    by_cases hab : 1000000000 < a + b
    · have HCB : Hid (∀ W, Calls Try.prog 8 #[.agg x.cells.toArray, .string s, .int .i64 (y + z)] W fun e w' => (∃ q : Int, e = .returned (.tuple #[.int .i64 q, .int .i64 10])) ∧ Below W.heap.size W w') := Lib.hid (fun W => (HC.out _ HWF.out W).mono fun e w' ⟨h1, h2⟩ => ⟨⟨Pl.baseU x s (y + z), by rw [h1, hov hab]; rfl⟩, h2⟩)
      clear hov hin
      go_wp2_with (first
        | (refine wpList_load_row rfl 26 (.tmp 3) rfl w.heap.size rfl _ _ _ _ (HX0.out _ BN.out).1 hui rfl HSX.out ?_)
        | fail)
      refine (HCB.out _).mono ?_
      rintro e w3 ⟨⟨q, rfl⟩, hb3⟩
      have BN := Lib.hid (BN.out.trans (hb3.mono HS2.out))
      have HS3 : Hid (w.heap.size + 2 ≤ w3.heap.size) := Lib.hid (Nat.le_trans HZ1.out BN.out.size)
      clear hb3 c0 c1 hlt
      go_wp2_with fail
      refine (awake_any _).mono ?_
      rintro e w4 ⟨rfl, hb4⟩
      have BN := Lib.hid (BN.out.trans (hb4.mono HS3.out))
      clear hb4
      go_wp2_with fail
      go_ret
      exact ⟨rfl, HBA.out.trans (BN.out.mono (by omega))⟩
    · have HCB : Hid (∀ W, Calls Try.prog 8 #[.agg x.cells.toArray, .string s, .int .i64 (y + z)] W fun e w' => e = .returned (.tuple #[.int .i64 (a + b), .int .i64 0]) ∧ Below W.heap.size W w') := Lib.hid (fun W => (HC.out _ HWF.out W).mono fun e w' ⟨h1, h2⟩ => ⟨by rw [h1, (hin (by omega)).1, (hin (by omega)).2]; rfl, h2⟩)
      clear hov hin
      go_wp2_with (first
        | (refine wpList_load_row rfl 26 (.tmp 3) rfl w.heap.size rfl _ _ _ _ (HX0.out _ BN.out).1 hui rfl HSX.out ?_)
        | fail)
      refine (HCB.out _).mono ?_
      rintro e w3 ⟨rfl, hb3⟩
      have BN := Lib.hid (BN.out.trans (hb3.mono HS2.out))
      have HS3 : Hid (w.heap.size + 2 ≤ w3.heap.size) := Lib.hid (Nat.le_trans HZ1.out BN.out.size)
      clear hb3 c0 c1 hlt
      obtain ⟨_, c0, c1⟩ := HX0.out _ BN.out
      have hlt : w.heap.size + 1 < w3.heap.size := by have := HS3.out; omega
      go_wp2_with fail
      refine (awake_any _).mono ?_
      rintro e w4 ⟨rfl, hb4⟩
      have BN := Lib.hid (BN.out.trans (hb4.mono HS3.out))
      clear hb4
      go_wp2_with fail
      go_ret
      exact ⟨rfl, HBA.out.trans (BN.out.mono (by omega))⟩
end Go.Proofs.Ytdcnkchhdmppeaa.unitsAdds
