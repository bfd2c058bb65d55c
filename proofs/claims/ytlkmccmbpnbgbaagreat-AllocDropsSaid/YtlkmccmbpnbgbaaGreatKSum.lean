/-
 CONTRACTS of the code's and of the reference's Claimed. (By wip/tools/gen_acode.py.)
-/
import Derived.Test.YtlkmccmbpnbgbaaGreatAFacts
import Derived.Test.YtlkmccmbpnbgbaaGreatHHouse
import Derived.Test.YtlkmccmbpnbgbaaGreatGT
import Derived.Test.YtlkmccmbpnbgbaaGreatJHead
import Derived.Deep.CutRange
import Derived.BigQuiet
namespace Go.Proofs.YtlkmccmbpnbgbaaGreat
set_option linter.unusedVariables false
open Go.RowKit
open Pl (firstG firstG_none firstG_some findG overG putG dropG It)

/-- A claim at its place. -/
theorem claim_at {h : Hs} {L : Nat → List (List Value)} {w : World} (hh : HT h L w) {k : Nat} (hk : k < (L 8).length) : ∃ b off, h.A 8 = some ⟨b, off, none⟩ ∧ b < w.heap.size ∧ w.rangeAt b (off + k * 8) (clOf (L 8)[k]).cells := by
 obtain ⟨b, off, hA, hb, hc⟩ := (hh 8 (by decide)).2.2.2.thing (hh 8 (by decide)).2.2.1 (by decide) hk
 have := hc k hk
 rw [show (kOf 8).length = 8 from rfl] at this
 exact ⟨b, off, hA, hb, by rw [← cl_cells ((hh 8 (by decide)).2.2.1 _ (List.getElem_mem hk))]; exact this⟩
set_option maxRecDepth 100000 in
set_option maxHeartbeats 3200000 in
theorem cclaimed (h : Hs) (L : Nat → List (List Value)) (s : ByteArray) (n : Int) (w : World) (hh : HT h L w) :
 Calls Tryz.prog 16 #[.agg h.cells, .string s, .int .i64 n] w fun e w' => e = .returned (.int .i64 (claimedZ (L 8) s n)) ∧ Below w.heap.size w w' := by
 have HHT := Lib.hid hh
 have hn9 := (hh 8 (by decide)).2.1
 obtain ⟨m, hmm⟩ : ∃ m, h.n 8 = m := ⟨_, rfl⟩
 have HNM : Hid (m = (L 8).length) := Lib.hid (by rw [← hmm]; exact (hh 8 (by decide)).1)
 rw [hmm] at hn9
 have HMM := Lib.hid hmm
 obtain ⟨r, hr⟩ : ∃ r, claimedZ (L 8) s n = r := ⟨_, rfl⟩
 rw [hr]
 have HR := Lib.hid hr
 clear hr hmm
 obtain ⟨W0, hW0⟩ : ∃ W0, W0 = (w.alloc (.cells h.cells 37)) := ⟨_, rfl⟩
 have hb0 : Below w.heap.size w W0 := by rw [hW0]; exact (Below.refl _ _).alloc (Nat.le_refl _) _
 have hs0 : W0.heap.size = w.heap.size + 1 := by rw [hW0]; simp
 have HH : Hid (∀ W, Below W0.heap.size W0 W → W.heap[w.heap.size]? = some (.cells h.cells 37 (0, 0))) := Lib.hid (fun W hW => (hW.block _ (by omega)).trans (by
  rw [hW0]
  have hq := heap_alloc_new w (.cells h.cells 37)
  exact (by simpa using hq)))
 have HBW : Hid (∀ W, Below W0.heap.size W0 W → Below w.heap.size w W ∧ w.heap.size + 1 ≤ W.heap.size) := Lib.hid (fun W hW => ⟨hb0.trans (hW.mono (by omega)), by have := hW.size; omega⟩)
 have huh := Tryz.underlying37
 have HSH : Hid (∀ a : Hs, (Tryz.prog.info? 37).map (·.size) = some a.cells.size) := Lib.hid (fun a => by kernel_rfl)
 have HL8 : Hid (∀ W, Below W0.heap.size W0 W → W.cell? ⟨w.heap.size, 8, none⟩ = some (.slice (h.A 8) m (h.c 8)) ∧ w.heap.size < W.heap.size) := Lib.hid (fun W hW => ⟨by rw [cell_of_block (HH.out W hW), ← HMM.out]; rfl, by have := hW.size; omega⟩)
 have HSQ8 : Hid ((Tryz.prog.info? 46).map (·.size) = some 8) := Lib.hid (by kernel_rfl)
 have huq := Tryz.underlying46
 have H0 := Lib.hid (Below.refl W0.heap.size W0)
 clear hb0 hs0 hh
 subst hW0
 go_enter Tryz.func16, Tryz.ntmps16
 obtain ⟨d8, dlt⟩ := HL8.out _ H0.out
 go_wp2_with fail
 clear d8 dlt
 go_loopw [7, 13] (fun v i wr => ∃ (k : Nat) (va : Int), k ≤ m ∧ v = .int .i64 va ∧ i = .int .i64 (k : Int) ∧ Hid (claimedZ ((L 8).take k) s n = va) ∧ Hid (Below (w.alloc (.cells h.cells 37)).heap.size (w.alloc (.cells h.cells 37)) wr)) (fun _ i _ => m - (intOf i).toNat)
 case atStart => exact ⟨0, 0, by omega, rfl, rfl, Lib.hid rfl, H0⟩
 case round =>
  obtain ⟨k, va, hk, rfl, rfl, hv, hw⟩ := hrel
  by_cases hlt : k < m
  · have hkl : k < (L 8).length := by rw [← HNM.out]; exact hlt
    have HTR : HT h L wr := HHT.out.below (HBW.out _ hw.out).1
    obtain ⟨b, off, hA, hb, r1⟩ := claim_at HTR hkl
    have hsn := claimedZ_snoc (L 8) s n hkl
    rw [hv.out] at hsn
    unfold isOf at hsn
    obtain ⟨q, hq⟩ : ∃ q, clOf (L 8)[k] = q := ⟨_, rfl⟩
    rw [hq] at r1 hsn
    obtain ⟨yo, yn, yb, yi, yl, ys, yq, yt⟩ := q
    unfold Cl.cells at r1
    simp only [] at hsn r1
    have HRE : Hid (wr.rangeAt b (off + k * 8) [.string yo, .int .i64 yn, .string yb, .string yi, .string yl, .int .i64 ys, .int .i64 yq, .int .i64 yt]) := Lib.hid r1
    have HB1 := Lib.hid (hw.out.alloc hw.out.size (.cells #[.string yo, .int .i64 yn, .string yb, .string yi, .string yl, .int .i64 ys, .int .i64 yq, .int .i64 yt] 46))
    have HSN := Lib.hid hsn
    have h1 : (0 : Int) ≤ (k : Int) := by omega
    have h2 : (k : Int) < (m : Int) := by omega
    rw [hA]
    clear r1 hq hsn hkl HTR hA hb
    cases e1 : Pl.eqv yo s with
    | false =>
     have f1 : (yo.toList == s.toList) = false := e1
     have E1 := Lib.hid e1
     clear e1
     have HV : Hid (claimedZ ((L 8).take (k + 1)) s n = va) := Lib.hid (by rw [HSN.out, E1.out]; simp)
     go_wp2_with (first
      | (refine wpList_load_mid rfl 46 (.tmp 15) rfl b (off + k * 8) rfl [.string yo, .int .i64 yn, .string yb, .string yi, .string yl, .int .i64 ys, .int .i64 yq, .int .i64 yt] _ HRE.out huq rfl HSQ8.out ?_)
      | fail)
     go_roundw
     case rel => exact ⟨k + 1, va, by omega, rfl, by go_num, HV, HB1⟩
     case measure => simp [intOf]; omega
    | true =>
     have f1 : (yo.toList == s.toList) = true := e1
     have E1 := Lib.hid e1
     clear e1
     by_cases e2 : yn = n
     · have f2 : (yn == n) = true := by simpa using e2
       have E2 : Hid (decide (yn = n) = true) := Lib.hid (by simpa using e2)
       clear e2
       have HV : Hid (claimedZ ((L 8).take (k + 1)) s n = (wrap64 (va + yq))) := Lib.hid (by rw [HSN.out, E1.out, E2.out]; simp)
       go_wp2_with (first
        | (refine wpList_load_mid rfl 46 (.tmp 15) rfl b (off + k * 8) rfl [.string yo, .int .i64 yn, .string yb, .string yi, .string yl, .int .i64 ys, .int .i64 yq, .int .i64 yt] _ HRE.out huq rfl HSQ8.out ?_)
        | fail)
       go_roundw
       case rel => exact ⟨k + 1, (wrap64 (va + yq)), by omega, rfl, by go_num, HV, HB1⟩
       case measure => simp [intOf]; omega
     · have f2 : (yn == n) = false := by simpa using e2
       have E2 : Hid (decide (yn = n) = false) := Lib.hid (by simpa using e2)
       clear e2
       have HV : Hid (claimedZ ((L 8).take (k + 1)) s n = va) := Lib.hid (by rw [HSN.out, E1.out, E2.out]; simp)
       go_wp2_with (first
        | (refine wpList_load_mid rfl 46 (.tmp 15) rfl b (off + k * 8) rfl [.string yo, .int .i64 yn, .string yb, .string yi, .string yl, .int .i64 ys, .int .i64 yq, .int .i64 yt] _ HRE.out huq rfl HSQ8.out ?_)
        | fail)
       go_roundw
       case rel => exact ⟨k + 1, va, by omega, rfl, by go_num, HV, HB1⟩
       case measure => simp [intOf]; omega
  · have hkm : k = m := by omega
    have HV : Hid (r = va) := Lib.hid (by have := hv.out; rw [List.take_of_length_le (by rw [← HNM.out]; omega), HR.out] at this; exact this)
    go_wp2_with fail
    go_ret
    exact ⟨by rw [HV.out]; rfl, (HBW.out _ hw.out).1⟩
set_option maxRecDepth 100000 in
set_option maxHeartbeats 3200000 in
theorem rclaimed (h : Hs) (L : Nat → List (List Value)) (s : ByteArray) (n : Int) (w : World) (hh : HT h L w) :
 Calls Tryz.prog 17 #[.agg h.cells, .string s, .int .i64 n] w fun e w' => e = .returned (.int .i64 (claimedZ (L 8) s n)) ∧ Below w.heap.size w w' := by
 have HHT := Lib.hid hh
 have hn9 := (hh 8 (by decide)).2.1
 obtain ⟨m, hmm⟩ : ∃ m, h.n 8 = m := ⟨_, rfl⟩
 have HNM : Hid (m = (L 8).length) := Lib.hid (by rw [← hmm]; exact (hh 8 (by decide)).1)
 rw [hmm] at hn9
 have HMM := Lib.hid hmm
 obtain ⟨r, hr⟩ : ∃ r, claimedZ (L 8) s n = r := ⟨_, rfl⟩
 rw [hr]
 have HR := Lib.hid hr
 clear hr hmm
 obtain ⟨W0, hW0⟩ : ∃ W0, W0 = (w.alloc (.cells h.cells 37)) := ⟨_, rfl⟩
 have hb0 : Below w.heap.size w W0 := by rw [hW0]; exact (Below.refl _ _).alloc (Nat.le_refl _) _
 have hs0 : W0.heap.size = w.heap.size + 1 := by rw [hW0]; simp
 have HH : Hid (∀ W, Below W0.heap.size W0 W → W.heap[w.heap.size]? = some (.cells h.cells 37 (0, 0))) := Lib.hid (fun W hW => (hW.block _ (by omega)).trans (by
  rw [hW0]
  have hq := heap_alloc_new w (.cells h.cells 37)
  exact (by simpa using hq)))
 have HBW : Hid (∀ W, Below W0.heap.size W0 W → Below w.heap.size w W ∧ w.heap.size + 1 ≤ W.heap.size) := Lib.hid (fun W hW => ⟨hb0.trans (hW.mono (by omega)), by have := hW.size; omega⟩)
 have huh := Tryz.underlying37
 have HSH : Hid (∀ a : Hs, (Tryz.prog.info? 37).map (·.size) = some a.cells.size) := Lib.hid (fun a => by kernel_rfl)
 have HL8 : Hid (∀ W, Below W0.heap.size W0 W → W.cell? ⟨w.heap.size, 8, none⟩ = some (.slice (h.A 8) m (h.c 8)) ∧ w.heap.size < W.heap.size) := Lib.hid (fun W hW => ⟨by rw [cell_of_block (HH.out W hW), ← HMM.out]; rfl, by have := hW.size; omega⟩)
 have HSQ8 : Hid ((Tryz.prog.info? 46).map (·.size) = some 8) := Lib.hid (by kernel_rfl)
 have huq := Tryz.underlying46
 have H0 := Lib.hid (Below.refl W0.heap.size W0)
 clear hb0 hs0 hh
 subst hW0
 go_enter Tryz.func17, Tryz.ntmps17
 go_wp2_with fail
 go_loopw [7, 8] (fun v i wr => ∃ (k : Nat) (va : Int), k ≤ m ∧ v = .int .i64 va ∧ i = .int .i64 (k : Int) ∧ Hid (claimedZ ((L 8).take k) s n = va) ∧ Hid (Below (w.alloc (.cells h.cells 37)).heap.size (w.alloc (.cells h.cells 37)) wr)) (fun _ i _ => m - (intOf i).toNat)
 case atStart => exact ⟨0, 0, by omega, rfl, rfl, Lib.hid rfl, H0⟩
 case round =>
  obtain ⟨k, va, hk, rfl, rfl, hv, hw⟩ := hrel
  obtain ⟨d8, dlt⟩ := HL8.out _ hw.out
  by_cases hlt : k < m
  · have hkl : k < (L 8).length := by rw [← HNM.out]; exact hlt
    have HTR : HT h L wr := HHT.out.below (HBW.out _ hw.out).1
    obtain ⟨b, off, hA, hb, r1⟩ := claim_at HTR hkl
    have hsn := claimedZ_snoc (L 8) s n hkl
    rw [hv.out] at hsn
    unfold isOf at hsn
    obtain ⟨q, hq⟩ : ∃ q, clOf (L 8)[k] = q := ⟨_, rfl⟩
    rw [hq] at r1 hsn
    obtain ⟨yo, yn, yb, yi, yl, ys, yq, yt⟩ := q
    unfold Cl.cells at r1
    simp only [] at hsn r1
    have z0 : wr.cell? ⟨b, off + k * 8, none⟩ = some (.string yo) := by have := r1 0 _ rfl; simpa using this
    have z1 : wr.cell? ⟨b, off + k * 8 + 1, none⟩ = some (.int .i64 yn) := r1 1 _ rfl
    have z6 : wr.cell? ⟨b, off + k * 8 + 6, none⟩ = some (.int .i64 yq) := r1 6 _ rfl
    have HB1 := hw
    rw [hA] at d8
    have HSN := Lib.hid hsn
    have h1 : (0 : Int) ≤ (k : Int) := by omega
    have h2 : (k : Int) < (m : Int) := by omega
    clear r1 hq hsn hkl HTR hA
    cases e1 : Pl.eqv yo s with
    | false =>
     have f1 : (yo.toList == s.toList) = false := e1
     have E1 := Lib.hid e1
     clear e1
     have HV : Hid (claimedZ ((L 8).take (k + 1)) s n = va) := Lib.hid (by rw [HSN.out, E1.out]; simp)
     go_wp2_with fail
     go_roundw
     case rel => exact ⟨k + 1, va, by omega, rfl, by go_num, HV, HB1⟩
     case measure => simp [intOf]; omega
    | true =>
     have f1 : (yo.toList == s.toList) = true := e1
     have E1 := Lib.hid e1
     clear e1
     by_cases e2 : yn = n
     · have f2 : (yn == n) = true := by simpa using e2
       have E2 : Hid (decide (yn = n) = true) := Lib.hid (by simpa using e2)
       clear e2
       have HV : Hid (claimedZ ((L 8).take (k + 1)) s n = (wrap64 (va + yq))) := Lib.hid (by rw [HSN.out, E1.out, E2.out]; simp)
       go_wp2_with fail
       go_roundw
       case rel => exact ⟨k + 1, (wrap64 (va + yq)), by omega, rfl, by go_num, HV, HB1⟩
       case measure => simp [intOf]; omega
     · have f2 : (yn == n) = false := by simpa using e2
       have E2 : Hid (decide (yn = n) = false) := Lib.hid (by simpa using e2)
       clear e2
       have HV : Hid (claimedZ ((L 8).take (k + 1)) s n = va) := Lib.hid (by rw [HSN.out, E1.out, E2.out]; simp)
       go_wp2_with fail
       go_roundw
       case rel => exact ⟨k + 1, va, by omega, rfl, by go_num, HV, HB1⟩
       case measure => simp [intOf]; omega
  · have hkm : k = m := by omega
    have HV : Hid (r = va) := Lib.hid (by have := hv.out; rw [List.take_of_length_le (by rw [← HNM.out]; omega), HR.out] at this; exact this)
    go_wp2_with fail
    go_ret
    exact ⟨by rw [HV.out]; rfl, (HBW.out _ hw.out).1⟩
end Go.Proofs.YtlkmccmbpnbgbaaGreat
