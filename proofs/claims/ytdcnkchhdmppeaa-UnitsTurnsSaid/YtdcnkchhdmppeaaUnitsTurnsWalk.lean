/-
  THE LAW UnitsTurns, over the contracts. (By wip/tools/gen_u8.py.)
-/
import Derived.Test.YtdcnkchhdmppeaaUSame
import Derived.Test.YtdcnkchhdmppeaaURow
import Derived.Deep.RegionHeld3
namespace Go.Proofs.Ytdcnkchhdmppeaa.unitsTurns
set_option linter.unusedVariables false
open Go.RowKit
open Pl (It)

theorem range_row {w : World} {b : Nat} {cs : List Value} {t : TypeId} (h : w.heap[b]? = some (.cells cs.toArray t (0, 0))) : w.rangeAt b 0 cs := fun i v hv => by rw [cell_of_block h, List.getElem?_toArray, Nat.zero_add]; exact hv
set_option maxRecDepth 100000 in
set_option maxHeartbeats 1600000 in
theorem walk (cs : List Value) (s : ByteArray) (n : Int) (w : World) (hf : Fits kItem cs) (hm : ∀ u ∈ cs, Mild u) (hs : s.size ≤ 140737488351232) (hn : Wf n) :
    Calls Try.prog 3 #[.agg cs.toArray, .string s, .int .i64 n] w fun e w' => e = .returned (.bool true) ∧ Below w.heap.size w w' := by
  obtain ⟨x, rfl⟩ := It.of hf
  clear hf hm hs
  have HC : Hid (∀ W, Calls Try.prog 8 #[.agg x.cells.toArray, .string s, .int .i64 n] W fun e w' => e = .returned (.tuple #[.int .i64 (Pl.baseU x s n), .int .i64 (Pl.baseE x s n)]) ∧ Below W.heap.size W w') := Lib.hid (fun W => base_any x s n W hn.1 hn.2)
  have HR : Hid (∀ W, Calls Try.prog 9 #[.agg x.cells.toArray, .string s, .int .i64 n] W fun e w' => e = .returned (.tuple #[.int .i64 (Pl.baseU x s n), .int .i64 (Pl.baseE x s n)]) ∧ Below W.heap.size W w') := Lib.hid (fun W => rbase_any x s n W hn.1 hn.2)
  obtain ⟨r, hr⟩ : ∃ r, Pl.baseU x s n = r := ⟨_, rfl⟩
  obtain ⟨er, her⟩ : ∃ r : Int, (Pl.baseE x s n : Int) = r := ⟨_, rfl⟩
  rw [hr, her] at HC HR
  clear hr her
  have HSC : Hid (∀ W, Calls Try.prog 11 #[.agg x.cells.toArray, .int .i64 n] W (NewP W (Pl.splitU x n))) := Lib.hid (fun W => split_any x n W hn.1 hn.2)
  have HSR : Hid (∀ W, Calls Try.prog 12 #[.agg x.cells.toArray, .int .i64 n] W (NewP W (Pl.splitU x n))) := Lib.hid (fun W => rsplit_any x n W hn.1 hn.2)
  have HLE : Hid ((Pl.splitU x n).length ≤ 1000000) := Lib.hid (Nat.le_trans (split_len x n) (by decide))
  obtain ⟨l, hl⟩ : ∃ l, Pl.splitU x n = l := ⟨_, rfl⟩
  rw [hl] at HSC HSR HLE
  clear hl hn
  have HBA : Hid (Below w.heap.size w (w.alloc (.cells x.cells.toArray 26))) := Lib.hid ((Below.refl _ w).alloc (Nat.le_refl _) _)
  have HX0 : Hid ((w.alloc (.cells x.cells.toArray 26)).heap[w.heap.size]? = some (.cells x.cells.toArray 26 (0, 0))) := Lib.hid (heap_alloc_new _ _)
  have HST : Hid (∀ W, Below (w.heap.size + 1) (w.alloc (.cells x.cells.toArray 26)) W → W.rangeAt w.heap.size 0 x.cells) := Lib.hid (fun W hW => range_row ((hW.block _ (by omega)).trans HX0.out))
  have BN : Hid (Below (w.heap.size + 1) (w.alloc (.cells x.cells.toArray 26)) (w.alloc (.cells x.cells.toArray 26))) := Lib.hid (Below.refl _ _)
  have HZ1 : Hid (w.heap.size + 1 ≤ (w.alloc (.cells x.cells.toArray 26)).heap.size) := Lib.hid (by simp)
  have hui := Try.underlying26
  have HSX : Hid ((Try.prog.info? 26).map (·.size) = some x.cells.toArray.size) := Lib.hid (by rw [show (Try.prog.info? 26).map (·.size) = some 14 from by kernel_rfl]; rfl)
  have HSL : Hid ((Try.prog.info? 26).map (·.size) = some x.cells.length) := HSX
  go_enter Try.func3, Try.ntmps3
  go_wp2_with (first
    | (refine wpList_load_row rfl 26 (.tmp 3) rfl w.heap.size rfl _ _ _ _ HX0.out hui rfl HSX.out ?_)
    | fail)
  refine (HC.out _).mono ?_
  rintro e w1 ⟨rfl, hb1⟩
  have HX1 := Lib.hid ((hb1.block _ (lt_of_block HX0.out)).trans HX0.out)
  have B1 : Hid (Below (w.heap.size + 1) (w.alloc (.cells x.cells.toArray 26)) w1) := Lib.hid (hb1.mono HZ1.out)
  clear hb1
  go_wp2_with (first
    | (refine wpList_load_row rfl 26 (.tmp 3) rfl w.heap.size rfl _ _ _ _ HX1.out hui rfl HSX.out ?_)
    | fail)
  refine (HR.out _).mono ?_
  rintro e w2 ⟨rfl, hb2⟩
  have BN : Hid (Below (w.heap.size + 1) (w.alloc (.cells x.cells.toArray 26)) w2) := Lib.hid (B1.out.trans (hb2.mono (Nat.le_trans HZ1.out B1.out.size)))
  clear hb2 B1
  go_wp2_with fail
  have BN := Lib.hid BN.out.drew
  have ST0 := HST.out _ BN.out
  refine wp_region_noPanic ?_
  refine wp_region_held_drew (S := (fun w' => w'.rangeAt w.heap.size 0 x.cells)) (by kernel_rfl) ST0 (fun dd0 => ?_)
  refine wpAnyH_take (i := 0) (v := .int .i64 r) rfl (by kernel_rfl) (by kernel_rfl) (by kernel_rfl) (fun _ _ _ h => h.elim) (.inl ⟨by kernel_rfl, fun w hw => by clear hw; go_simp⟩) (by assumption) ?_
  (try simp only [Act.put, List.getElem_toArray, List.getElem_cons_zero, List.setIfInBounds_toArray, List.set_cons_zero, List.set_cons_succ])
  refine wpAnyH_take (i := 1) (v := .int .i64 r) rfl (by kernel_rfl) (by kernel_rfl) (by kernel_rfl) (fun _ _ _ h => h.elim) (.inl ⟨by kernel_rfl, fun w hw => by clear hw; go_simp⟩) (by assumption) ?_
  (try simp only [Act.put, List.getElem_toArray, List.getElem_cons_succ, List.getElem_cons_zero, List.setIfInBounds_toArray, List.set_cons_zero, List.set_cons_succ])
  refine wpAnyH_take (i := 2) (v := .bool true) rfl (by kernel_rfl) (by kernel_rfl) (by kernel_rfl) (fun _ _ _ h => h.elim) (.inl ⟨by kernel_rfl, fun w hw => by clear hw; go_simp⟩) (by assumption) ?_
  (try simp only [Act.put, List.getElem_toArray, List.getElem_cons_succ, List.getElem_cons_zero, List.setIfInBounds_toArray, List.set_cons_zero, List.set_cons_succ])
  refine wpAnyH_take (i := 3) (v := .bool true) rfl (by kernel_rfl) (by kernel_rfl) (by kernel_rfl) (fun _ _ _ h => h.elim) (.inl ⟨by kernel_rfl, fun w hw => by clear hw; go_simp⟩) (by assumption) ?_
  (try simp only [Act.put, List.getElem_toArray, List.getElem_cons_succ, List.getElem_cons_zero, List.setIfInBounds_toArray, List.set_cons_zero, List.set_cons_succ])
  refine wpAnyH_take (i := 4) (v := .int .i64 er) rfl (by kernel_rfl) (by kernel_rfl) (by kernel_rfl) (fun _ _ _ h => h.elim) (.inl ⟨by kernel_rfl, fun w hw => by clear hw; go_simp⟩) (by assumption) ?_
  (try simp only [Act.put, List.getElem_toArray, List.getElem_cons_succ, List.getElem_cons_zero, List.setIfInBounds_toArray, List.set_cons_zero, List.set_cons_succ])
  refine wpAnyH_take (i := 5) (v := .int .i64 er) rfl (by kernel_rfl) (by kernel_rfl) (by kernel_rfl) (fun _ _ _ h => h.elim) (.inl ⟨by kernel_rfl, fun w hw => by clear hw; go_simp⟩) (by assumption) ?_
  (try simp only [Act.put, List.getElem_toArray, List.getElem_cons_succ, List.getElem_cons_zero, List.setIfInBounds_toArray, List.set_cons_zero, List.set_cons_succ])
  refine wpAnyH_take (i := 6) (v := .bool true) rfl (by kernel_rfl) (by kernel_rfl) (by kernel_rfl) (fun _ _ _ h => h.elim) (.inl ⟨by kernel_rfl, fun w hw => by clear hw; go_simp⟩) (by assumption) ?_
  (try simp only [Act.put, List.getElem_toArray, List.getElem_cons_succ, List.getElem_cons_zero, List.setIfInBounds_toArray, List.set_cons_zero, List.set_cons_succ])
  refine wpAnyH_take (i := 7) (v := .bool true) rfl (by kernel_rfl) (by kernel_rfl) (by kernel_rfl) (fun _ _ _ h => h.elim) (.inl ⟨by kernel_rfl, fun w hw => by clear hw; go_simp⟩) (by assumption) ?_
  (try simp only [Act.put, List.getElem_toArray, List.getElem_cons_succ, List.getElem_cons_zero, List.setIfInBounds_toArray, List.set_cons_zero, List.set_cons_succ])
  refine wpAnyH_take (i := 8) (v := .bool true) rfl (by kernel_rfl) (by kernel_rfl) (by kernel_rfl) (fun _ _ _ h => h.elim) (.inl ⟨by kernel_rfl, fun w hw => by clear hw; go_simp⟩) (by assumption) ?_
  (try simp only [Act.put, List.getElem_toArray, List.getElem_cons_succ, List.getElem_cons_zero, List.setIfInBounds_toArray, List.set_cons_zero, List.set_cons_succ])
  refine wpAnyH_take (i := 9) (v := .agg x.cells.toArray) rfl (by kernel_rfl) (by kernel_rfl) (by kernel_rfl) (fun _ _ _ h => h.elim) (yieldsIf_load_mid (by kernel_rfl) 26 (.tmp 3) rfl w.heap.size 0 rfl x.cells _ (fun w h => h) hui rfl HSL.out) (by assumption) ?_
  (try simp only [Act.put, List.getElem_toArray, List.getElem_cons_succ, List.getElem_cons_zero, List.setIfInBounds_toArray, List.set_cons_zero, List.set_cons_succ])
  refine wpAnyH_take (i := 10) (v := .int .i64 n) rfl (by kernel_rfl) (by kernel_rfl) (by kernel_rfl) (fun _ _ _ h => h.elim) (.inl ⟨by kernel_rfl, fun w hw => by clear hw; go_simp⟩) (by assumption) ?_
  (try simp only [Act.put, List.getElem_toArray, List.getElem_cons_succ, List.getElem_cons_zero, List.setIfInBounds_toArray, List.set_cons_zero, List.set_cons_succ])
  refine wpAnyH_take (i := 12) (v := .agg x.cells.toArray) rfl (by kernel_rfl) (by kernel_rfl) (by kernel_rfl) (fun _ _ _ h => h.elim) (yieldsIf_load_mid (by kernel_rfl) 26 (.tmp 3) rfl w.heap.size 0 rfl x.cells _ (fun w h => h) hui rfl HSL.out) (by assumption) ?_
  (try simp only [Act.put, List.getElem_toArray, List.getElem_cons_succ, List.getElem_cons_zero, List.setIfInBounds_toArray, List.set_cons_zero, List.set_cons_succ])
  refine wpAnyH_take (i := 13) (v := .int .i64 n) rfl (by kernel_rfl) (by kernel_rfl) (by kernel_rfl) (fun _ _ _ h => h.elim) (.inl ⟨by kernel_rfl, fun w hw => by clear hw; go_simp⟩) (by assumption) ?_
  (try simp only [Act.put, List.getElem_toArray, List.getElem_cons_succ, List.getElem_cons_zero, List.setIfInBounds_toArray, List.set_cons_zero, List.set_cons_succ])
  refine wpAnyH_ready (rs := [11]) (by kernel_rfl) (by simp) ?_
  refine AllReadyH.cons rfl (fun K' hK => ?_) AllReadyH.nil
  go_simp
  refine (HSC.out _).mono ?_
  rintro e wn ⟨A1, n1, c1, hn1, rfl, ho1, hbn⟩
  have HO1 := Lib.hid ho1
  have HN1 := Lib.hid hn1
  have BN := Lib.hid (BN.out.trans (hbn.mono (Nat.le_trans HZ1.out BN.out.size)))
  clear hbn ho1 hn1
  refine hK.out _ _ (HST.out _ BN.out) (fun _ => ?_)
  clear hK K'
  (try simp only [Act.put, List.getElem_toArray, List.getElem_cons_succ, List.getElem_cons_zero, List.setIfInBounds_toArray, List.set_cons_zero, List.set_cons_succ])
  refine wpAnyH_ready (rs := [14]) (by kernel_rfl) (by simp) ?_
  refine AllReadyH.cons rfl (fun K' hK => ?_) AllReadyH.nil
  go_simp
  refine (HSR.out _).mono ?_
  rintro e wn ⟨A2, n2, c2, hn2, rfl, ho2, hbn⟩
  have HO1 := Lib.hid (own_below HO1.out hbn)
  have HO2 := Lib.hid ho2
  have HN2 := Lib.hid hn2
  have BN := Lib.hid (BN.out.trans (hbn.mono (Nat.le_trans HZ1.out BN.out.size)))
  clear hbn ho2 hn2
  refine hK.out _ _ (HST.out _ BN.out) (fun _ => ?_)
  clear hK K'
  (try simp only [Act.put, List.getElem_toArray, List.getElem_cons_succ, List.getElem_cons_zero, List.setIfInBounds_toArray, List.set_cons_zero, List.set_cons_succ])
  refine wpAnyH_ready (rs := [15]) (by kernel_rfl) (by simp) ?_
  refine AllReadyH.cons rfl (fun K' hK => ?_) AllReadyH.nil
  go_simp
  refine (pairs_same A1 A2 n1 c1 n2 c2 _ _ l _ HN1.out HN2.out (by rw [HN1.out]; exact HLE.out) HO1.out HO2.out).mono ?_
  rintro e wn ⟨rfl, hbn⟩
  have BN := Lib.hid (BN.out.trans (hbn.mono (Nat.le_trans HZ1.out BN.out.size)))
  clear hbn
  refine hK.out _ _ (HST.out _ BN.out) (fun _ => ?_)
  clear hK K'
  (try simp only [Act.put, List.getElem_toArray, List.getElem_cons_succ, List.getElem_cons_zero, List.setIfInBounds_toArray, List.set_cons_zero, List.set_cons_succ])
  refine wpAnyH_take (i := 16) (v := .bool true) rfl (by kernel_rfl) (by kernel_rfl) (by kernel_rfl) (fun _ _ _ h => h.elim) (.inl ⟨by kernel_rfl, fun w hw => by clear hw; go_simp⟩) (by assumption) ?_
  (try simp only [Act.put, List.getElem_toArray, List.getElem_cons_succ, List.getElem_cons_zero, List.setIfInBounds_toArray, List.set_cons_zero, List.set_cons_succ])
  refine wpAnyH_take (i := 17) (v := .bool true) rfl (by kernel_rfl) (by kernel_rfl) (by kernel_rfl) (fun _ _ _ h => h.elim) (.inl ⟨by kernel_rfl, fun w hw => by clear hw; go_simp⟩) (by assumption) ?_
  (try simp only [Act.put, List.getElem_toArray, List.getElem_cons_succ, List.getElem_cons_zero, List.setIfInBounds_toArray, List.set_cons_zero, List.set_cons_succ])
  refine wpAnyH_ready (rs := [18]) (by kernel_rfl) (by simp) ?_
  refine AllReadyH.cons rfl (fun K' hK => ?_) AllReadyH.nil
  go_simp
  refine (awake_any _).mono ?_
  rintro e wn ⟨rfl, hbn⟩
  have BN := Lib.hid (BN.out.trans (hbn.mono (Nat.le_trans HZ1.out BN.out.size)))
  clear hbn
  refine hK.out _ _ (HST.out _ BN.out) (fun _ => ?_)
  clear hK K'
  (try simp only [Act.put, List.getElem_toArray, List.getElem_cons_succ, List.getElem_cons_zero, List.setIfInBounds_toArray, List.set_cons_zero, List.set_cons_succ])
  refine wpAnyH_take (i := 19) (v := .bool true) rfl (by kernel_rfl) (by kernel_rfl) (by kernel_rfl) (fun _ _ _ h => h.elim) (.inl ⟨by kernel_rfl, fun w hw => by clear hw; go_simp⟩) (by assumption) ?_
  (try simp only [Act.put, List.getElem_toArray, List.getElem_cons_succ, List.getElem_cons_zero, List.setIfInBounds_toArray, List.set_cons_zero, List.set_cons_succ])
  refine wpAnyH_take (i := 20) (v := .bool true) rfl (by kernel_rfl) (by kernel_rfl) (by kernel_rfl) (fun _ _ _ h => h.elim) (.inl ⟨by kernel_rfl, fun w hw => by clear hw; go_simp⟩) (by assumption) ?_
  (try simp only [Act.put, List.getElem_toArray, List.getElem_cons_succ, List.getElem_cons_zero, List.setIfInBounds_toArray, List.set_cons_zero, List.set_cons_succ])
  refine wpAnyH_done (by kernel_rfl) ?_ _
  refine NoPanic.normal ?_
  clear ST0
  go_wp2_with fail
  go_ret
  exact ⟨rfl, HBA.out.trans (BN.out.mono (by omega))⟩
end Go.Proofs.Ytdcnkchhdmppeaa.unitsTurns
