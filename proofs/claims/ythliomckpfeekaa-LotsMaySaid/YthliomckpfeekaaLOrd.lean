/-
  CONTRACTS of the code's order of lots (as laid ahead: byItem, cmp.Or).
-/
import Derived.Test.YthliomckpfeekaaLPl
import Derived.Test.YthliomckpfeekaaHHouse
import Derived.BigQuiet
import Derived.Deep.RegionHeld3
namespace Go.Proofs.Ythliomckpfeekaa
set_option linter.unusedVariables false
open Go.RowKit
open Pl (firstG findG)

theorem or_any (A : Option Addr) (y z : Int) (c : Nat) (w : World) (hA : ∃ b, A = some ⟨b, 0, none⟩ ∧ w.heap[b]? = some (.cells #[.int .i64 y, .int .i64 z] 3 (0, 0))) : Calls Try.prog 61 #[.slice A 2 c] w fun e w' => e = .returned (.int .i64 (if y = 0 then z else y)) ∧ w' = w := by
  obtain ⟨b, rfl, hb⟩ := hA
  have c0 : w.cell? ⟨b, 0, none⟩ = some (.int .i64 y) := by rw [cell_of_block hb]; rfl
  have c1 : w.cell? ⟨b, 1, none⟩ = some (.int .i64 z) := by rw [cell_of_block hb]; rfl
  have hl : b < w.heap.size := lt_of_block hb
  clear hb
  go_enter Try.func61, Try.ntmps61
  obtain ⟨r, hr⟩ : ∃ r, (if y = 0 then z else y) = r := ⟨_, rfl⟩
  rw [hr]
  have HR := Lib.hid hr
  clear hr
  go_wp2_with fail
  go_loopw [8] (fun kv wr => ∃ k : Nat, k ≤ 2 ∧ kv = .int .i64 (k : Int) ∧ Hid (1 ≤ k → y = 0) ∧ Hid (2 ≤ k → z = 0) ∧ Hid (wr = w)) (fun kv _ => 2 - (intOf kv).toNat)
  case atStart => exact ⟨0, by omega, rfl, Lib.hid (by omega), Lib.hid (by omega), Lib.hid (by first | rfl | trivial)⟩
  case round =>
    obtain ⟨k, hk, rfl, h1, h2, hw⟩ := hrel
    obtain rfl := hw.out
    have hk3 : k = 0 ∨ k = 1 ∨ k = 2 := by omega
    rcases hk3 with rfl | rfl | rfl
    · by_cases hy : y = 0
      · have HY0 := Lib.hid hy
        go_wp2_with fail
        go_roundw
        case rel => exact ⟨1, by omega, rfl, Lib.hid (fun _ => HY0.out), Lib.hid (by omega), Lib.hid (by first | rfl | trivial)⟩
        case measure => simp [intOf]
      · have hy' : (y != 0) = true := by simpa using hy
        have HV : Hid (r = y) := Lib.hid (by rw [← HR.out, if_neg hy])
        clear hy
        go_wp2_with fail
        go_ret
        exact ⟨by rw [HV.out]; rfl, rfl⟩
    · have HY0 := Lib.hid (h1.out (by omega))
      by_cases hz : z = 0
      · have HZ0 := Lib.hid hz
        go_wp2_with fail
        go_roundw
        case rel => exact ⟨2, by omega, rfl, Lib.hid (fun _ => HY0.out), Lib.hid (fun _ => HZ0.out), Lib.hid (by first | rfl | trivial)⟩
        case measure => simp [intOf]
      · have hz' : (z != 0) = true := by simpa using hz
        have HV : Hid (r = z) := Lib.hid (by rw [← HR.out, if_pos HY0.out])
        clear hz
        go_wp2_with fail
        go_ret
        exact ⟨by rw [HV.out]; rfl, rfl⟩
    · have HV : Hid (r = 0) := Lib.hid (by rw [← HR.out, if_pos (h1.out (by omega)), h2.out (by omega)])
      go_wp2_with fail
      go_ret
      exact ⟨by rw [HV.out]; rfl, rfl⟩
set_option maxRecDepth 100000 in
theorem orderL_any (x y : List Value) (w : World) (hx : Fits kLot x) (hy : Fits kLot y) : Calls Try.prog 60 #[.agg x.toArray, .agg y.toArray] w fun e w' => e = .returned (.int .i64 (ordL x y)) ∧ Below w.heap.size w w' := by
  have hxr := lot_cells hx
  have hyr := lot_cells hy
  have HV : Hid (ordL x y = if Pl.cmp (itemL x) (itemL y) = 0 then Pl.cmp (codeL x) (codeL y) else Pl.cmp (itemL x) (itemL y)) := Lib.hid rfl
  obtain ⟨a, ha⟩ : ∃ s, itemL x = s := ⟨_, rfl⟩
  obtain ⟨b, hb⟩ : ∃ s, codeL x = s := ⟨_, rfl⟩
  obtain ⟨c, hc⟩ : ∃ s, itemL y = s := ⟨_, rfl⟩
  obtain ⟨d, hd⟩ : ∃ s, codeL y = s := ⟨_, rfl⟩
  obtain ⟨z, hz⟩ : ∃ s, expL x = s := ⟨_, rfl⟩
  obtain ⟨u, hu⟩ : ∃ s, expL y = s := ⟨_, rfl⟩
  rw [ha, hb, hc, hd] at HV
  rw [ha, hb, hz] at hxr
  rw [hc, hd, hu] at hyr
  clear ha hb hc hd hz hu hx hy
  obtain ⟨v, hv⟩ : ∃ v, ordL x y = v := ⟨_, rfl⟩
  rw [hv] at HV ⊢
  clear hv
  subst hxr hyr
  go_enter Try.func60, Try.ntmps60
  obtain ⟨W0, hW0⟩ : ∃ W0, W0 = (w.alloc (.cells #[.string a, .string b, .int .i64 z] 39)).alloc (.cells #[.string c, .string d, .int .i64 u] 39) := ⟨_, rfl⟩
  have hb0 : Below w.heap.size w W0 := by rw [hW0]; exact ((Below.refl _ _).alloc (Nat.le_refl _) _).alloc (by simp) _
  have hs0 : W0.heap.size = w.heap.size + 2 := by rw [hW0]; simp
  have HST : Hid (∀ W, Below W0.heap.size W0 W → W.cell? ⟨w.heap.size, 0, none⟩ = some (.string a) ∧ W.cell? ⟨w.heap.size, 1, none⟩ = some (.string b) ∧ W.cell? ⟨w.heap.size + 1, 0, none⟩ = some (.string c) ∧ W.cell? ⟨w.heap.size + 1, 1, none⟩ = some (.string d)) := Lib.hid (fun W hW => by
    have h1 : W.heap[w.heap.size]? = some (.cells #[.string a, .string b, .int .i64 z] 39 (0, 0)) := (hW.block _ (by omega)).trans (by rw [hW0]; exact (Below.heap_alloc _ _ _ (by simp)).trans (heap_alloc_new _ _))
    have h2 : W.heap[w.heap.size + 1]? = some (.cells #[.string c, .string d, .int .i64 u] 39 (0, 0)) := (hW.block _ (by omega)).trans (by
      rw [hW0]
      have := heap_alloc_new (w.alloc (.cells #[.string a, .string b, .int .i64 z] 39)) (.cells #[.string c, .string d, .int .i64 u] 39)
      simpa using this)
    exact ⟨by rw [cell_of_block h1]; rfl, by rw [cell_of_block h1]; rfl, by rw [cell_of_block h2]; rfl, by rw [cell_of_block h2]; rfl⟩)
  have HB0 := Lib.hid hb0
  have BN := Lib.hid ((Below.refl W0.heap.size W0).drew)
  clear hb0
  go_wp2_with fail
  rw [← hW0]
  clear hW0 hs0
  have ST0 := HST.out _ BN.out
  refine wp_region_noPanic ?_
  refine wp_region_held_drew (S := (fun W => W.cell? ⟨w.heap.size, 0, none⟩ = some (.string a) ∧ W.cell? ⟨w.heap.size, 1, none⟩ = some (.string b) ∧ W.cell? ⟨w.heap.size + 1, 0, none⟩ = some (.string c) ∧ W.cell? ⟨w.heap.size + 1, 1, none⟩ = some (.string d))) (by kernel_rfl) ST0 (fun dd0 => ?_)
  refine wpAnyH_take (i := 0) (v := .pointer (some ⟨w.heap.size, 0, none⟩)) rfl (by kernel_rfl) (by kernel_rfl) (by kernel_rfl) (fun _ _ _ h => h.elim) (.inl ⟨by kernel_rfl, fun w hw => by clear hw; go_simp⟩) (by assumption) ?_
  (try simp only [Act.put, List.getElem_toArray, List.getElem_cons_zero, List.setIfInBounds_toArray, List.set_cons_zero, List.set_cons_succ])
  refine wpAnyH_take (i := 1) (v := .string a) rfl (by kernel_rfl) (by kernel_rfl) (by kernel_rfl) (fun _ _ _ h => h.elim) (.inl ⟨by kernel_rfl, fun w hw => by obtain ⟨hc0, hc1, hc2, hc3⟩ := hw; go_simp⟩) (by assumption) ?_
  (try simp only [Act.put, List.getElem_toArray, List.getElem_cons_succ, List.getElem_cons_zero, List.setIfInBounds_toArray, List.set_cons_zero, List.set_cons_succ])
  refine wpAnyH_take (i := 2) (v := .pointer (some ⟨w.heap.size + 1, 0, none⟩)) rfl (by kernel_rfl) (by kernel_rfl) (by kernel_rfl) (fun _ _ _ h => h.elim) (.inl ⟨by kernel_rfl, fun w hw => by clear hw; go_simp⟩) (by assumption) ?_
  (try simp only [Act.put, List.getElem_toArray, List.getElem_cons_succ, List.getElem_cons_zero, List.setIfInBounds_toArray, List.set_cons_zero, List.set_cons_succ])
  refine wpAnyH_take (i := 3) (v := .string c) rfl (by kernel_rfl) (by kernel_rfl) (by kernel_rfl) (fun _ _ _ h => h.elim) (.inl ⟨by kernel_rfl, fun w hw => by obtain ⟨hc0, hc1, hc2, hc3⟩ := hw; go_simp⟩) (by assumption) ?_
  (try simp only [Act.put, List.getElem_toArray, List.getElem_cons_succ, List.getElem_cons_zero, List.setIfInBounds_toArray, List.set_cons_zero, List.set_cons_succ])
  refine wpAnyH_take (i := 5) (v := .pointer (some ⟨w.heap.size, 1, none⟩)) rfl (by kernel_rfl) (by kernel_rfl) (by kernel_rfl) (fun _ _ _ h => h.elim) (.inl ⟨by kernel_rfl, fun w hw => by clear hw; go_simp⟩) (by assumption) ?_
  (try simp only [Act.put, List.getElem_toArray, List.getElem_cons_succ, List.getElem_cons_zero, List.setIfInBounds_toArray, List.set_cons_zero, List.set_cons_succ])
  refine wpAnyH_take (i := 6) (v := .string b) rfl (by kernel_rfl) (by kernel_rfl) (by kernel_rfl) (fun _ _ _ h => h.elim) (.inl ⟨by kernel_rfl, fun w hw => by obtain ⟨hc0, hc1, hc2, hc3⟩ := hw; go_simp⟩) (by assumption) ?_
  (try simp only [Act.put, List.getElem_toArray, List.getElem_cons_succ, List.getElem_cons_zero, List.setIfInBounds_toArray, List.set_cons_zero, List.set_cons_succ])
  refine wpAnyH_take (i := 7) (v := .pointer (some ⟨w.heap.size + 1, 1, none⟩)) rfl (by kernel_rfl) (by kernel_rfl) (by kernel_rfl) (fun _ _ _ h => h.elim) (.inl ⟨by kernel_rfl, fun w hw => by clear hw; go_simp⟩) (by assumption) ?_
  (try simp only [Act.put, List.getElem_toArray, List.getElem_cons_succ, List.getElem_cons_zero, List.setIfInBounds_toArray, List.set_cons_zero, List.set_cons_succ])
  refine wpAnyH_take (i := 8) (v := .string d) rfl (by kernel_rfl) (by kernel_rfl) (by kernel_rfl) (fun _ _ _ h => h.elim) (.inl ⟨by kernel_rfl, fun w hw => by obtain ⟨hc0, hc1, hc2, hc3⟩ := hw; go_simp⟩) (by assumption) ?_
  (try simp only [Act.put, List.getElem_toArray, List.getElem_cons_succ, List.getElem_cons_zero, List.setIfInBounds_toArray, List.set_cons_zero, List.set_cons_succ])
  refine wpAnyH_ready (rs := [4]) (by kernel_rfl) (by simp) ?_
  refine AllReadyH.cons rfl (fun K' hK => ?_) AllReadyH.nil
  go_simp
  refine (compare_any a c _).mono ?_
  rintro e wn ⟨rfl, rfl⟩
  refine hK.out _ _ (HST.out _ BN.out) (fun _ => ?_)
  clear hK K'
  (try simp only [Act.put, List.getElem_toArray, List.getElem_cons_succ, List.getElem_cons_zero, List.setIfInBounds_toArray, List.set_cons_zero, List.set_cons_succ])
  refine wpAnyH_ready (rs := [9]) (by kernel_rfl) (by simp) ?_
  refine AllReadyH.cons rfl (fun K' hK => ?_) AllReadyH.nil
  go_simp
  refine (compare_any b d _).mono ?_
  rintro e wn ⟨rfl, rfl⟩
  refine hK.out _ _ (HST.out _ BN.out) (fun _ => ?_)
  clear hK K'
  (try simp only [Act.put, List.getElem_toArray, List.getElem_cons_succ, List.getElem_cons_zero, List.setIfInBounds_toArray, List.set_cons_zero, List.set_cons_succ])
  obtain ⟨p1, hp1⟩ : ∃ p, Pl.cmp a c = p := ⟨_, rfl⟩
  obtain ⟨p2, hp2⟩ : ∃ p, Pl.cmp b d = p := ⟨_, rfl⟩
  rw [hp1, hp2] at HV ⊢
  clear hp1 hp2
  refine wpAnyH_ready (rs := [10]) (by kernel_rfl) (by simp) ?_
  refine AllReadyH.cons rfl (fun K' hK => ?_) AllReadyH.nil
  go_simp
  have hnew := heap_alloc_new W0 (.cells #[.int .i64 p1, .int .i64 p2] 3)
  have BA : Hid (Below W0.heap.size W0 (W0.alloc (.cells #[.int .i64 p1, .int .i64 p2] 3)).drew) := Lib.hid (((Below.refl _ _).alloc (Nat.le_refl _) _).drew)
  have HNEW : Hid ((W0.alloc (.cells #[.int .i64 p1, .int .i64 p2] 3)).drew.heap[W0.heap.size]? = some (.cells #[.int .i64 p1, .int .i64 p2] 3 (0, 0))) := Lib.hid hnew
  clear hnew
  refine hK.out _ _ (HST.out _ BA.out) (fun _ => ?_)
  clear hK K'
  (try simp only [Act.put, List.getElem_toArray, List.getElem_cons_succ, List.getElem_cons_zero, List.setIfInBounds_toArray, List.set_cons_zero, List.set_cons_succ])
  refine wpAnyH_ready (rs := [11]) (by kernel_rfl) (by simp) ?_
  refine AllReadyH.cons rfl (fun K' hK => ?_) AllReadyH.nil
  go_simp
  refine (or_any (some ⟨W0.heap.size, 0, none⟩) p1 p2 2 _ ⟨_, rfl, HNEW.out⟩).mono ?_
  rintro e wn ⟨rfl, rfl⟩
  refine hK.out _ _ (HST.out _ BA.out) (fun _ => ?_)
  clear hK K'
  (try simp only [Act.put, List.getElem_toArray, List.getElem_cons_succ, List.getElem_cons_zero, List.setIfInBounds_toArray, List.set_cons_zero, List.set_cons_succ])
  rw [← HV.out]
  refine wpAnyH_take (i := 12) (v := .int .i64 v) rfl (by kernel_rfl) (by kernel_rfl) (by kernel_rfl) (fun _ _ _ h => h.elim) (.inl ⟨by kernel_rfl, fun w hw => by clear hw; go_simp⟩) (by assumption) ?_
  (try simp only [Act.put, List.getElem_toArray, List.getElem_cons_succ, List.getElem_cons_zero, List.setIfInBounds_toArray, List.set_cons_zero, List.set_cons_succ])
  refine wpAnyH_done (by kernel_rfl) ?_ _
  refine NoPanic.normal ?_
  clear ST0
  go_wp2_with fail
  go_ret
  exact ⟨rfl, HB0.out.trans (BA.out.mono HB0.out.size)⟩
theorem tellsL (w : World) : TellsO kLot w 60 #[] ordL := ⟨fun args W => by kernel_rfl, fun W _ a b ha hb => orderL_any a b W ha hb⟩
end Go.Proofs.Ythliomckpfeekaa
