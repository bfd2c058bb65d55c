/-
  CONTRACTS of cmp.Compare, of the code's inOrder. (By wip/tools/gen_ncode.py.)
-/
import Derived.Test.YtnkhnbpopdmkhaaGreatNPl
import Derived.Test.YtnkhnbpopdmkhaaGreatVWords
import Derived.Test.YtnkhnbpopdmkhaaGreatGT
import Derived.Deep.RegionHeld3
namespace Go.Proofs.YtnkhnbpopdmkhaaGreat
set_option linter.unusedVariables false
open Go.RowKit
open Pl (firstG findG putG It firstG_none firstG_some)

theorem nan_any (z : Int) (w : World) : Calls Tryz.prog 72 #[.int .i64 z] w fun e w' => e = .returned (.bool false) ∧ w' = w := by
 go_enter Tryz.func72, Tryz.ntmps72
 go_wp2_with fail
 go_ret
 exact ⟨by simp, rfl⟩
theorem compareI_any (a b : Int) (w : World) : Calls Tryz.prog 44 #[.int .i64 a, .int .i64 b] w fun e w' => e = .returned (.int .i64 (cmpI a b)) ∧ w' = w := by
 obtain ⟨r, hr⟩ : ∃ r, cmpI a b = r := ⟨_, rfl⟩
 have HR : Hid (r = if a < b then -1 else if b < a then 1 else 0) := Lib.hid (by rw [← hr]; rfl)
 rw [hr]
 clear hr
 have HNA := Lib.hid nan_any
 go_enter Tryz.func44, Tryz.ntmps44
 go_wp2_with fail
 refine (HNA.out a _).mono ?_
 rintro e w1 ⟨rfl, rfl⟩
 go_wp2_with fail
 refine (HNA.out b _).mono ?_
 rintro e w2 ⟨rfl, rfl⟩
 by_cases h1 : a < b
 · have HE : Hid (r = -1) := Lib.hid (by rw [HR.out, if_pos h1])
   go_wp2_with fail
   go_ret
   exact ⟨by rw [HE.out]; rfl, rfl⟩
 · by_cases h2 : b < a
   · have HE : Hid (r = 1) := Lib.hid (by rw [HR.out, if_neg h1, if_pos h2])
     go_wp2_with fail
     go_ret
     exact ⟨by rw [HE.out]; rfl, rfl⟩
   · have HE : Hid (r = 0) := Lib.hid (by rw [HR.out, if_neg h1, if_neg h2])
     go_wp2_with fail
     go_ret
     exact ⟨by rw [HE.out]; rfl, rfl⟩
def ordS_ (p q : Sd) : Int := firstNZ [cmpI p.day q.day, Pl.cmp p.lot q.lot, Pl.cmp p.bin q.bin, cmpI p.twin q.twin]
theorem ordS_eq (x y : List Value) : ordS x y = ordS_ (sdOf x) (sdOf y) := rfl
set_option maxRecDepth 100000 in
set_option maxHeartbeats 1600000 in
theorem cinOrder (x y : List Value) (w : World) (hx : Fits kstand x) (hy : Fits kstand y) : Calls Tryz.prog 34 #[.agg x.toArray, .agg y.toArray] w fun e w' => e = .returned (.int .i64 (ordS x y)) ∧ Below w.heap.size w w' := by
  have hxr := sd_cells hx
  have hyr := sd_cells hy
  have HV : Hid (ordS x y = ordS_ (sdOf x) (sdOf y)) := Lib.hid (ordS_eq x y)
  obtain ⟨p, hp⟩ : ∃ p, sdOf x = p := ⟨_, rfl⟩
  obtain ⟨q, hq⟩ : ∃ q, sdOf y = q := ⟨_, rfl⟩
  rw [hp] at hxr HV
  rw [hq] at hyr HV
  obtain ⟨v, hv⟩ : ∃ v, ordS x y = v := ⟨_, rfl⟩
  rw [hv] at HV ⊢
  subst hxr hyr
  clear hp hq hx hy hv
  obtain ⟨p0, p1, p2, p3, p4, p5, p6, p7⟩ := p
  obtain ⟨q0, q1, q2, q3, q4, q5, q6, q7⟩ := q
  have HV2 : Hid (v = firstNZ [cmpI p5 q5, Pl.cmp p2 q2, Pl.cmp p0 q0, cmpI p6 q6]) := Lib.hid HV.out
  clear HV
  have HV := HV2
  clear HV2
  unfold Sd.cells
  obtain ⟨W0, hW0⟩ : ∃ W0, W0 = ((w.alloc (.cells #[.string p0, .string p1, .string p2, .int .i64 p3, .string p4, .int .i64 p5, .int .i64 p6, .int .i64 p7] 112)).alloc (.cells #[.string q0, .string q1, .string q2, .int .i64 q3, .string q4, .int .i64 q5, .int .i64 q6, .int .i64 q7] 112)) := ⟨_, rfl⟩
  have B0 : Hid (Below w.heap.size w W0) := Lib.hid (by rw [hW0]; exact ((Below.refl _ _).alloc (Nat.le_refl _) _).alloc (by simp <;> omega) _)
  have HX0 : Hid (W0.heap[w.heap.size]? = some (.cells #[.string p0, .string p1, .string p2, .int .i64 p3, .string p4, .int .i64 p5, .int .i64 p6, .int .i64 p7] 112 (0, 0))) := Lib.hid (by
    rw [hW0]
    have hq := heap_alloc_new w (.cells #[.string p0, .string p1, .string p2, .int .i64 p3, .string p4, .int .i64 p5, .int .i64 p6, .int .i64 p7] 112)
    exact (Below.heap_alloc _ _ _ (by simp <;> omega)).trans (by simpa using hq))
  have HY0 : Hid (W0.heap[w.heap.size + 1]? = some (.cells #[.string q0, .string q1, .string q2, .int .i64 q3, .string q4, .int .i64 q5, .int .i64 q6, .int .i64 q7] 112 (0, 0))) := Lib.hid (by
    rw [hW0]
    have hq := heap_alloc_new (w.alloc (.cells #[.string p0, .string p1, .string p2, .int .i64 p3, .string p4, .int .i64 p5, .int .i64 p6, .int .i64 p7] 112)) (.cells #[.string q0, .string q1, .string q2, .int .i64 q3, .string q4, .int .i64 q5, .int .i64 q6, .int .i64 q7] 112)
    exact by simpa using hq)
  have huh := Tryz.underlying37
  have HSH : Hid (∀ a : Hs, (Tryz.prog.info? 37).map (·.size) = some a.cells.size) := Lib.hid (fun a => by kernel_rfl)
  have HSHL : Hid (∀ a : Hs, (Tryz.prog.info? 37).map (·.size) = some a.cells.toList.length) := Lib.hid (fun a => by kernel_rfl)
  have H1C : Hid (∀ a : Hs, a.cells.all (·.oneCell') = true) := Lib.hid (fun a => by simp [Hs.cells, Value.oneCell'])
  have hustand := Tryz.underlying112
  have HSstand : Hid ((Tryz.prog.info? 112).map (·.size) = some 8) := Lib.hid (by kernel_rfl)
  obtain ⟨w1, hw1⟩ : ∃ w1, w1 = W0 := ⟨_, rfl⟩
  have HX1 := HX0
  have HY1 := HY0
  have B1 := B0
  rw [← hw1] at HX1 HY1 B1
  have hsz : w.heap.size + 2 ≤ w1.heap.size := by rw [hw1, hW0]; simp
  have HBX : Hid (w.heap.size + 2 ≤ w1.heap.size) := Lib.hid hsz
  clear HX0 HY0 B0 hsz
  skip
  subst hW0
  go_enter Tryz.func34, Tryz.ntmps34
  go_wp2_with fail
  rw [← hw1]
  clear hw1
  have HST : Hid (∀ X, Below w1.heap.size w1 X → X.cell? ⟨w.heap.size, 5, none⟩ = some (.int .i64 p5) ∧ X.cell? ⟨(w.heap.size + 1), 5, none⟩ = some (.int .i64 q5) ∧ X.cell? ⟨w.heap.size, 2, none⟩ = some (.string p2) ∧ X.cell? ⟨(w.heap.size + 1), 2, none⟩ = some (.string q2) ∧ X.cell? ⟨w.heap.size, 0, none⟩ = some (.string p0) ∧ X.cell? ⟨(w.heap.size + 1), 0, none⟩ = some (.string q0) ∧ X.cell? ⟨w.heap.size, 6, none⟩ = some (.int .i64 p6) ∧ X.cell? ⟨(w.heap.size + 1), 6, none⟩ = some (.int .i64 q6)) := Lib.hid (fun X hX => ⟨(by rw [cell_of_block ((hX.block _ (lt_of_block HX1.out)).trans HX1.out)]; rfl), (by rw [cell_of_block ((hX.block _ (lt_of_block HY1.out)).trans HY1.out)]; rfl), (by rw [cell_of_block ((hX.block _ (lt_of_block HX1.out)).trans HX1.out)]; rfl), (by rw [cell_of_block ((hX.block _ (lt_of_block HY1.out)).trans HY1.out)]; rfl), (by rw [cell_of_block ((hX.block _ (lt_of_block HX1.out)).trans HX1.out)]; rfl), (by rw [cell_of_block ((hX.block _ (lt_of_block HY1.out)).trans HY1.out)]; rfl), (by rw [cell_of_block ((hX.block _ (lt_of_block HX1.out)).trans HX1.out)]; rfl), (by rw [cell_of_block ((hX.block _ (lt_of_block HY1.out)).trans HY1.out)]; rfl)⟩)
  have BN := Lib.hid (Below.refl w1.heap.size w1).drew
  have ST0 := HST.out _ BN.out
  refine wp_region_noPanic ?_
  refine wp_region_held_drew (S := (fun w' => w'.cell? ⟨w.heap.size, 5, none⟩ = some (.int .i64 p5) ∧ w'.cell? ⟨(w.heap.size + 1), 5, none⟩ = some (.int .i64 q5) ∧ w'.cell? ⟨w.heap.size, 2, none⟩ = some (.string p2) ∧ w'.cell? ⟨(w.heap.size + 1), 2, none⟩ = some (.string q2) ∧ w'.cell? ⟨w.heap.size, 0, none⟩ = some (.string p0) ∧ w'.cell? ⟨(w.heap.size + 1), 0, none⟩ = some (.string q0) ∧ w'.cell? ⟨w.heap.size, 6, none⟩ = some (.int .i64 p6) ∧ w'.cell? ⟨(w.heap.size + 1), 6, none⟩ = some (.int .i64 q6))) (by kernel_rfl) ST0 (fun dd0 => ?_)
  refine wpAnyH_take (i := 0) (v := .pointer (some ⟨w.heap.size, 5, none⟩)) rfl (by kernel_rfl) (by kernel_rfl) (by kernel_rfl) (fun _ _ _ h => h.elim) (.inl ⟨by kernel_rfl, fun w hw => by clear hw; go_simp⟩) (by assumption) ?_
  (try simp only [Act.put, List.getElem_toArray, List.getElem_cons_zero, List.setIfInBounds_toArray, List.set_cons_zero, List.set_cons_succ])
  refine wpAnyH_take (i := 1) (v := .int .i64 p5) rfl (by kernel_rfl) (by kernel_rfl) (by kernel_rfl) (fun _ _ _ h => h.elim) (.inl ⟨by kernel_rfl, fun w h => by have hw := h.1; clear h; go_simp⟩) (by assumption) ?_
  (try simp only [Act.put, List.getElem_toArray, List.getElem_cons_succ, List.getElem_cons_zero, List.setIfInBounds_toArray, List.set_cons_zero, List.set_cons_succ])
  refine wpAnyH_take (i := 2) (v := .pointer (some ⟨(w.heap.size + 1), 5, none⟩)) rfl (by kernel_rfl) (by kernel_rfl) (by kernel_rfl) (fun _ _ _ h => h.elim) (.inl ⟨by kernel_rfl, fun w hw => by clear hw; go_simp⟩) (by assumption) ?_
  (try simp only [Act.put, List.getElem_toArray, List.getElem_cons_succ, List.getElem_cons_zero, List.setIfInBounds_toArray, List.set_cons_zero, List.set_cons_succ])
  refine wpAnyH_take (i := 3) (v := .int .i64 q5) rfl (by kernel_rfl) (by kernel_rfl) (by kernel_rfl) (fun _ _ _ h => h.elim) (.inl ⟨by kernel_rfl, fun w h => by have hw := h.2.1; clear h; go_simp⟩) (by assumption) ?_
  (try simp only [Act.put, List.getElem_toArray, List.getElem_cons_succ, List.getElem_cons_zero, List.setIfInBounds_toArray, List.set_cons_zero, List.set_cons_succ])
  refine wpAnyH_take (i := 5) (v := .pointer (some ⟨w.heap.size, 0, none⟩)) rfl (by kernel_rfl) (by kernel_rfl) (by kernel_rfl) (fun _ _ _ h => h.elim) (.inl ⟨by kernel_rfl, fun w hw => by clear hw; go_simp⟩) (by assumption) ?_
  (try simp only [Act.put, List.getElem_toArray, List.getElem_cons_succ, List.getElem_cons_zero, List.setIfInBounds_toArray, List.set_cons_zero, List.set_cons_succ])
  refine wpAnyH_take (i := 6) (v := .pointer (some ⟨w.heap.size, 2, none⟩)) rfl (by kernel_rfl) (by kernel_rfl) (by kernel_rfl) (fun _ _ _ h => h.elim) (.inl ⟨by kernel_rfl, fun w hw => by clear hw; go_simp⟩) (by assumption) ?_
  (try simp only [Act.put, List.getElem_toArray, List.getElem_cons_succ, List.getElem_cons_zero, List.setIfInBounds_toArray, List.set_cons_zero, List.set_cons_succ])
  refine wpAnyH_take (i := 7) (v := .string p2) rfl (by kernel_rfl) (by kernel_rfl) (by kernel_rfl) (fun _ _ _ h => h.elim) (.inl ⟨by kernel_rfl, fun w h => by have hw := h.2.2.1; clear h; go_simp⟩) (by assumption) ?_
  (try simp only [Act.put, List.getElem_toArray, List.getElem_cons_succ, List.getElem_cons_zero, List.setIfInBounds_toArray, List.set_cons_zero, List.set_cons_succ])
  refine wpAnyH_take (i := 8) (v := .pointer (some ⟨(w.heap.size + 1), 0, none⟩)) rfl (by kernel_rfl) (by kernel_rfl) (by kernel_rfl) (fun _ _ _ h => h.elim) (.inl ⟨by kernel_rfl, fun w hw => by clear hw; go_simp⟩) (by assumption) ?_
  (try simp only [Act.put, List.getElem_toArray, List.getElem_cons_succ, List.getElem_cons_zero, List.setIfInBounds_toArray, List.set_cons_zero, List.set_cons_succ])
  refine wpAnyH_take (i := 9) (v := .pointer (some ⟨(w.heap.size + 1), 2, none⟩)) rfl (by kernel_rfl) (by kernel_rfl) (by kernel_rfl) (fun _ _ _ h => h.elim) (.inl ⟨by kernel_rfl, fun w hw => by clear hw; go_simp⟩) (by assumption) ?_
  (try simp only [Act.put, List.getElem_toArray, List.getElem_cons_succ, List.getElem_cons_zero, List.setIfInBounds_toArray, List.set_cons_zero, List.set_cons_succ])
  refine wpAnyH_take (i := 10) (v := .string q2) rfl (by kernel_rfl) (by kernel_rfl) (by kernel_rfl) (fun _ _ _ h => h.elim) (.inl ⟨by kernel_rfl, fun w h => by have hw := h.2.2.2.1; clear h; go_simp⟩) (by assumption) ?_
  (try simp only [Act.put, List.getElem_toArray, List.getElem_cons_succ, List.getElem_cons_zero, List.setIfInBounds_toArray, List.set_cons_zero, List.set_cons_succ])
  refine wpAnyH_take (i := 12) (v := .pointer (some ⟨w.heap.size, 0, none⟩)) rfl (by kernel_rfl) (by kernel_rfl) (by kernel_rfl) (fun _ _ _ h => h.elim) (.inl ⟨by kernel_rfl, fun w hw => by clear hw; go_simp⟩) (by assumption) ?_
  (try simp only [Act.put, List.getElem_toArray, List.getElem_cons_succ, List.getElem_cons_zero, List.setIfInBounds_toArray, List.set_cons_zero, List.set_cons_succ])
  refine wpAnyH_take (i := 13) (v := .pointer (some ⟨w.heap.size, 0, none⟩)) rfl (by kernel_rfl) (by kernel_rfl) (by kernel_rfl) (fun _ _ _ h => h.elim) (.inl ⟨by kernel_rfl, fun w hw => by clear hw; go_simp⟩) (by assumption) ?_
  (try simp only [Act.put, List.getElem_toArray, List.getElem_cons_succ, List.getElem_cons_zero, List.setIfInBounds_toArray, List.set_cons_zero, List.set_cons_succ])
  refine wpAnyH_take (i := 14) (v := .string p0) rfl (by kernel_rfl) (by kernel_rfl) (by kernel_rfl) (fun _ _ _ h => h.elim) (.inl ⟨by kernel_rfl, fun w h => by have hw := h.2.2.2.2.1; clear h; go_simp⟩) (by assumption) ?_
  (try simp only [Act.put, List.getElem_toArray, List.getElem_cons_succ, List.getElem_cons_zero, List.setIfInBounds_toArray, List.set_cons_zero, List.set_cons_succ])
  refine wpAnyH_take (i := 15) (v := .pointer (some ⟨(w.heap.size + 1), 0, none⟩)) rfl (by kernel_rfl) (by kernel_rfl) (by kernel_rfl) (fun _ _ _ h => h.elim) (.inl ⟨by kernel_rfl, fun w hw => by clear hw; go_simp⟩) (by assumption) ?_
  (try simp only [Act.put, List.getElem_toArray, List.getElem_cons_succ, List.getElem_cons_zero, List.setIfInBounds_toArray, List.set_cons_zero, List.set_cons_succ])
  refine wpAnyH_take (i := 16) (v := .pointer (some ⟨(w.heap.size + 1), 0, none⟩)) rfl (by kernel_rfl) (by kernel_rfl) (by kernel_rfl) (fun _ _ _ h => h.elim) (.inl ⟨by kernel_rfl, fun w hw => by clear hw; go_simp⟩) (by assumption) ?_
  (try simp only [Act.put, List.getElem_toArray, List.getElem_cons_succ, List.getElem_cons_zero, List.setIfInBounds_toArray, List.set_cons_zero, List.set_cons_succ])
  refine wpAnyH_take (i := 17) (v := .string q0) rfl (by kernel_rfl) (by kernel_rfl) (by kernel_rfl) (fun _ _ _ h => h.elim) (.inl ⟨by kernel_rfl, fun w h => by have hw := h.2.2.2.2.2.1; clear h; go_simp⟩) (by assumption) ?_
  (try simp only [Act.put, List.getElem_toArray, List.getElem_cons_succ, List.getElem_cons_zero, List.setIfInBounds_toArray, List.set_cons_zero, List.set_cons_succ])
  refine wpAnyH_take (i := 19) (v := .pointer (some ⟨w.heap.size, 6, none⟩)) rfl (by kernel_rfl) (by kernel_rfl) (by kernel_rfl) (fun _ _ _ h => h.elim) (.inl ⟨by kernel_rfl, fun w hw => by clear hw; go_simp⟩) (by assumption) ?_
  (try simp only [Act.put, List.getElem_toArray, List.getElem_cons_succ, List.getElem_cons_zero, List.setIfInBounds_toArray, List.set_cons_zero, List.set_cons_succ])
  refine wpAnyH_take (i := 20) (v := .int .i64 p6) rfl (by kernel_rfl) (by kernel_rfl) (by kernel_rfl) (fun _ _ _ h => h.elim) (.inl ⟨by kernel_rfl, fun w h => by have hw := h.2.2.2.2.2.2.1; clear h; go_simp⟩) (by assumption) ?_
  (try simp only [Act.put, List.getElem_toArray, List.getElem_cons_succ, List.getElem_cons_zero, List.setIfInBounds_toArray, List.set_cons_zero, List.set_cons_succ])
  refine wpAnyH_take (i := 21) (v := .pointer (some ⟨(w.heap.size + 1), 6, none⟩)) rfl (by kernel_rfl) (by kernel_rfl) (by kernel_rfl) (fun _ _ _ h => h.elim) (.inl ⟨by kernel_rfl, fun w hw => by clear hw; go_simp⟩) (by assumption) ?_
  (try simp only [Act.put, List.getElem_toArray, List.getElem_cons_succ, List.getElem_cons_zero, List.setIfInBounds_toArray, List.set_cons_zero, List.set_cons_succ])
  refine wpAnyH_take (i := 22) (v := .int .i64 q6) rfl (by kernel_rfl) (by kernel_rfl) (by kernel_rfl) (fun _ _ _ h => h.elim) (.inl ⟨by kernel_rfl, fun w h => by have hw := h.2.2.2.2.2.2.2; clear h; go_simp⟩) (by assumption) ?_
  (try simp only [Act.put, List.getElem_toArray, List.getElem_cons_succ, List.getElem_cons_zero, List.setIfInBounds_toArray, List.set_cons_zero, List.set_cons_succ])
  refine wpAnyH_ready (rs := [4]) (by kernel_rfl) (by simp) ?_
  refine AllReadyH.cons rfl (fun K' hK => ?_) AllReadyH.nil
  go_simp
  refine ((same_below (compareI_any p5 q5 _))).mono ?_
  rintro e wn ⟨rfl, hbn⟩
  have BN := Lib.hid (BN.out.trans (hbn.mono BN.out.size))
  clear hbn
  refine hK.out _ _ (HST.out _ BN.out) (fun _ => ?_)
  clear hK K'
  (try simp only [Act.put, List.getElem_toArray, List.getElem_cons_succ, List.getElem_cons_zero, List.setIfInBounds_toArray, List.set_cons_zero, List.set_cons_succ])
  refine wpAnyH_ready (rs := [11]) (by kernel_rfl) (by simp) ?_
  refine AllReadyH.cons rfl (fun K' hK => ?_) AllReadyH.nil
  go_simp
  refine ((same_below (compare_any p2 q2 _))).mono ?_
  rintro e wn ⟨rfl, hbn⟩
  have BN := Lib.hid (BN.out.trans (hbn.mono BN.out.size))
  clear hbn
  refine hK.out _ _ (HST.out _ BN.out) (fun _ => ?_)
  clear hK K'
  (try simp only [Act.put, List.getElem_toArray, List.getElem_cons_succ, List.getElem_cons_zero, List.setIfInBounds_toArray, List.set_cons_zero, List.set_cons_succ])
  refine wpAnyH_ready (rs := [18]) (by kernel_rfl) (by simp) ?_
  refine AllReadyH.cons rfl (fun K' hK => ?_) AllReadyH.nil
  go_simp
  refine ((same_below (compare_any p0 q0 _))).mono ?_
  rintro e wn ⟨rfl, hbn⟩
  have BN := Lib.hid (BN.out.trans (hbn.mono BN.out.size))
  clear hbn
  refine hK.out _ _ (HST.out _ BN.out) (fun _ => ?_)
  clear hK K'
  (try simp only [Act.put, List.getElem_toArray, List.getElem_cons_succ, List.getElem_cons_zero, List.setIfInBounds_toArray, List.set_cons_zero, List.set_cons_succ])
  refine wpAnyH_ready (rs := [23]) (by kernel_rfl) (by simp) ?_
  refine AllReadyH.cons rfl (fun K' hK => ?_) AllReadyH.nil
  go_simp
  refine ((same_below (compareI_any p6 q6 _))).mono ?_
  rintro e wn ⟨rfl, hbn⟩
  have BN := Lib.hid (BN.out.trans (hbn.mono BN.out.size))
  clear hbn
  refine hK.out _ _ (HST.out _ BN.out) (fun _ => ?_)
  clear hK K'
  (try simp only [Act.put, List.getElem_toArray, List.getElem_cons_succ, List.getElem_cons_zero, List.setIfInBounds_toArray, List.set_cons_zero, List.set_cons_succ])
  refine wpAnyH_ready (rs := [24]) (by kernel_rfl) (by simp) ?_
  refine AllReadyH.cons rfl (fun K' hK => ?_) AllReadyH.nil
  go_simp
  obtain ⟨wb24, hwb⟩ : ∃ W, W = (wn.alloc (.cells #[.int .i64 (cmpI p5 q5), .int .i64 (Pl.cmp p2 q2), .int .i64 (Pl.cmp p0 q0), .int .i64 (cmpI p6 q6)] 3)) := ⟨_, rfl⟩
  obtain ⟨gb24, hgb⟩ : ∃ g, g = wn.heap.size := ⟨_, rfl⟩
  have HBS24 : Hid (Rd wb24 wb24.heap.size (some ⟨gb24, 0, none⟩) [.int .i64 (cmpI p5 q5), .int .i64 (Pl.cmp p2 q2), .int .i64 (Pl.cmp p0 q0), .int .i64 (cmpI p6 q6)]) := Lib.hid (by rw [hwb, hgb]; exact (rd_one wn [.int .i64 (cmpI p5 q5), .int .i64 (Pl.cmp p2 q2), .int .i64 (Pl.cmp p0 q0), .int .i64 (cmpI p6 q6)] 3).mono (by simp))
  have hbn : Below wn.heap.size wn wb24 := by rw [hwb]; exact ((Below.refl _ _).alloc (Nat.le_refl _) _)
  have BN := Lib.hid (BN.out.trans (hbn.mono BN.out.size))
  rw [← hwb, ← hgb]
  clear hbn hwb hgb
  refine hK.out _ _ (HST.out _ BN.out) (fun _ => ?_)
  clear hK K'
  (try simp only [Act.put, List.getElem_toArray, List.getElem_cons_succ, List.getElem_cons_zero, List.setIfInBounds_toArray, List.set_cons_zero, List.set_cons_succ])
  refine wpAnyH_ready (rs := [25]) (by kernel_rfl) (by simp) ?_
  refine AllReadyH.cons rfl (fun K' hK => ?_) AllReadyH.nil
  go_simp
  refine ((same_below (or_any _ 4 4 [cmpI p5 q5, Pl.cmp p2 q2, Pl.cmp p0 q0, cmpI p6 q6] _ rfl (by decide) (by have := HBS24.out; exact this)))).mono ?_
  rintro e wn ⟨rfl, hbn⟩
  have BN := Lib.hid (BN.out.trans (hbn.mono BN.out.size))
  clear hbn
  refine hK.out _ _ (HST.out _ BN.out) (fun _ => ?_)
  clear hK K'
  (try simp only [Act.put, List.getElem_toArray, List.getElem_cons_succ, List.getElem_cons_zero, List.setIfInBounds_toArray, List.set_cons_zero, List.set_cons_succ])
  refine wpAnyH_take (i := 26) (v := .int .i64 (firstNZ [cmpI p5 q5, Pl.cmp p2 q2, Pl.cmp p0 q0, cmpI p6 q6])) rfl (by kernel_rfl) (by kernel_rfl) (by kernel_rfl) (fun _ _ _ h => h.elim) (.inl ⟨by kernel_rfl, fun w hw => by clear hw; go_simp⟩) (by assumption) ?_
  (try simp only [Act.put, List.getElem_toArray, List.getElem_cons_succ, List.getElem_cons_zero, List.setIfInBounds_toArray, List.set_cons_zero, List.set_cons_succ])
  refine wpAnyH_done (by kernel_rfl) ?_ _
  refine NoPanic.normal ?_
  clear ST0
  go_wp2_with fail
  go_ret
  exact ⟨by rw [HV.out]; rfl, B1.out.trans (BN.out.mono B1.out.size)⟩
theorem tellsS : TellsC kstand 34 ordS := ⟨fun args W => by kernel_rfl, fun W a b ha hb => cinOrder a b W ha hb⟩
theorem lessO_S : lessO ordS = lessS := funext fun a => funext fun b => ordS_neg a b
theorem lessO_weak : Pl.Weak (lessO ordS) := by rw [lessO_S]; exact lessS_weak
end Go.Proofs.YtnkhnbpopdmkhaaGreat
