/-
  CONTRACT of the code's Add of a lot: check, then the table's Put.
-/
import Derived.Test.YthliomckpfeekaaLCheck
import Derived.Test.YthliomckpfeekaaGP
import Derived.Test.YthliomckpfeekaaHA
namespace Go.Proofs.Ythliomckpfeekaa
set_option linter.unusedVariables false
open Go.RowKit
open Pl (firstG findG putG It)

theorem range_lot {w : World} {b : Nat} {cs : List Value} {t : TypeId} (h : w.heap[b]? = some (.cells cs.toArray t (0, 0))) : w.rangeAt b 0 cs := fun i v hv => by rw [cell_of_block h, List.getElem?_toArray, Nat.zero_add]; exact hv
set_option maxRecDepth 100000 in
set_option maxHeartbeats 3200000 in
theorem cadd_any (h : Hs) (L : Nat → List (List Value)) (x : List Value) (w : World) (hh : HT h L w) (hn1 : h.n 1 ≤ 1000) (hc1 : h.n 1 ≤ h.c 1 ∧ h.c 1 ≤ 9223372036854775807) (hx : Fits kLot x) (hm : (codeL x).size ≤ maxLen) :
    Calls Try.prog 11 #[.agg h.cells, .agg x.toArray] w (AddLP h L x w) := by
  have HCK := Lib.hid (fun W (hW : Below w.heap.size w W) => ccheck_any h L x W (hh.below hW) hx hm)
  have HPU := Lib.hid (fun W (hW : Below w.heap.size w W) => putLot (h.A 1) (h.n 1) (h.c 1) 60 #[] ordL x (L 1) W (hh 1 (by decide)).1 hc1.1 hc1.2 (by omega) (hh 1 (by decide)).2.2.1 hx ((hh.below hW) 1 (by decide)).2.2.2 (tellsL W))
  obtain ⟨m, hmm⟩ : ∃ m, h.n 1 = m := ⟨_, rfl⟩
  rw [hmm] at hn1 HPU
  have HMM := Lib.hid hmm
  obtain ⟨k, hk⟩ : ∃ k, addLE (L 0) (L 1) x = k := ⟨_, rfl⟩
  rw [hk] at HCK
  have HE := Lib.hid hk
  clear hm hmm hk
  obtain ⟨W0, hW0⟩ : ∃ W0, W0 = ((w.alloc (.cells h.cells 37)).alloc (.cells x.toArray 39)).alloc (.cells #[.slice none 0 0, .slice none 0 0, .slice none 0 0, .slice none 0 0, .slice none 0 0, .slice none 0 0, .slice none 0 0, .slice none 0 0, .slice none 0 0, .slice none 0 0, .slice none 0 0, .slice none 0 0, .slice none 0 0, .slice none 0 0, .int .i64 0] 37) := ⟨_, rfl⟩
  have hb0 : Below w.heap.size w W0 := by rw [hW0]; exact (((Below.refl _ _).alloc (Nat.le_refl _) _).alloc (by simp) _).alloc (by simp; omega) _
  have hs0 : W0.heap.size = w.heap.size + 3 := by rw [hW0]; simp
  have HH : Hid (∀ W, Below W0.heap.size W0 W → W.heap[w.heap.size]? = some (.cells h.cells 37 (0, 0))) := Lib.hid (fun W hW => (hW.block _ (by omega)).trans (by
    rw [hW0]
    exact (Below.heap_alloc _ _ _ (by simp; omega)).trans ((Below.heap_alloc _ _ _ (by simp)).trans (heap_alloc_new _ _))))
  have HX : Hid (∀ W, Below W0.heap.size W0 W → W.heap[w.heap.size + 1]? = some (.cells x.toArray 39 (0, 0))) := Lib.hid (fun W hW => (hW.block _ (by omega)).trans (by
    rw [hW0]
    have := heap_alloc_new (w.alloc (.cells h.cells 37)) (.cells x.toArray 39)
    exact (Below.heap_alloc _ _ _ (by simp)).trans (by simpa using this)))
  have HZ : Hid (∀ W, Below W0.heap.size W0 W → W.heap[w.heap.size + 2]? = some (.cells Hs.zero 37 (0, 0))) := Lib.hid (fun W hW => (hW.block _ (by omega)).trans (by
    rw [hW0]
    have := heap_alloc_new ((w.alloc (.cells h.cells 37)).alloc (.cells x.toArray 39)) (.cells Hs.zero 37)
    simpa [Hs.zero] using this))
  have HBW : Hid (∀ W, Below W0.heap.size W0 W → Below w.heap.size w W ∧ w.heap.size + 3 ≤ W.heap.size) := Lib.hid (fun W hW => ⟨hb0.trans (hW.mono (by omega)), by have := hW.size; omega⟩)
  have hul := Try.underlying39
  have huh := Try.underlying37
  have HSX : Hid ((Try.prog.info? 39).map (·.size) = some x.toArray.size) := Lib.hid (by rw [show (Try.prog.info? 39).map (·.size) = some 3 from by kernel_rfl, List.size_toArray, hx.length]; rfl)
  have HSH : Hid (∀ a : Hs, (Try.prog.info? 37).map (·.size) = some a.cells.size) := Lib.hid (fun a => by kernel_rfl)
  have HSQ : Hid ((Try.prog.info? 37).map (·.size) = some Hs.zero.size) := Lib.hid (by kernel_rfl)
  have H1C : Hid (∀ a : Hs, a.cells.all (·.oneCell') = true) := Lib.hid (fun a => by simp [Hs.cells, Value.oneCell'])
  have H1Q : Hid (Hs.zero.all (·.oneCell') = true) := Lib.hid (by simp [Hs.zero, Value.oneCell'])
  have HL1 : Hid (∀ W, Below W0.heap.size W0 W → W.cell? ⟨w.heap.size, 1, none⟩ = some (.slice (h.A 1) m (h.c 1)) ∧ w.heap.size < W.heap.size) := Lib.hid (fun W hW => ⟨by rw [cell_of_block (HH.out W hW), ← HMM.out]; rfl, by have := hW.size; omega⟩)
  have HHS := Lib.hid (HH.out _ (Below.refl _ _))
  have HXS := Lib.hid (HX.out _ (Below.refl _ _))
  have H0 := Lib.hid (Below.refl W0.heap.size W0)
  clear hx hb0 hs0 hh
  subst hW0
  go_enter Try.func11, Try.ntmps11
  go_wp2_with (first
    | (refine wpList_load_row rfl 37 (.tmp 2) rfl w.heap.size rfl _ _ _ _ HHS.out huh rfl (HSH.out _) ?_)
    | (refine wpList_load_row rfl 39 (.tmp 3) rfl (w.heap.size + 1) rfl _ _ _ _ HXS.out hul rfl HSX.out ?_)
    | fail)
  refine (HCK.out _ (HBW.out _ H0.out).1).mono ?_
  rintro e w1 ⟨rfl, hb1⟩
  have H5 := Lib.hid hb1
  clear hb1
  by_cases hk : k = 0
  · subst hk
    have HSL : Hid ((Try.prog.info? 39).map (·.size) = some x.length) := Lib.hid (by have := HSX.out; rwa [List.size_toArray] at this)
    have HL0 := Lib.hid (fun W hW => (HL1.out W hW).1)
    have HST := Lib.hid (fun W hW => (⟨(HL1.out W hW).1, range_lot (HX.out W hW)⟩ : W.cell? ⟨w.heap.size, 1, none⟩ = some (.slice (h.A 1) m (h.c 1)) ∧ W.rangeAt (w.heap.size + 1) 0 x))
    go_wp2_with fail
    refine lastW_region (S := (fun w' => w'.cell? ⟨w.heap.size, 1, none⟩ = some (.slice (h.A 1) (m) (h.c 1)) ∧ w'.rangeAt (w.heap.size + 1) 0 x)) (n := 6) (by kernel_rfl) ?_
    have ST5 := HST.out _ H5.out.drew
    refine LastW.take (i := 1) (v := .pointer (some ⟨w.heap.size, 1, none⟩)) rfl (by kernel_rfl) (by kernel_rfl) (by kernel_rfl) (by kernel_rfl) (by decide) (fun _ _ _ h => h.elim) (.inl ⟨by kernel_rfl, fun w hw => by clear hw; go_simp⟩) ST5 ?_
    (try simp only [Act.put, List.getElem_toArray, List.getElem_cons_succ, List.getElem_cons_zero, List.setIfInBounds_toArray, List.set_cons_zero, List.set_cons_succ])
    refine LastW.take (i := 2) (v := .slice (h.A 1) (m) (h.c 1)) rfl (by kernel_rfl) (by kernel_rfl) (by kernel_rfl) (by kernel_rfl) (by decide) (fun _ _ _ h => h.elim) (.inl ⟨by kernel_rfl, fun w hw => by have hw := hw.1; go_simp⟩) ST5 ?_
    (try simp only [Act.put, List.getElem_toArray, List.getElem_cons_succ, List.getElem_cons_zero, List.setIfInBounds_toArray, List.set_cons_zero, List.set_cons_succ])
    refine LastW.take (i := 3) (v := .agg x.toArray) rfl (by kernel_rfl) (by kernel_rfl) (by kernel_rfl) (by kernel_rfl) (by decide) (fun _ _ _ h => h.elim) (yieldsIf_load_mid (by kernel_rfl) 39 (.tmp 3) rfl (w.heap.size + 1) 0 rfl x _ (fun w h => h.2) hul rfl HSL.out) ST5 ?_
    (try simp only [Act.put, List.getElem_toArray, List.getElem_cons_succ, List.getElem_cons_zero, List.setIfInBounds_toArray, List.set_cons_zero, List.set_cons_succ])
    refine LastW.one (i := 0) (by kernel_rfl) rfl (fun K hK => ?_)
    go_simp
    refine (bykey_any _).mono ?_
    rintro e w7 ⟨rfl, hb7⟩
    have H7 := Lib.hid (H5.out.drew.trans (hb7.mono H5.out.drew.size))
    clear hb7
    refine hK.out _ _ (fun _ => HST.out _ H7.out) (fun _ => ?_)
    clear hK K
    (try simp only [Act.put, List.getElem_toArray, List.getElem_cons_succ, List.getElem_cons_zero, List.setIfInBounds_toArray, List.set_cons_zero, List.set_cons_succ])
    refine LastW.one (i := 4) (by kernel_rfl) rfl (fun K hK => ?_)
    go_simp
    refine (HPU.out _ (HBW.out _ H7.out).1).mono ?_
    rintro e w8 ⟨A5, n5, p5, hl5, rfl, hown5, hb8⟩
    have H8 := Lib.hid (H7.out.trans (hb8.mono H7.out.size))
    have HO5 := Lib.hid hown5
    have HLE := Lib.hid hl5
    clear hb8 hown5 hl5
    refine hK.out _ _ (fun _ => HST.out _ H8.out) (fun _ => ?_)
    clear hK K
    (try simp only [Act.put, List.getElem_toArray, List.getElem_cons_succ, List.getElem_cons_zero, List.setIfInBounds_toArray, List.set_cons_zero, List.set_cons_succ])
    refine LastW.take (i := 5) (v := .pointer (some ⟨w.heap.size, 1, none⟩)) rfl (by kernel_rfl) (by kernel_rfl) (by kernel_rfl) (by kernel_rfl) (by decide) (fun _ _ _ h => h.elim) (.inl ⟨by kernel_rfl, fun w hw => by clear hw; go_simp⟩) (HST.out _ H8.out) ?_
    (try simp only [Act.put, List.getElem_toArray, List.getElem_cons_succ, List.getElem_cons_zero, List.setIfInBounds_toArray, List.set_cons_zero, List.set_cons_succ])
    refine LastW.one (i := 6) (by kernel_rfl) rfl (fun K hK => ?_)
    have c5 := HL0.out _ H8.out
    have f5 : w8.frozen? ⟨w.heap.size, 1, none⟩ = false := frozen_of_block (HH.out _ H8.out)
    have HZ5 := Lib.hid (HZ.out _ H8.out)
    have HH5 := Lib.hid (HH.out _ H8.out)
    have HB5 := Lib.hid (HBW.out _ H8.out)
    go_simp
    refine hK.out _ _ (fun h => absurd rfl h) (fun _ => ?_)
    clear hK K
    (try simp only [Act.put, List.getElem_toArray, List.getElem_cons_succ, List.getElem_cons_zero, List.setIfInBounds_toArray, List.set_cons_zero, List.set_cons_succ])
    refine LastW.done (by kernel_rfl) ?_ _
    refine NoPanic.normal ?_
    have H9 : Hid ((w8.setCell ⟨w.heap.size, 1, none⟩ (.slice A5 n5 p5)).heap[w.heap.size]? = some (.cells (h.set 1 A5 n5 p5).cells 37 (0, 0))) := Lib.hid (by rw [block_setCell HH5.out, h.set_cells _ _ _ 1 (by decide)])
    have HZ6 : Hid ((w8.setCell ⟨w.heap.size, 1, none⟩ (.slice A5 n5 p5)).heap[w.heap.size + 2]? = some (.cells Hs.zero 37 (0, 0))) := Lib.hid ((block_setCell_other (by omega) _).trans HZ5.out)
    have HB6 : Hid (Below w.heap.size w (w8.setCell ⟨w.heap.size, 1, none⟩ (.slice A5 n5 p5))) := Lib.hid (HB5.out.1.setCell (Nat.le_refl _) _)
    have HO6 : Hid ((w8.setCell ⟨w.heap.size, 1, none⟩ (.slice A5 n5 p5)).ownsRow w7.heap.size 39 3 (.slice A5 n5 p5) n5 (putG ordL (L 1) x).flatten) := Lib.hid (own_far HO5.out (by have := (HBW.out _ H7.out).2; simp; omega) (Nat.le_refl _))
    have HS4 : Hid (w.heap.size + 2 < w7.heap.size) := Lib.hid (by have := (HBW.out _ H7.out).2; omega)
    generalize w8.setCell ⟨w.heap.size, 1, none⟩ (.slice A5 n5 p5) = w6 at *
    go_wp2_with (first
      | (refine wpList_load_row rfl 37 (.tmp 2) rfl w.heap.size rfl _ _ _ _ H9.out huh rfl (HSH.out _) ?_)
      | (refine wpList_store_row rfl 37 (.tmp 4) (.tmp 20) rfl (w.heap.size + 2) (h.set 1 A5 n5 p5).cells rfl rfl _ _ HZ6.out (HSH.out _) rfl (H1C.out _) ?_)
      | fail)
    exact bodyPost_ret (results_row_tmp rfl _ _ (w.heap.size + 2) _ _ _ _ rfl (setRow_heap _ _ _ _ _ _ HZ6.out) huh rfl (HSH.out _)) rfl ⟨setRow_below HB6.out (by omega) _, .inr ⟨HE.out, A5, n5, p5, HLE.out, own_rowed HO6.out HS4.out (by have := HS4.out; omega), rfl⟩⟩
  · have hk0 : ((k : Int) != 0) = true := by simpa using hk
    have HK := Lib.hid hk
    clear hk
    go_wp2_with (first
      | (refine wpList_store_row rfl 37 (.tmp 4) (.tmp 12) rfl (w.heap.size + 2) Hs.zero rfl rfl _ _ (HZ.out _ H5.out) HSQ.out rfl H1Q.out ?_)
      | fail)
    exact bodyPost_ret (results_row_tmp rfl _ _ (w.heap.size + 2) _ _ _ _ rfl (setRow_heap _ _ _ _ _ _ (HZ.out _ H5.out)) huh rfl HSQ.out) rfl ⟨setRow_below (HBW.out _ H5.out).1 (by omega) _, .inl ⟨by rw [HE.out]; exact HK.out, by rw [HE.out]; rfl⟩⟩
end Go.Proofs.Ythliomckpfeekaa
