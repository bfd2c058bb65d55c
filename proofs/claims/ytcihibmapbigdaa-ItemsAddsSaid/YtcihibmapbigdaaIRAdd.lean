/-
  CONTRACTS of the rows' Item, and of the reference's Add.
-/
import Derived.Test.YtcihibmapbigdaaGRPutI
import Derived.Test.YtcihibmapbigdaaIRPut
import Derived.Test.YtcihibmapbigdaaIRFind
import Derived.Test.YtcihibmapbigdaaIRCheck
import Derived.Test.YtcihibmapbigdaaIAdd
namespace Go.Proofs.Ytcihibmapbigdaa
set_option linter.unusedVariables false
open Go.RowKit
open Pl (firstG findG putG It)

set_option maxRecDepth 100000 in
set_option maxHeartbeats 800000 in
theorem rItem_any (h : Hs) (cs : List Value) (L : List (List Value)) (w : World) (hcs : Fits kItem cs) (hn : h.n 0 = L.length) (hn6 : h.n 0 ≤ 1000) (hL : Things kItem L) (hr : Rd w w.heap.size (h.A 0) L.flatten) :
    Calls Try.prog 36 #[.agg h.cells, .agg cs.toArray] w fun e w' => Below w.heap.size w w' ∧ ∃ A n c, n = (putG ordI L cs).length ∧ w'.ownsRow w.heap.size 42 14 (.slice A n c) n (putG ordI L cs).flatten ∧ e = .returned (.agg (h.set 0 A n c).cells) := by
  obtain ⟨W0, hW0⟩ : ∃ W0, W0 = ((w.alloc (.cells h.cells 37)).alloc (.cells cs.toArray 42)).alloc (.cells #[.slice none 0 0, .slice none 0 0, .slice none 0 0, .slice none 0 0, .slice none 0 0, .slice none 0 0, .slice none 0 0, .slice none 0 0, .slice none 0 0, .slice none 0 0, .slice none 0 0, .slice none 0 0, .slice none 0 0, .slice none 0 0, .int .i64 0] 37) := ⟨_, rfl⟩
  have hb0 : Below w.heap.size w W0 := by rw [hW0]; exact (((Below.refl _ _).alloc (Nat.le_refl _) _).alloc (by simp) _).alloc (by simp; omega) _
  have hs0 : W0.heap.size = w.heap.size + 3 := by rw [hW0]; simp
  have HH : Hid (∀ W, Below W0.heap.size W0 W → W.heap[w.heap.size]? = some (.cells h.cells 37 (0, 0))) := Lib.hid (fun W hW => (hW.block _ (by omega)).trans (by
    rw [hW0]
    exact (Below.heap_alloc _ _ _ (by simp; omega)).trans ((Below.heap_alloc _ _ _ (by simp)).trans (heap_alloc_new _ _))))
  have HX : Hid (∀ W, Below W0.heap.size W0 W → W.heap[w.heap.size + 1]? = some (.cells cs.toArray 42 (0, 0))) := Lib.hid (fun W hW => (hW.block _ (by omega)).trans (by
    rw [hW0]
    have := heap_alloc_new (w.alloc (.cells h.cells 37)) (.cells cs.toArray 42)
    exact (Below.heap_alloc _ _ _ (by simp)).trans (by simpa using this)))
  have HZ : Hid (∀ W, Below W0.heap.size W0 W → W.heap[w.heap.size + 2]? = some (.cells Hs.zero 37 (0, 0))) := Lib.hid (fun W hW => (hW.block _ (by omega)).trans (by
    rw [hW0]
    have := heap_alloc_new ((w.alloc (.cells h.cells 37)).alloc (.cells cs.toArray 42)) (.cells Hs.zero 37)
    simpa [Hs.zero] using this))
  have HBW : Hid (∀ W, Below W0.heap.size W0 W → Below w.heap.size w W ∧ w.heap.size + 3 ≤ W.heap.size) := Lib.hid (fun W hW => ⟨hb0.trans (hW.mono (by omega)), by have := hW.size; omega⟩)
  have hui := Try.underlying42
  have huh := Try.underlying37
  have HSX : Hid ((Try.prog.info? 42).map (·.size) = some cs.toArray.size) := Lib.hid (by rw [show (Try.prog.info? 42).map (·.size) = some 14 from by kernel_rfl, List.size_toArray, hcs.length]; rfl)
  have HSH : Hid (∀ a : Hs, (Try.prog.info? 37).map (·.size) = some a.cells.size) := Lib.hid (fun a => by kernel_rfl)
  have HSQ : Hid ((Try.prog.info? 37).map (·.size) = some Hs.zero.size) := Lib.hid (by kernel_rfl)
  have H1C : Hid (∀ a : Hs, a.cells.all (·.oneCell') = true) := Lib.hid (fun a => by simp [Hs.cells, Value.oneCell'])
  have H1Q : Hid (Hs.zero.all (·.oneCell') = true) := Lib.hid (by simp [Hs.zero, Value.oneCell'])
  have HHS := Lib.hid (HH.out _ (Below.refl _ _))
  have HXS := Lib.hid (HX.out _ (Below.refl _ _))
  have HZS := Lib.hid (HZ.out _ (Below.refl _ _))
  have HPU : Hid (∀ W, Below W0.heap.size W0 W → Calls Try.prog 61 #[.slice (h.A 0) (h.n 0) (h.c 0), .agg cs.toArray, .func (.func 62) #[] #[]] W (NewItem W (putG ordI L cs))) := Lib.hid (fun W hW =>
    rputItem (h.A 0) (h.n 0) (h.c 0) 62 ordI cs L W hn (by omega) hL hcs ((hr.below (HBW.out W hW).1).mono (HBW.out W hW).1.size) (tellsR W))
  have c0 : W0.cell? ⟨w.heap.size, 0, none⟩ = some (.slice (h.A 0) (h.n 0) (h.c 0)) := (cell_of_block HHS.out).trans rfl
  have HS0 := Lib.hid hs0
  clear hcs hn hL hr hb0 hs0
  subst hW0
  go_enter Try.func36, Try.ntmps36
  go_wp2_with (first
    | (refine wpList_load_row rfl 42 (.tmp 3) rfl (w.heap.size + 1) rfl _ _ _ _ HXS.out hui rfl HSX.out ?_)
    | fail)
  refine (HPU.out _ (Below.refl _ _)).mono ?_
  rintro e w5 ⟨A5, n5, p5, hl5, rfl, hown5, hb5⟩
  have H5 := Lib.hid hb5
  have HO5 := Lib.hid hown5
  have HLE := Lib.hid hl5
  clear hb5 hown5 hl5
  have c5 : w5.cell? ⟨w.heap.size, 0, none⟩ = some (.slice (h.A 0) (h.n 0) (h.c 0)) := (cell_of_block (HH.out _ H5.out)).trans rfl
  have f5 : w5.frozen? ⟨w.heap.size, 0, none⟩ = false := frozen_of_block (HH.out _ H5.out)
  have HZ5 := Lib.hid (HZ.out _ H5.out)
  have HH5 := Lib.hid (HH.out _ H5.out)
  have HB5 := Lib.hid (HBW.out _ H5.out)
  have H6 : Hid ((w5.setCell ⟨w.heap.size, 0, none⟩ (.slice A5 n5 p5)).heap[w.heap.size]? = some (.cells (h.set 0 A5 n5 p5).cells 37 (0, 0))) := Lib.hid (by rw [block_setCell HH5.out, h.set_cells _ _ _ 0 (by decide)])
  have HZ6 : Hid ((w5.setCell ⟨w.heap.size, 0, none⟩ (.slice A5 n5 p5)).heap[w.heap.size + 2]? = some (.cells Hs.zero 37 (0, 0))) := Lib.hid ((block_setCell_other (by omega) _).trans HZ5.out)
  have HB6 : Hid (Below w.heap.size w (w5.setCell ⟨w.heap.size, 0, none⟩ (.slice A5 n5 p5))) := Lib.hid (HB5.out.1.setCell (Nat.le_refl _) _)
  have HO6 : Hid ((w5.setCell ⟨w.heap.size, 0, none⟩ (.slice A5 n5 p5)).ownsRow (w.heap.size + 3) 42 14 (.slice A5 n5 p5) n5 (putG ordI L cs).flatten) := Lib.hid (own_far HO5.out (by rw [HS0.out]; simp) (by rw [HS0.out]; exact Nat.le_refl _))
  go_wp2_with (first
    | (refine wpList_load_row rfl 37 (.tmp 2) rfl w.heap.size rfl _ _ _ _ H6.out huh rfl (HSH.out _) ?_)
    | (refine wpList_store_row rfl 37 (.tmp 4) (.tmp 10) rfl (w.heap.size + 2) (h.set 0 A5 n5 p5).cells rfl rfl _ _ HZ6.out (HSH.out _) rfl (H1C.out _) ?_)
    | fail)
  exact bodyPost_ret (results_cell_row rfl _ _ (w.heap.size + 2) _ _ _ _ rfl (setRow_heap _ _ _ _ _ _ HZ6.out) huh rfl (HSH.out _)) rfl ⟨setRow_below HB6.out (by omega) _, A5, n5, p5, HLE.out, own_rowed HO6.out (by omega) (by omega), rfl⟩

set_option maxRecDepth 100000 in
set_option maxHeartbeats 3200000 in
theorem radds_any (h : Hs) (x : It) (L : List (List Value)) (w : World) (hx : x.Ok) (hn : h.n 0 = L.length) (hn6 : h.n 0 ≤ 1000) (hL : Things kItem L) (hr : Rd w w.heap.size (h.A 0) L.flatten) :
    Calls Try.prog 12 #[.agg h.cells, .agg x.cells.toArray] w (AddP h L x.cells (Pl.chE x) w) := by
  obtain ⟨W0, hW0⟩ : ∃ W0, W0 = ((w.alloc (.cells h.cells 37)).alloc (.cells x.cells.toArray 42)).alloc (.cells #[.slice none 0 0, .slice none 0 0, .slice none 0 0, .slice none 0 0, .slice none 0 0, .slice none 0 0, .slice none 0 0, .slice none 0 0, .slice none 0 0, .slice none 0 0, .slice none 0 0, .slice none 0 0, .slice none 0 0, .slice none 0 0, .int .i64 0] 37) := ⟨_, rfl⟩
  have hb0 : Below w.heap.size w W0 := by rw [hW0]; exact (((Below.refl _ _).alloc (Nat.le_refl _) _).alloc (by simp) _).alloc (by simp; omega) _
  have hs0 : W0.heap.size = w.heap.size + 3 := by rw [hW0]; simp
  have HH : Hid (∀ W, Below W0.heap.size W0 W → W.heap[w.heap.size]? = some (.cells h.cells 37 (0, 0))) := Lib.hid (fun W hW => (hW.block _ (by omega)).trans (by
    rw [hW0]
    exact (Below.heap_alloc _ _ _ (by simp; omega)).trans ((Below.heap_alloc _ _ _ (by simp)).trans (heap_alloc_new _ _))))
  have HX : Hid (∀ W, Below W0.heap.size W0 W → W.heap[w.heap.size + 1]? = some (.cells x.cells.toArray 42 (0, 0))) := Lib.hid (fun W hW => (hW.block _ (by omega)).trans (by
    rw [hW0]
    have := heap_alloc_new (w.alloc (.cells h.cells 37)) (.cells x.cells.toArray 42)
    exact (Below.heap_alloc _ _ _ (by simp)).trans (by simpa using this)))
  have HZ : Hid (∀ W, Below W0.heap.size W0 W → W.heap[w.heap.size + 2]? = some (.cells Hs.zero 37 (0, 0))) := Lib.hid (fun W hW => (hW.block _ (by omega)).trans (by
    rw [hW0]
    have := heap_alloc_new ((w.alloc (.cells h.cells 37)).alloc (.cells x.cells.toArray 42)) (.cells Hs.zero 37)
    simpa [Hs.zero] using this))
  have HBW : Hid (∀ W, Below W0.heap.size W0 W → Below w.heap.size w W ∧ w.heap.size + 3 ≤ W.heap.size) := Lib.hid (fun W hW => ⟨hb0.trans (hW.mono (by omega)), by have := hW.size; omega⟩)
  have hui := Try.underlying42
  have huh := Try.underlying37
  have HSX : Hid ((Try.prog.info? 42).map (·.size) = some x.cells.toArray.size) := Lib.hid (by rw [show (Try.prog.info? 42).map (·.size) = some 14 from by kernel_rfl, List.size_toArray, x.fits.length]; rfl)
  have HSH : Hid (∀ a : Hs, (Try.prog.info? 37).map (·.size) = some a.cells.size) := Lib.hid (fun a => by kernel_rfl)
  have HSQ : Hid ((Try.prog.info? 37).map (·.size) = some Hs.zero.size) := Lib.hid (by kernel_rfl)
  have H1C : Hid (∀ a : Hs, a.cells.all (·.oneCell') = true) := Lib.hid (fun a => by simp [Hs.cells, Value.oneCell'])
  have H1Q : Hid (Hs.zero.all (·.oneCell') = true) := Lib.hid (by simp [Hs.zero, Value.oneCell'])
  have HHS := Lib.hid (HH.out _ (Below.refl _ _))
  have HXS := Lib.hid (HX.out _ (Below.refl _ _))
  have HZS := Lib.hid (HZ.out _ (Below.refl _ _))
  have HFI : Hid (∀ W, Below W0.heap.size W0 W → Calls Try.prog 14 #[.agg h.cells, .string x.code] W fun e w' => e = .returned (.tuple #[.agg (gotI L x.code).toArray, .bool (atI L x.code).isSome]) ∧ Below W.heap.size W w') := Lib.hid (fun W hW =>
    rfinds_any h L x.code W hn (by omega) hL ((hr.below (HBW.out W hW).1).mono (HBW.out W hW).1.size))
  have HPU : Hid (∀ W, Below W0.heap.size W0 W → Calls Try.prog 36 #[.agg h.cells, .agg x.cells.toArray] W fun e w' => Below W.heap.size W w' ∧ ∃ A n c, n = (putG ordI L x.cells).length ∧ w'.ownsRow W.heap.size 42 14 (.slice A n c) n (putG ordI L x.cells).flatten ∧ e = .returned (.agg (h.set 0 A n c).cells)) := Lib.hid (fun W hW =>
    rItem_any h x.cells L W x.fits hn hn6 hL ((hr.below (HBW.out W hW).1).mono (HBW.out W hW).1.size))
  obtain ⟨k, hk⟩ : ∃ k, Pl.chE x = k := ⟨_, rfl⟩
  have HCK : Hid (∀ W, Calls Try.prog 17 #[.agg x.cells.toArray] W fun e w' => e = .returned (.int .i64 k) ∧ Below W.heap.size W w') := Lib.hid (fun W => by rw [← hk]; exact rcheck_any x hx W)
  have HC0 : Hid (∀ W, Below W0.heap.size W0 W → W.cell? ⟨w.heap.size + 1, 0, none⟩ = some (.string x.code)) := Lib.hid (fun W hW => (cell_of_block (HX.out W hW)).trans rfl)
  have HH0 : Hid (∀ W, Below W0.heap.size W0 W → W.cell? ⟨w.heap.size, 0, none⟩ = some (.slice (h.A 0) (h.n 0) (h.c 0))) := Lib.hid (fun W hW => (cell_of_block (HH.out W hW)).trans rfl)
  have HA : Hid (addE L x.cells k = if k ≠ 0 then k else if (atI L x.code).isSome = true then 11 else if 64 ≤ L.length then 14 else 0) := Lib.hid rfl
  have HN := Lib.hid hn
  have HS0 := Lib.hid hs0
  rw [hk]
  have hgf := gotI_fits hL x.code
  obtain ⟨g, hg⟩ : ∃ g, gotI L x.code = g := ⟨_, rfl⟩
  rw [hg] at hgf
  have HSG : Hid ((Try.prog.info? 42).map (·.size) = some g.toArray.size) := Lib.hid (by rw [show (Try.prog.info? 42).map (·.size) = some 14 from by kernel_rfl, List.size_toArray, hgf.length]; rfl)
  have HOG : Hid ((#[.string ⟨#[]⟩, .string ⟨#[]⟩, .int .i64 0, .string ⟨#[]⟩, .int .i64 0, .string ⟨#[]⟩, .int .i64 0, .string ⟨#[]⟩, .int .i64 0, .int .i64 0, .int .i64 0, .bool false, .bool false, .bool false] : Array Value).size = g.toArray.size) := Lib.hid (by rw [List.size_toArray, List.size_toArray, hgf.length]; rfl)
  have HCG : Hid (g.toArray.all (·.oneCell') = true) := Lib.hid (all_oneCell_toArray (fits_one hgf))
  clear hgf
  obtain ⟨o, ho⟩ : ∃ o, (atI L x.code).isSome = o := ⟨_, rfl⟩
  rw [hg, ho] at HFI
  rw [ho] at HA
  obtain ⟨s, hs⟩ : ∃ s, x.code = s := ⟨_, rfl⟩
  rw [hs] at HFI HC0
  clear hn hL hr hb0 hs0 hx hk hg ho hs
  subst hW0
  have hcase : (k ≠ 0 ∧ Hid (addE L x.cells k = k)) ∨ (k = 0 ∧ o = true ∧ Hid (addE L x.cells k = 11)) ∨ (k = 0 ∧ o = false ∧ (64 : Int) ≤ (h.n 0 : Int) ∧ Hid (addE L x.cells k = 14)) ∨ (k = 0 ∧ o = false ∧ (h.n 0 : Int) < 64 ∧ Hid (addE L x.cells k = 0)) := by
    have := HN.out
    by_cases hk : k = 0
    · cases o with
      | true => exact .inr (.inl ⟨hk, rfl, Lib.hid (by rw [HA.out, if_neg (by omega), if_pos rfl])⟩)
      | false =>
        by_cases h64 : 64 ≤ L.length
        · exact .inr (.inr (.inl ⟨hk, rfl, by omega, Lib.hid (by rw [HA.out, if_neg (by omega), if_neg (by simp), if_pos h64])⟩))
        · exact .inr (.inr (.inr ⟨hk, rfl, by omega, Lib.hid (by rw [HA.out, if_neg (by omega), if_neg (by simp), if_neg h64])⟩))
    · exact .inl ⟨hk, Lib.hid (by rw [HA.out, if_pos hk])⟩
  clear HA
  go_enter Try.func12, Try.ntmps12
  go_wp2_with (first
    | (refine wpList_load_row rfl 42 (.tmp 3) rfl (w.heap.size + 1) rfl _ _ _ _ HXS.out hui rfl HSX.out ?_)
    | fail)
  refine (HCK.out _).mono ?_
  rintro e w1 ⟨rfl, hb1⟩
  have H1 := Lib.hid hb1
  clear hb1
  have HH1 := Lib.hid (HH.out _ H1.out)
  have c1 := HC0.out _ H1.out
  go_wp2_with (first
    | (refine wpList_load_row rfl 37 (.tmp 2) rfl w.heap.size rfl _ _ _ _ HH1.out huh rfl (HSH.out _) ?_)
    | fail)
  refine (HFI.out _ H1.out).mono ?_
  rintro e w2 ⟨rfl, hb2⟩
  have H2 := Lib.hid (H1.out.trans (hb2.mono H1.out.size))
  clear hb2 c1
  have HQ : Hid ((w2.alloc (.cells #[.string ⟨#[]⟩, .string ⟨#[]⟩, .int .i64 0, .string ⟨#[]⟩, .int .i64 0, .string ⟨#[]⟩, .int .i64 0, .string ⟨#[]⟩, .int .i64 0, .int .i64 0, .int .i64 0, .bool false, .bool false, .bool false] 42)).heap[w2.heap.size]? = some (.cells #[.string ⟨#[]⟩, .string ⟨#[]⟩, .int .i64 0, .string ⟨#[]⟩, .int .i64 0, .string ⟨#[]⟩, .int .i64 0, .string ⟨#[]⟩, .int .i64 0, .int .i64 0, .int .i64 0, .bool false, .bool false, .bool false] 42 (0, 0))) := Lib.hid (heap_alloc_new _ _)
  obtain ⟨w3, hw3⟩ : ∃ w3, w3 = (w2.alloc (.cells #[.string ⟨#[]⟩, .string ⟨#[]⟩, .int .i64 0, .string ⟨#[]⟩, .int .i64 0, .string ⟨#[]⟩, .int .i64 0, .string ⟨#[]⟩, .int .i64 0, .int .i64 0, .int .i64 0, .bool false, .bool false, .bool false] 42)).setRow w2.heap.size g.toArray := ⟨_, rfl⟩
  have H3 := Lib.hid (H2.out.trans (setRow_below ((Below.refl w2.heap.size w2).alloc (Nat.le_refl _) (.cells #[.string ⟨#[]⟩, .string ⟨#[]⟩, .int .i64 0, .string ⟨#[]⟩, .int .i64 0, .string ⟨#[]⟩, .int .i64 0, .string ⟨#[]⟩, .int .i64 0, .int .i64 0, .int .i64 0, .bool false, .bool false, .bool false] 42)) (Nat.le_refl _) g.toArray |>.mono H2.out.size))
  rw [← hw3] at H3
  have HW3 := Lib.hid hw3
  clear hw3
  have HB2 := Lib.hid (HBW.out _ H3.out)
  have HZ2 := Lib.hid (HZ.out _ H3.out)
  have HH2 := Lib.hid (HH.out _ H3.out)
  have HX2 := Lib.hid (HX.out _ H3.out)
  have d0 := HH0.out _ H3.out
  rcases hcase with ⟨hk, HA⟩ | ⟨rfl, rfl, HA⟩ | ⟨rfl, rfl, h64, HA⟩ | ⟨rfl, rfl, h64, HA⟩
  · have hk0 : ((k : Int) == 0) = false := by simpa using hk
    have HK := Lib.hid hk
    clear hk
    go_wp2_with (first
      | (refine wpList_store_row rfl 42 (.tmp 7) (.tmp 16) rfl w2.heap.size g.toArray rfl rfl _ _ HQ.out HSG.out HOG.out HCG.out ?_; rw [← HW3.out])
      | (refine wpList_store_row rfl 37 (.tmp 4) (.tmp 33) rfl (w.heap.size + 2) Hs.zero rfl rfl _ _ HZ2.out HSQ.out rfl H1Q.out ?_)
      | fail)
    exact bodyPost_ret (results_row_tmp rfl _ _ (w.heap.size + 2) _ _ _ _ rfl (setRow_heap _ _ _ _ _ _ HZ2.out) huh rfl HSQ.out) rfl ⟨setRow_below HB2.out.1 (by omega) _, .inl ⟨by rw [HA.out]; exact HK.out, by rw [HA.out]; rfl⟩⟩
  · go_wp2_with (first
      | (refine wpList_store_row rfl 42 (.tmp 7) (.tmp 16) rfl w2.heap.size g.toArray rfl rfl _ _ HQ.out HSG.out HOG.out HCG.out ?_; rw [← HW3.out])
      | (refine wpList_store_row rfl 37 (.tmp 4) (.tmp 33) rfl (w.heap.size + 2) Hs.zero rfl rfl _ _ HZ2.out HSQ.out rfl H1Q.out ?_)
      | fail)
    exact bodyPost_ret (results_row_tmp rfl _ _ (w.heap.size + 2) _ _ _ _ rfl (setRow_heap _ _ _ _ _ _ HZ2.out) huh rfl HSQ.out) rfl ⟨setRow_below HB2.out.1 (by omega) _, .inl ⟨by rw [HA.out]; decide, by rw [HA.out]; rfl⟩⟩
  · go_wp2_with (first
      | (refine wpList_store_row rfl 42 (.tmp 7) (.tmp 16) rfl w2.heap.size g.toArray rfl rfl _ _ HQ.out HSG.out HOG.out HCG.out ?_; rw [← HW3.out])
      | (refine wpList_store_row rfl 37 (.tmp 4) (.tmp 33) rfl (w.heap.size + 2) Hs.zero rfl rfl _ _ HZ2.out HSQ.out rfl H1Q.out ?_)
      | fail)
    exact bodyPost_ret (results_row_tmp rfl _ _ (w.heap.size + 2) _ _ _ _ rfl (setRow_heap _ _ _ _ _ _ HZ2.out) huh rfl HSQ.out) rfl ⟨setRow_below HB2.out.1 (by omega) _, .inl ⟨by rw [HA.out]; decide, by rw [HA.out]; rfl⟩⟩
  · go_wp2_with (first
      | (refine wpList_store_row rfl 42 (.tmp 7) (.tmp 16) rfl w2.heap.size g.toArray rfl rfl _ _ HQ.out HSG.out HOG.out HCG.out ?_; rw [← HW3.out])
      | (refine wpList_load_row rfl 37 (.tmp 2) rfl w.heap.size rfl _ _ _ _ HH2.out huh rfl (HSH.out _) ?_)
      | (refine wpList_load_row rfl 42 (.tmp 3) rfl (w.heap.size + 1) rfl _ _ _ _ HX2.out hui rfl HSX.out ?_)
      | fail)
    refine (HPU.out _ H3.out).mono ?_
    rintro e w4 ⟨hb4, A, n, c, hl, hown, rfl⟩
    have H4 := Lib.hid (H3.out.trans (hb4.mono H3.out.size))
    have HO4 := Lib.hid hown
    have HLE := Lib.hid hl
    clear hb4 hown hl
    have HB4 := Lib.hid (HBW.out _ H4.out)
    have HZ4 := Lib.hid (HZ.out _ H4.out)
    go_wp2_with (first
      | (refine wpList_store_row rfl 37 (.tmp 4) (.tmp 37) rfl (w.heap.size + 2) (h.set 0 A n c).cells rfl rfl _ _ HZ4.out (HSH.out _) rfl (H1C.out _) ?_)
      | fail)
    exact bodyPost_ret (results_row_tmp rfl _ _ (w.heap.size + 2) _ _ _ _ rfl (setRow_heap _ _ _ _ _ _ HZ4.out) huh rfl (HSH.out _)) rfl ⟨setRow_below HB4.out.1 (by omega) _, .inr ⟨HA.out, A, n, c, HLE.out, own_rowed HO4.out (by have := HB2.out.2; omega) (by have := HB2.out.2; omega), rfl⟩⟩
end Go.Proofs.Ytcihibmapbigdaa
