/-
  CONTRACT of items' Add.
-/
import Derived.Test.YtcihibmapbigdaaIFind
import Derived.Test.YtcihibmapbigdaaHLents
import Derived.Test.YtcihibmapbigdaaHHeld
namespace Go.Proofs.Ytcihibmapbigdaa
set_option linter.unusedVariables false
open Go.RowKit
open Pl (firstG findG putG)

theorem Hs.val_cells (h : Hs) : h.val = .agg h.cells := rfl
/-- What Add answers, k being what Check said. -/
def addE (L : List (List Value)) (cs : List Value) (k : Nat) : Nat := if k ≠ 0 then k else if (atI L (codeOf cs)).isSome = true then 11 else if 64 ≤ L.length then 14 else 0
/-- What Add leaves. -/
def AddP (h : Hs) (L : List (List Value)) (cs : List Value) (k : Nat) (w : World) (e : Ending) (w' : World) : Prop :=
  Below w.heap.size w w' ∧ ((addE L cs k ≠ 0 ∧ e = .returned (.tuple #[.agg Hs.zero, .int .i64 (addE L cs k)])) ∨
    (addE L cs k = 0 ∧ ∃ A n c, n = (putG ordI L cs).length ∧ w'.ownsRow w.heap.size 42 14 (.slice A n c) n (putG ordI L cs).flatten ∧ e = .returned (.tuple #[.agg (h.set 0 A n c).cells, .int .i64 0])))
theorem setRow_below {B : Nat} {w w' : World} {g : Nat} (hb : Below B w w') (hg : B ≤ g) (cs : Array Value) : Below B w (w'.setRow g cs) :=
  ⟨hb.os, hb.tape, hb.output, by simpa using hb.size, fun k hk => (setRow_other _ _ k _ (by omega)).trans (hb.block k hk)⟩

/-- A row that the call made, behind a store elsewhere. -/
theorem own_far {w : World} {B B' size n : Nat} {e : TypeId} {v : Value} {xs : List Value} {p : Addr} {u : Value} (h : w.ownsRow B e size v n xs) (hp : p.block < B) (hB : B' ≤ B) : (w.setCell p u).ownsRow B' e size v n xs := by
  refine ⟨h.1, h.2.imp id fun ⟨g, cap, cur, hv, hb, hh, hr⟩ => ⟨g, cap, cur, hv, by omega, (Below.heap_setCell _ _ _ _ (by omega)).trans hh, hr⟩⟩
theorem own_rowed {w : World} {B B' size n g : Nat} {e : TypeId} {v : Value} {xs : List Value} {cs : Array Value} (h : w.ownsRow B e size v n xs) (hp : g < B) (hB : B' ≤ B) : (w.setRow g cs).ownsRow B' e size v n xs := by
  refine ⟨h.1, h.2.imp id fun ⟨g', cap, cur, hv, hb, hh, hr⟩ => ⟨g', cap, cur, hv, by omega, (setRow_other _ _ _ _ (by omega)).trans hh, hr⟩⟩

set_option maxRecDepth 100000 in
set_option maxHeartbeats 3200000 in
theorem adds_any (h : Hs) (cs : List Value) (k : Nat) (L : List (List Value)) (w : World) (hcs : Fits kItem cs)
    (hck : ∀ W, Calls Try.prog 16 #[.agg cs.toArray] W fun e w' => e = .returned (.int .i64 k) ∧ Below W.heap.size W w')
    (hn : h.n 0 = L.length) (hn6 : h.n 0 ≤ 1000) (hnc : h.n 0 ≤ h.c 0) (hc : h.c 0 ≤ 9223372036854775807) (hL : Things kItem L) (hr : Rd w w.heap.size (h.A 0) L.flatten) :
    Calls Try.prog 11 #[.agg h.cells, .agg cs.toArray] w (AddP h L cs k w) := by
  obtain ⟨W0, hW0⟩ : ∃ W0, W0 = ((w.alloc (.cells h.cells 37)).alloc (.cells cs.toArray 42)).alloc (.cells #[.slice none 0 0, .slice none 0 0, .slice none 0 0, .slice none 0 0, .slice none 0 0, .slice none 0 0, .slice none 0 0, .slice none 0 0, .slice none 0 0, .slice none 0 0, .slice none 0 0, .slice none 0 0, .slice none 0 0, .slice none 0 0, .int .i64 0] 37) := ⟨_, rfl⟩
  have hb0 : Below w.heap.size w W0 := by rw [hW0]; exact (((Below.refl _ _).alloc (Nat.le_refl _) _).alloc (by simp) _).alloc (by simp; omega) _
  have hs0 : W0.heap.size = w.heap.size + 3 := by rw [hW0]; simp
  have HH : Hid (∀ W, Below W0.heap.size W0 W → W.heap[w.heap.size]? = some (.cells h.cells 37 (0, 0))) := Lib.hid (fun W hW => (hW.block _ (by omega)).trans (by
    rw [hW0]
    exact (Below.heap_alloc _ _ _ (by simp; omega)).trans ((Below.heap_alloc _ _ _ (by simp)).trans (heap_alloc_new _ _))))
  have HX : Hid (∀ W, Below W0.heap.size W0 W → W.heap[w.heap.size + 1]? = some (.cells cs.toArray 42 (0, 0))) := Lib.hid (fun W hW => (hW.block _ (by omega)).trans (by
    rw [hW0]
    have := heap_alloc_new (w.alloc (.cells h.cells 37)) (.cells cs.toArray 42)
    exact (Below.heap_alloc _ _ _ (by simp)).trans (by simpa using this)))
  have HZ : Hid (∀ W, Below W0.heap.size W0 W → W.heap[w.heap.size + 2]? = some (.cells Hs.zero 37 (0, 0))) := Lib.hid (fun W hW => (hW.block _ (by omega)).trans (by
    rw [hW0]
    have := heap_alloc_new ((w.alloc (.cells h.cells 37)).alloc (.cells cs.toArray 42)) (.cells Hs.zero 37)
    simpa [Hs.zero] using this))
  have HBW : Hid (∀ W, Below W0.heap.size W0 W → Below w.heap.size w W ∧ w.heap.size + 3 ≤ W.heap.size) := Lib.hid (fun W hW => ⟨hb0.trans (hW.mono (by omega)), by have := hW.size; omega⟩)
  obtain ⟨r, hcr⟩ := item_code hcs
  have HC0 : Hid (∀ W, Below W0.heap.size W0 W → W.cell? ⟨w.heap.size + 1, 0, none⟩ = some (.string (codeOf cs))) := Lib.hid (fun W hW => by
    rw [cell_of_row _ (w.heap.size + 1) 0 cs.toArray 42 (0, 0) (HX.out W hW), List.getElem?_toArray]
    rw [hcr]; rfl)
  have HH0 : Hid (∀ W, Below W0.heap.size W0 W → W.cell? ⟨w.heap.size, 0, none⟩ = some (.slice (h.A 0) (h.n 0) (h.c 0))) := Lib.hid (fun W hW => (cell_of_block (HH.out W hW)).trans rfl)
  obtain ⟨s, hs⟩ : ∃ s, codeOf cs = s := ⟨_, rfl⟩
  have HFI : Hid (∀ W, Below W0.heap.size W0 W → Calls Try.prog 13 #[.agg h.cells, .string s] W fun e w' => e = .returned (.tuple #[.agg (gotI L s).toArray, .bool (atI L s).isSome]) ∧ Below W.heap.size W w') := Lib.hid (fun W hW =>
    finds_any h L s W hn (by omega) hL ((hr.below (HBW.out W hW).1).mono (HBW.out W hW).1.size))
  have HPU : Hid (∀ W, Below W0.heap.size W0 W → Calls Try.prog 35 #[.agg #[tv], .slice (h.A 0) (h.n 0) (h.c 0), .agg cs.toArray] W (NewItem W (putG ordI L cs))) := Lib.hid (fun W hW =>
    putItem (h.A 0) (h.n 0) (h.c 0) 56 #[] ordI cs L W hn hnc hc (by omega) hL hcs ((hr.below (HBW.out W hW).1).mono (HBW.out W hW).1.size) (tellsI W))
  have HCK := Lib.hid hck
  have HN := Lib.hid hn
  have hui := Try.underlying42
  have huh := Try.underlying37
  have hgf := gotI_fits hL s
  have HSZ : Hid (∀ y, Fits kItem y → (Try.prog.info? 42).map (·.size) = some y.toArray.size) := Lib.hid (fun y hy => by rw [show (Try.prog.info? 42).map (·.size) = some 14 from by kernel_rfl, List.size_toArray, hy.length]; rfl)
  have HSX := Lib.hid (HSZ.out cs hcs)
  have HSG := Lib.hid (HSZ.out _ hgf)
  have HOG : Hid ((#[.string ⟨#[]⟩, .string ⟨#[]⟩, .int .i64 0, .string ⟨#[]⟩, .int .i64 0, .string ⟨#[]⟩, .int .i64 0, .string ⟨#[]⟩, .int .i64 0, .int .i64 0, .int .i64 0, .bool false, .bool false, .bool false] : Array Value).size = (gotI L s).toArray.size) := Lib.hid (by rw [List.size_toArray, List.size_toArray, hgf.length]; rfl)
  have HCG : Hid ((gotI L s).toArray.all (·.oneCell') = true) := Lib.hid (all_oneCell_toArray (fits_one hgf))
  have HSH : Hid (∀ a : Hs, (Try.prog.info? 37).map (·.size) = some a.cells.size) := Lib.hid (fun a => by kernel_rfl)
  have HSQ : Hid ((Try.prog.info? 37).map (·.size) = some Hs.zero.size) := Lib.hid (by kernel_rfl)
  have H1C : Hid (∀ a : Hs, a.cells.all (·.oneCell') = true) := Lib.hid (fun a => by simp [Hs.cells, Value.oneCell'])
  have H1Q : Hid (Hs.zero.all (·.oneCell') = true) := Lib.hid (by simp [Hs.zero, Value.oneCell'])
  have HA : Hid (addE L cs k = if k ≠ 0 then k else if (atI L s).isSome = true then 11 else if 64 ≤ L.length then 14 else 0) := Lib.hid (by unfold addE; rw [hs])
  rw [hs] at HC0
  have HXR : Hid (∀ W, Below W0.heap.size W0 W → W.rangeAt (w.heap.size + 1) 0 cs) := Lib.hid (fun W hW i v hv => by rw [cell_of_block (HX.out W hW), List.getElem?_toArray, Nat.zero_add]; exact hv)
  have HSL : Hid ((Try.prog.info? 42).map (·.size) = some cs.length) := Lib.hid (by have := HSX.out; rwa [List.size_toArray] at this)
  have HST : Hid (∀ W, Below W0.heap.size W0 W → W.cell? ⟨w.heap.size, 0, none⟩ = some (.slice (h.A 0) (h.n 0) (h.c 0)) ∧ W.rangeAt (w.heap.size + 1) 0 cs) := Lib.hid (fun W hW => ⟨HH0.out W hW, HXR.out W hW⟩)
  have HX0 := Lib.hid (HX.out _ (Below.refl _ _))
  obtain ⟨g, hg⟩ : ∃ g, gotI L s = g := ⟨_, rfl⟩
  obtain ⟨o, ho⟩ : ∃ o, (atI L s).isSome = o := ⟨_, rfl⟩
  rw [hg] at HSG HOG HCG HFI
  rw [ho] at HFI HA
  clear hcs hck hn hL hr hb0 hcr hs hgf hg ho
  subst hW0
  by_cases hk : k = 0
  · subst hk
    cases o with
    | true =>
      rw [if_neg (by simp), if_pos rfl] at HA
      go_enter Try.func11, Try.ntmps11
      go_wp2_with (first
        | (refine wpList_load_row rfl 42 (.tmp 3) rfl (w.heap.size + 1) rfl _ _ _ _ HX0.out hui rfl HSX.out ?_)
        | fail)
      refine (HCK.out _).mono ?_
      rintro e w1 ⟨rfl, hb1⟩
      have H1 := Lib.hid hb1
      clear hb1
      have HH1 := Lib.hid (HH.out _ H1.out)
      have c1 := HC0.out _ H1.out
      go_wp2_with (first
        | (refine wpList_load_row rfl 37 (.tmp 2) rfl w.heap.size rfl _ _ _ _ HH1.out huh rfl (HSH.out _) ?_)
        | fail)
      refine (HFI.out _ H1.out).mono ?_
      rintro e w2 ⟨rfl, hb2⟩
      have H2 := Lib.hid (H1.out.trans (hb2.mono H1.out.size))
      clear hb2 c1
      have HB2 := Lib.hid (HBW.out _ H2.out)
      have HQ : Hid ((w2.alloc (.cells #[.string ⟨#[]⟩, .string ⟨#[]⟩, .int .i64 0, .string ⟨#[]⟩, .int .i64 0, .string ⟨#[]⟩, .int .i64 0, .string ⟨#[]⟩, .int .i64 0, .int .i64 0, .int .i64 0, .bool false, .bool false, .bool false] 42)).heap[w2.heap.size]? = some (.cells #[.string ⟨#[]⟩, .string ⟨#[]⟩, .int .i64 0, .string ⟨#[]⟩, .int .i64 0, .string ⟨#[]⟩, .int .i64 0, .string ⟨#[]⟩, .int .i64 0, .int .i64 0, .int .i64 0, .bool false, .bool false, .bool false] 42 (0, 0))) := Lib.hid (heap_alloc_new _ _)
      obtain ⟨w3, hw3⟩ : ∃ w3, w3 = (w2.alloc (.cells #[.string ⟨#[]⟩, .string ⟨#[]⟩, .int .i64 0, .string ⟨#[]⟩, .int .i64 0, .string ⟨#[]⟩, .int .i64 0, .string ⟨#[]⟩, .int .i64 0, .int .i64 0, .int .i64 0, .bool false, .bool false, .bool false] 42)).setRow w2.heap.size g.toArray := ⟨_, rfl⟩
      have H3 := Lib.hid (H2.out.trans (setRow_below ((Below.refl w2.heap.size w2).alloc (Nat.le_refl _) (.cells #[.string ⟨#[]⟩, .string ⟨#[]⟩, .int .i64 0, .string ⟨#[]⟩, .int .i64 0, .string ⟨#[]⟩, .int .i64 0, .string ⟨#[]⟩, .int .i64 0, .int .i64 0, .int .i64 0, .bool false, .bool false, .bool false] 42)) (Nat.le_refl _) g.toArray |>.mono H2.out.size))
      rw [← hw3] at H3
      have HW3 := Lib.hid hw3
      clear hw3
      have HZ3 := Lib.hid (HZ.out _ H3.out)
      have HB3 := Lib.hid (HBW.out _ H3.out)
      have c3 := HH0.out _ H3.out
      go_wp2_with (first
        | (refine wpList_store_row rfl 42 (.tmp 7) (.tmp 20) rfl w2.heap.size g.toArray rfl rfl _ _ HQ.out HSG.out HOG.out HCG.out ?_; rw [← HW3.out])
        | (refine wpList_store_row rfl 37 (.tmp 4) (.tmp 23) rfl (w.heap.size + 2) Hs.zero rfl rfl _ _ HZ3.out HSQ.out rfl H1Q.out ?_)
        | fail)
      exact bodyPost_ret (results_row_tmp rfl _ _ (w.heap.size + 2) _ _ _ _ rfl (setRow_heap _ _ _ _ _ _ HZ3.out) huh rfl HSQ.out) rfl ⟨setRow_below HB3.out.1 (by omega) _, .inl ⟨by rw [HA.out]; decide, by rw [HA.out]; rfl⟩⟩
    | false =>
      rw [if_neg (by simp), if_neg (by simp)] at HA
      by_cases h64 : 64 ≤ L.length
      · rw [if_pos h64] at HA
        have hn64 : (64 : Int) ≤ (h.n 0 : Int) := by have := HN.out; omega
        clear h64
        go_enter Try.func11, Try.ntmps11
        go_wp2_with (first
          | (refine wpList_load_row rfl 42 (.tmp 3) rfl (w.heap.size + 1) rfl _ _ _ _ HX0.out hui rfl HSX.out ?_)
          | fail)
        refine (HCK.out _).mono ?_
        rintro e w1 ⟨rfl, hb1⟩
        have H1 := Lib.hid hb1
        clear hb1
        have HH1 := Lib.hid (HH.out _ H1.out)
        have c1 := HC0.out _ H1.out
        go_wp2_with (first
          | (refine wpList_load_row rfl 37 (.tmp 2) rfl w.heap.size rfl _ _ _ _ HH1.out huh rfl (HSH.out _) ?_)
          | fail)
        refine (HFI.out _ H1.out).mono ?_
        rintro e w2 ⟨rfl, hb2⟩
        have H2 := Lib.hid (H1.out.trans (hb2.mono H1.out.size))
        clear hb2 c1
        have HB2 := Lib.hid (HBW.out _ H2.out)
        have HQ : Hid ((w2.alloc (.cells #[.string ⟨#[]⟩, .string ⟨#[]⟩, .int .i64 0, .string ⟨#[]⟩, .int .i64 0, .string ⟨#[]⟩, .int .i64 0, .string ⟨#[]⟩, .int .i64 0, .int .i64 0, .int .i64 0, .bool false, .bool false, .bool false] 42)).heap[w2.heap.size]? = some (.cells #[.string ⟨#[]⟩, .string ⟨#[]⟩, .int .i64 0, .string ⟨#[]⟩, .int .i64 0, .string ⟨#[]⟩, .int .i64 0, .string ⟨#[]⟩, .int .i64 0, .int .i64 0, .int .i64 0, .bool false, .bool false, .bool false] 42 (0, 0))) := Lib.hid (heap_alloc_new _ _)
        obtain ⟨w3, hw3⟩ : ∃ w3, w3 = (w2.alloc (.cells #[.string ⟨#[]⟩, .string ⟨#[]⟩, .int .i64 0, .string ⟨#[]⟩, .int .i64 0, .string ⟨#[]⟩, .int .i64 0, .string ⟨#[]⟩, .int .i64 0, .int .i64 0, .int .i64 0, .bool false, .bool false, .bool false] 42)).setRow w2.heap.size g.toArray := ⟨_, rfl⟩
        have H3 := Lib.hid (H2.out.trans (setRow_below ((Below.refl w2.heap.size w2).alloc (Nat.le_refl _) (.cells #[.string ⟨#[]⟩, .string ⟨#[]⟩, .int .i64 0, .string ⟨#[]⟩, .int .i64 0, .string ⟨#[]⟩, .int .i64 0, .string ⟨#[]⟩, .int .i64 0, .int .i64 0, .int .i64 0, .bool false, .bool false, .bool false] 42)) (Nat.le_refl _) g.toArray |>.mono H2.out.size))
        rw [← hw3] at H3
        have HW3 := Lib.hid hw3
        clear hw3
        have HZ3 := Lib.hid (HZ.out _ H3.out)
        have HB3 := Lib.hid (HBW.out _ H3.out)
        have c3 := HH0.out _ H3.out
        go_wp2_with (first
          | (refine wpList_store_row rfl 42 (.tmp 7) (.tmp 20) rfl w2.heap.size g.toArray rfl rfl _ _ HQ.out HSG.out HOG.out HCG.out ?_; rw [← HW3.out])
          | (refine wpList_store_row rfl 37 (.tmp 4) (.tmp 28) rfl (w.heap.size + 2) Hs.zero rfl rfl _ _ HZ3.out HSQ.out rfl H1Q.out ?_)
          | fail)
        exact bodyPost_ret (results_row_tmp rfl _ _ (w.heap.size + 2) _ _ _ _ rfl (setRow_heap _ _ _ _ _ _ HZ3.out) huh rfl HSQ.out) rfl ⟨setRow_below HB3.out.1 (by omega) _, .inl ⟨by rw [HA.out]; decide, by rw [HA.out]; rfl⟩⟩
      · rw [if_neg h64] at HA
        have hn64 : (h.n 0 : Int) < 64 := by have := HN.out; omega
        clear h64
        go_enter Try.func11, Try.ntmps11
        go_wp2_with (first
          | (refine wpList_load_row rfl 42 (.tmp 3) rfl (w.heap.size + 1) rfl _ _ _ _ HX0.out hui rfl HSX.out ?_)
          | fail)
        refine (HCK.out _).mono ?_
        rintro e w1 ⟨rfl, hb1⟩
        have H1 := Lib.hid hb1
        clear hb1
        have HH1 := Lib.hid (HH.out _ H1.out)
        have c1 := HC0.out _ H1.out
        go_wp2_with (first
          | (refine wpList_load_row rfl 37 (.tmp 2) rfl w.heap.size rfl _ _ _ _ HH1.out huh rfl (HSH.out _) ?_)
          | fail)
        refine (HFI.out _ H1.out).mono ?_
        rintro e w2 ⟨rfl, hb2⟩
        have H2 := Lib.hid (H1.out.trans (hb2.mono H1.out.size))
        clear hb2 c1
        have HB2 := Lib.hid (HBW.out _ H2.out)
        have HQ : Hid ((w2.alloc (.cells #[.string ⟨#[]⟩, .string ⟨#[]⟩, .int .i64 0, .string ⟨#[]⟩, .int .i64 0, .string ⟨#[]⟩, .int .i64 0, .string ⟨#[]⟩, .int .i64 0, .int .i64 0, .int .i64 0, .bool false, .bool false, .bool false] 42)).heap[w2.heap.size]? = some (.cells #[.string ⟨#[]⟩, .string ⟨#[]⟩, .int .i64 0, .string ⟨#[]⟩, .int .i64 0, .string ⟨#[]⟩, .int .i64 0, .string ⟨#[]⟩, .int .i64 0, .int .i64 0, .int .i64 0, .bool false, .bool false, .bool false] 42 (0, 0))) := Lib.hid (heap_alloc_new _ _)
        obtain ⟨w3, hw3⟩ : ∃ w3, w3 = (w2.alloc (.cells #[.string ⟨#[]⟩, .string ⟨#[]⟩, .int .i64 0, .string ⟨#[]⟩, .int .i64 0, .string ⟨#[]⟩, .int .i64 0, .string ⟨#[]⟩, .int .i64 0, .int .i64 0, .int .i64 0, .bool false, .bool false, .bool false] 42)).setRow w2.heap.size g.toArray := ⟨_, rfl⟩
        have H3 := Lib.hid (H2.out.trans (setRow_below ((Below.refl w2.heap.size w2).alloc (Nat.le_refl _) (.cells #[.string ⟨#[]⟩, .string ⟨#[]⟩, .int .i64 0, .string ⟨#[]⟩, .int .i64 0, .string ⟨#[]⟩, .int .i64 0, .string ⟨#[]⟩, .int .i64 0, .int .i64 0, .int .i64 0, .bool false, .bool false, .bool false] 42)) (Nat.le_refl _) g.toArray |>.mono H2.out.size))
        rw [← hw3] at H3
        have HW3 := Lib.hid hw3
        clear hw3
        have HZ3 := Lib.hid (HZ.out _ H3.out)
        have HB3 := Lib.hid (HBW.out _ H3.out)
        have c3 := HH0.out _ H3.out
        go_wp2_with (first
          | (refine wpList_store_row rfl 42 (.tmp 7) (.tmp 20) rfl w2.heap.size g.toArray rfl rfl _ _ HQ.out HSG.out HOG.out HCG.out ?_; rw [← HW3.out])
          | fail)
        refine lastW_region (S := (fun w' => w'.cell? ⟨w.heap.size, 0, none⟩ = some (.slice (h.A 0) (h.n 0) (h.c 0)) ∧ w'.rangeAt (w.heap.size + 1) 0 cs)) (n := 6) (by kernel_rfl) ?_
        have ST3 := HST.out _ H3.out.drew
        refine LastW.take (i := 1) (v := .pointer (some ⟨w.heap.size, 0, none⟩)) rfl (by kernel_rfl) (by kernel_rfl) (by kernel_rfl) (by kernel_rfl) (by decide) (fun _ _ _ h => h.elim) (.inl ⟨by kernel_rfl, fun w hw => by clear hw; go_simp⟩) ST3 ?_
        (try simp only [Act.put, List.getElem_toArray, List.getElem_cons_succ, List.getElem_cons_zero, List.setIfInBounds_toArray, List.set_cons_zero, List.set_cons_succ])
        refine LastW.take (i := 2) (v := .slice (h.A 0) (h.n 0) (h.c 0)) rfl (by kernel_rfl) (by kernel_rfl) (by kernel_rfl) (by kernel_rfl) (by decide) (fun _ _ _ h => h.elim) (.inl ⟨by kernel_rfl, fun w hw => by have hw := hw.1; go_simp⟩) ST3 ?_
        (try simp only [Act.put, List.getElem_toArray, List.getElem_cons_succ, List.getElem_cons_zero, List.setIfInBounds_toArray, List.set_cons_zero, List.set_cons_succ])
        refine LastW.take (i := 3) (v := .agg cs.toArray) rfl (by kernel_rfl) (by kernel_rfl) (by kernel_rfl) (by kernel_rfl) (by decide) (fun _ _ _ h => h.elim) (yieldsIf_load_mid (by kernel_rfl) 42 (.tmp 3) rfl (w.heap.size + 1) 0 rfl cs _ (fun w h => h.2) hui rfl HSL.out) ST3 ?_
        (try simp only [Act.put, List.getElem_toArray, List.getElem_cons_succ, List.getElem_cons_zero, List.setIfInBounds_toArray, List.set_cons_zero, List.set_cons_succ])
        refine LastW.one (i := 0) (by kernel_rfl) rfl (fun K hK => ?_)
        go_simp
        refine (bycode_any _).mono ?_
        rintro e w4 ⟨rfl, hb4⟩
        have H4 := Lib.hid (H3.out.drew.trans (hb4.mono H3.out.drew.size))
        clear hb4
        refine hK.out _ _ (fun _ => HST.out _ H4.out) (fun _ => ?_)
        clear hK K
        (try simp only [Act.put, List.getElem_toArray, List.getElem_cons_succ, List.getElem_cons_zero, List.setIfInBounds_toArray, List.set_cons_zero, List.set_cons_succ])
        refine LastW.one (i := 4) (by kernel_rfl) rfl (fun K hK => ?_)
        go_simp
        refine (HPU.out _ H4.out).mono ?_
        rintro e w5 ⟨A5, n5, p5, hl5, rfl, hown5, hb5⟩
        have H5 := Lib.hid (H4.out.trans (hb5.mono H4.out.size))
        have HO5 := Lib.hid hown5
        have HLE := Lib.hid hl5
        clear hb5 hown5 hl5
        refine hK.out _ _ (fun _ => HST.out _ H5.out) (fun _ => ?_)
        clear hK K
        (try simp only [Act.put, List.getElem_toArray, List.getElem_cons_succ, List.getElem_cons_zero, List.setIfInBounds_toArray, List.set_cons_zero, List.set_cons_succ])
        refine LastW.take (i := 5) (v := .pointer (some ⟨w.heap.size, 0, none⟩)) rfl (by kernel_rfl) (by kernel_rfl) (by kernel_rfl) (by kernel_rfl) (by decide) (fun _ _ _ h => h.elim) (.inl ⟨by kernel_rfl, fun w hw => by clear hw; go_simp⟩) (HST.out _ H5.out) ?_
        (try simp only [Act.put, List.getElem_toArray, List.getElem_cons_succ, List.getElem_cons_zero, List.setIfInBounds_toArray, List.set_cons_zero, List.set_cons_succ])
        refine LastW.one (i := 6) (by kernel_rfl) rfl (fun K hK => ?_)
        have c5 := HH0.out _ H5.out
        have f5 : w5.frozen? ⟨w.heap.size, 0, none⟩ = false := frozen_of_block (HH.out _ H5.out)
        have HZ5 := Lib.hid (HZ.out _ H5.out)
        have HH5 := Lib.hid (HH.out _ H5.out)
        have HB5 := Lib.hid (HBW.out _ H5.out)
        go_simp
        refine hK.out _ _ (fun h => absurd rfl h) (fun _ => ?_)
        clear hK K
        (try simp only [Act.put, List.getElem_toArray, List.getElem_cons_succ, List.getElem_cons_zero, List.setIfInBounds_toArray, List.set_cons_zero, List.set_cons_succ])
        refine LastW.done (by kernel_rfl) ?_ _
        refine NoPanic.normal ?_
        have H6 : Hid ((w5.setCell ⟨w.heap.size, 0, none⟩ (.slice A5 n5 p5)).heap[w.heap.size]? = some (.cells (h.set 0 A5 n5 p5).cells 37 (0, 0))) := Lib.hid (by rw [block_setCell HH5.out, h.set_cells _ _ _ 0 (by decide)])
        have HZ6 : Hid ((w5.setCell ⟨w.heap.size, 0, none⟩ (.slice A5 n5 p5)).heap[w.heap.size + 2]? = some (.cells Hs.zero 37 (0, 0))) := Lib.hid ((block_setCell_other (by omega) _).trans HZ5.out)
        have HB6 : Hid (Below w.heap.size w (w5.setCell ⟨w.heap.size, 0, none⟩ (.slice A5 n5 p5))) := Lib.hid (HB5.out.1.setCell (Nat.le_refl _) _)
        have HO6 : Hid ((w5.setCell ⟨w.heap.size, 0, none⟩ (.slice A5 n5 p5)).ownsRow w4.heap.size 42 14 (.slice A5 n5 p5) n5 (putG ordI L cs).flatten) := Lib.hid (own_far HO5.out (by have := (HBW.out _ H4.out).2; simp; omega) (Nat.le_refl _))
        have HS4 : Hid (w.heap.size + 2 < w4.heap.size) := Lib.hid (by have := (HBW.out _ H4.out).2; omega)
        generalize w5.setCell ⟨w.heap.size, 0, none⟩ (.slice A5 n5 p5) = w6 at *
        go_wp2_with (first
          | (refine wpList_load_row rfl 37 (.tmp 2) rfl w.heap.size rfl _ _ _ _ H6.out huh rfl (HSH.out _) ?_)
          | (refine wpList_store_row rfl 37 (.tmp 4) (.tmp 35) rfl (w.heap.size + 2) (h.set 0 A5 n5 p5).cells rfl rfl _ _ HZ6.out (HSH.out _) rfl (H1C.out _) ?_)
          | fail)
        exact bodyPost_ret (results_row_tmp rfl _ _ (w.heap.size + 2) _ _ _ _ rfl (setRow_heap _ _ _ _ _ _ HZ6.out) huh rfl (HSH.out _)) rfl ⟨setRow_below HB6.out (by omega) _, .inr ⟨HA.out, A5, n5, p5, HLE.out, own_rowed HO6.out HS4.out (by have := HS4.out; omega), rfl⟩⟩
  · rw [if_pos hk] at HA
    go_enter Try.func11, Try.ntmps11
    go_wp2_with (first
      | (refine wpList_load_row rfl 42 (.tmp 3) rfl (w.heap.size + 1) rfl _ _ _ _ HX0.out hui rfl HSX.out ?_)
      | fail)
    refine (HCK.out _).mono ?_
    rintro e w1 ⟨rfl, hb1⟩
    have H1 := Lib.hid hb1
    clear hb1
    have HZ1 := Lib.hid (HZ.out _ H1.out)
    have HB1 := Lib.hid (HBW.out _ H1.out)
    go_wp2_with (first
      | (refine wpList_store_row rfl 37 (.tmp 4) (.tmp 13) rfl (w.heap.size + 2) Hs.zero rfl rfl _ _ HZ1.out HSQ.out rfl H1Q.out ?_)
      | fail)
    exact bodyPost_ret (results_row_tmp rfl _ _ (w.heap.size + 2) _ _ _ _ rfl (setRow_heap _ _ _ _ _ _ HZ1.out) huh rfl HSQ.out) rfl ⟨setRow_below HB1.out.1 (by omega) _, .inl ⟨by rw [HA.out]; exact hk, by rw [HA.out]; rfl⟩⟩
end Go.Proofs.Ytcihibmapbigdaa
