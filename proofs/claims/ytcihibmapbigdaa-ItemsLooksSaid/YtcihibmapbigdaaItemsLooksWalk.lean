/-
  THE LAW ItemsLooks, over the contracts.
-/
import Derived.Test.YtcihibmapbigdaaIAwake
import Derived.Test.YtcihibmapbigdaaIRFind
import Derived.Test.YtcihibmapbigdaaIRow
import Derived.Test.YtcihibmapbigdaaHSmall
import Derived.Test.YtcihibmapbigdaaHEqs
namespace Go.Proofs.Ytcihibmapbigdaa.itemsLooks
set_option linter.unusedVariables false
open Go.RowKit
open Pl (It)

set_option maxRecDepth 100000 in
theorem walk (h : Hs) (L : Nat → List (List Value)) (s : ByteArray) (w : World) (hin : HIn h L w) (hs : s.size ≤ 140737488351232) :
    Calls Try.prog 7 #[.agg h.cells, .string s] w fun e w' => e = .returned (.bool true) ∧ Below w.heap.size w w' := by
  have HIN := Lib.hid hin
  clear hin hs
  have huh := Try.underlying37
  have HSH : Hid (∀ a : Hs, (Try.prog.info? 37).map (·.size) = some a.cells.size) := Lib.hid (fun a => by kernel_rfl)
  have HB0 : Hid (Below w.heap.size w (w.alloc (.cells h.cells 37))) := Lib.hid ((Below.refl _ _).alloc (Nat.le_refl _) _)
  have HH0 : Hid ((w.alloc (.cells h.cells 37)).heap[w.heap.size]? = some (.cells h.cells 37 (0, 0))) := Lib.hid (heap_alloc_new _ _)
  go_enter Try.func7, Try.ntmps7
  go_wp2_with (first
    | (refine wpList_load_row rfl 37 (.tmp 2) rfl w.heap.size rfl _ _ _ _ HH0.out huh rfl (HSH.out _) ?_)
    | fail)
  refine (small_calls h _).mono ?_
  rintro e w1 ⟨⟨b, rfl, hb⟩, hb1⟩
  have HH1 := Lib.hid ((hb1.block _ (lt_of_block HH0.out)).trans HH0.out)
  have HB1 := Lib.hid (HB0.out.trans (hb1.mono HB0.out.size))
  clear hb1
  cases b with
  | false =>
    clear hb
    go_wp2_with fail
    refine (awake_any _).mono ?_
    rintro e w2 ⟨rfl, hb2⟩
    have HB2 := Lib.hid (HB1.out.trans (hb2.mono HB1.out.size))
    clear hb2
    go_wp2_with fail
    go_ret
    exact ⟨rfl, HB2.out⟩
  | true =>
    have hsm := hb.1 rfl 0 (by decide)
    have HSM : Hid (h.n 0 ≤ 80) := Lib.hid hsm
    clear hsm hb
    go_wp2_with (first
      | (refine wpList_load_row rfl 37 (.tmp 2) rfl w.heap.size rfl _ _ _ _ HH1.out huh rfl (HSH.out _) ?_)
      | fail)
    have HF1 : Hid (Fits kItem (gotI (L 0) s)) := Lib.hid (gotI_fits (HIN.out.t 0 (by decide)) s)
    have HFC : Hid (∀ W, Below w1.heap.size w1 W → Calls Try.prog 13 #[.agg h.cells, .string s] W fun e w' => e = .returned (.tuple #[.agg (gotI (L 0) s).toArray, .bool (atI (L 0) s).isSome]) ∧ Below W.heap.size W w') := Lib.hid (fun W hW =>
      finds_any h (L 0) s W (HIN.out.n 0 (by decide)) (by have := HSM.out; omega) (HIN.out.t 0 (by decide)) (((HIN.out.r 0 (by decide)).below (HB1.out.trans (hW.mono HB1.out.size))).mono (HB1.out.trans (hW.mono HB1.out.size)).size))
    have HRC : Hid (∀ W, Below w1.heap.size w1 W → Calls Try.prog 14 #[.agg h.cells, .string s] W fun e w' => e = .returned (.tuple #[.agg (gotI (L 0) s).toArray, .bool (atI (L 0) s).isSome]) ∧ Below W.heap.size W w') := Lib.hid (fun W hW =>
      rfinds_any h (L 0) s W (HIN.out.n 0 (by decide)) (by have := HSM.out; omega) (HIN.out.t 0 (by decide)) (((HIN.out.r 0 (by decide)).below (HB1.out.trans (hW.mono HB1.out.size))).mono (HB1.out.trans (hW.mono HB1.out.size)).size))
    obtain ⟨g, hg⟩ : ∃ g, gotI (L 0) s = g := ⟨_, rfl⟩
    obtain ⟨o, ho⟩ : ∃ o, (atI (L 0) s).isSome = o := ⟨_, rfl⟩
    rw [hg] at HF1 HFC HRC
    rw [ho] at HFC HRC
    clear hg ho
    refine (HFC.out _ (Below.refl _ _)).mono ?_
    rintro e w2 ⟨rfl, hb2⟩
    have HHA : Hid (∀ W, Below w1.heap.size w1 W → W.heap[w.heap.size]? = some (.cells h.cells 37 (0, 0))) := Lib.hid (fun W hW => (hW.block _ (lt_of_block HH1.out)).trans HH1.out)
    have hui := Try.underlying42
    have HSZ : Hid ((Try.prog.info? 42).map (·.size) = some g.toArray.size) := Lib.hid (by rw [show (Try.prog.info? 42).map (·.size) = some 14 from by kernel_rfl, List.size_toArray, HF1.out.length]; rfl)
    have HSZL : Hid ((Try.prog.info? 42).map (·.size) = some g.length) := Lib.hid (by have := HSZ.out; rwa [List.size_toArray] at this)
    have HOZ : Hid ((#[.string ⟨#[]⟩, .string ⟨#[]⟩, .int .i64 0, .string ⟨#[]⟩, .int .i64 0, .string ⟨#[]⟩, .int .i64 0, .string ⟨#[]⟩, .int .i64 0, .int .i64 0, .int .i64 0, .bool false, .bool false, .bool false] : Array Value).size = g.toArray.size) := Lib.hid (by rw [List.size_toArray, List.size_toArray, HF1.out.length]; rfl)
    have HOC : Hid (g.toArray.all (·.oneCell') = true) := Lib.hid (all_oneCell_toArray (fits_one HF1.out))
    have HZ2 : Hid ((w2.alloc (.cells #[.string ⟨#[]⟩, .string ⟨#[]⟩, .int .i64 0, .string ⟨#[]⟩, .int .i64 0, .string ⟨#[]⟩, .int .i64 0, .string ⟨#[]⟩, .int .i64 0, .int .i64 0, .int .i64 0, .bool false, .bool false, .bool false] 42)).heap[w2.heap.size]? = some (.cells #[.string ⟨#[]⟩, .string ⟨#[]⟩, .int .i64 0, .string ⟨#[]⟩, .int .i64 0, .string ⟨#[]⟩, .int .i64 0, .string ⟨#[]⟩, .int .i64 0, .int .i64 0, .int .i64 0, .bool false, .bool false, .bool false] 42 (0, 0))) := Lib.hid (heap_alloc_new _ _)
    obtain ⟨w3, hw3⟩ : ∃ w3, w3 = (w2.alloc (.cells #[.string ⟨#[]⟩, .string ⟨#[]⟩, .int .i64 0, .string ⟨#[]⟩, .int .i64 0, .string ⟨#[]⟩, .int .i64 0, .string ⟨#[]⟩, .int .i64 0, .int .i64 0, .int .i64 0, .bool false, .bool false, .bool false] 42)).setRow w2.heap.size g.toArray := ⟨_, rfl⟩
    have hb3 : Below w2.heap.size w2 w3 := by rw [hw3]; exact setRow_below ((Below.refl _ _).alloc (Nat.le_refl _) _) (Nat.le_refl _) _
    have HX3 : Hid (w3.heap[w2.heap.size]? = some (.cells g.toArray 42 (0, 0))) := Lib.hid (by rw [hw3]; exact setRow_heap _ _ _ _ _ _ HZ2.out)
    have H3 : Hid (Below w1.heap.size w1 w3) := Lib.hid (hb2.trans (hb3.mono hb2.size))
    have HW3 := Lib.hid hw3
    have HH3 := Lib.hid (HHA.out _ H3.out)
    clear hb2 hb3 hw3
    go_wp2_with (first
      | (refine wpList_store_row rfl 42 (.tmp 5) (.tmp 17) rfl w2.heap.size g.toArray rfl rfl _ _ HZ2.out HSZ.out HOZ.out HOC.out ?_; rw [← HW3.out])
      | (refine wpList_load_row rfl 37 (.tmp 2) rfl w.heap.size rfl _ _ _ _ HH3.out huh rfl (HSH.out _) ?_)
      | fail)
    refine (HRC.out _ H3.out).mono ?_
    rintro e w4 ⟨rfl, hb4⟩
    have HX4 := Lib.hid ((hb4.block _ (lt_of_block HX3.out)).trans HX3.out)
    have H4 := Lib.hid (H3.out.trans (hb4.mono H3.out.size))
    have HZ4 : Hid ((w4.alloc (.cells #[.string ⟨#[]⟩, .string ⟨#[]⟩, .int .i64 0, .string ⟨#[]⟩, .int .i64 0, .string ⟨#[]⟩, .int .i64 0, .string ⟨#[]⟩, .int .i64 0, .int .i64 0, .int .i64 0, .bool false, .bool false, .bool false] 42)).heap[w4.heap.size]? = some (.cells #[.string ⟨#[]⟩, .string ⟨#[]⟩, .int .i64 0, .string ⟨#[]⟩, .int .i64 0, .string ⟨#[]⟩, .int .i64 0, .string ⟨#[]⟩, .int .i64 0, .int .i64 0, .int .i64 0, .bool false, .bool false, .bool false] 42 (0, 0))) := Lib.hid (heap_alloc_new _ _)
    obtain ⟨w5, hw5⟩ : ∃ w5, w5 = (w4.alloc (.cells #[.string ⟨#[]⟩, .string ⟨#[]⟩, .int .i64 0, .string ⟨#[]⟩, .int .i64 0, .string ⟨#[]⟩, .int .i64 0, .string ⟨#[]⟩, .int .i64 0, .int .i64 0, .int .i64 0, .bool false, .bool false, .bool false] 42)).setRow w4.heap.size g.toArray := ⟨_, rfl⟩
    have hb5 : Below w4.heap.size w4 w5 := by rw [hw5]; exact setRow_below ((Below.refl _ _).alloc (Nat.le_refl _) _) (Nat.le_refl _) _
    have HY5 : Hid (w5.heap[w4.heap.size]? = some (.cells g.toArray 42 (0, 0))) := Lib.hid (by rw [hw5]; exact setRow_heap _ _ _ _ _ _ HZ4.out)
    have HX5 := Lib.hid ((hb5.block _ (lt_of_block HX4.out)).trans HX4.out)
    have H5 : Hid (Below w.heap.size w w5) := Lib.hid (HB1.out.trans ((H4.out.trans (hb5.mono H4.out.size)).mono HB1.out.size))
    have HW5 := Lib.hid hw5
    have HQ := Lib.hid (fun W => eql_same (P := Try.prog) eqItem (by decide) g W HF1.out)
    clear hb4 hb5 hw5
    have heq := HQ.out
    go_wp2_with (first
      | (refine wpList_load_row rfl 42 (.tmp 5) rfl w2.heap.size rfl _ _ _ _ HX5.out hui rfl HSZ.out ?_)
      | (refine wpList_load_row rfl 42 (.tmp 7) rfl w4.heap.size rfl _ _ _ _ HY5.out hui rfl HSZ.out ?_)
      | (refine wpList_store_row rfl 42 (.tmp 7) (.tmp 23) rfl w4.heap.size g.toArray rfl rfl _ _ HZ4.out HSZ.out HOZ.out HOC.out ?_; rw [← HW5.out])
      | fail)
    refine (awake_any _).mono ?_
    rintro e w6 ⟨rfl, hb6⟩
    have H6 := Lib.hid (H5.out.trans (hb6.mono H5.out.size))
    clear hb6
    go_wp2_with fail
    go_ret
    exact ⟨rfl, H6.out⟩
end Go.Proofs.Ytcihibmapbigdaa.itemsLooks
