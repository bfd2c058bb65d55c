/-
  THE LAW UnitsBases, over the contracts.
-/
import Derived.Test.YtdcnkchhdmppeaaUSame
import Derived.Test.YtdcnkchhdmppeaaURow
namespace Go.Proofs.Ytdcnkchhdmppeaa.unitsBases
set_option linter.unusedVariables false
open Go.RowKit
open Pl (It)

set_option maxRecDepth 100000 in
theorem walk (cs : List Value) (s : ByteArray) (n : Int) (w : World) (hf : Fits kItem cs) (hm : ∀ u ∈ cs, Mild u) (hs : s.size ≤ 140737488351232) (hn : Wf n) :
    Calls Try.prog 6 #[.agg cs.toArray, .string s, .int .i64 n] w fun e w' => e = .returned (.bool true) ∧ Below w.heap.size w w' := by
  obtain ⟨x, rfl⟩ := It.of hf
  clear hf hm hs
  have HC : Hid (∀ W, Calls Try.prog 8 #[.agg x.cells.toArray, .string s, .int .i64 n] W fun e w' => e = .returned (.tuple #[.int .i64 (Pl.baseU x s n), .int .i64 (Pl.baseE x s n)]) ∧ Below W.heap.size W w') := Lib.hid (fun W => base_any x s n W hn.1 hn.2)
  have HR : Hid (∀ W, Calls Try.prog 9 #[.agg x.cells.toArray, .string s, .int .i64 n] W fun e w' => e = .returned (.tuple #[.int .i64 (Pl.baseU x s n), .int .i64 (Pl.baseE x s n)]) ∧ Below W.heap.size W w') := Lib.hid (fun W => rbase_any x s n W hn.1 hn.2)
  obtain ⟨r, hr⟩ : ∃ r, Pl.baseU x s n = r := ⟨_, rfl⟩
  obtain ⟨er, her⟩ : ∃ r : Int, (Pl.baseE x s n : Int) = r := ⟨_, rfl⟩
  rw [hr, her] at HC HR
  clear hr her hn
  have HBA : Hid (Below w.heap.size w (w.alloc (.cells x.cells.toArray 26))) := Lib.hid ((Below.refl _ w).alloc (Nat.le_refl _) _)
  have HX0 : Hid ((w.alloc (.cells x.cells.toArray 26)).heap[w.heap.size]? = some (.cells x.cells.toArray 26 (0, 0))) := Lib.hid (heap_alloc_new _ _)
  have hui := Try.underlying26
  have HSX : Hid ((Try.prog.info? 26).map (·.size) = some x.cells.toArray.size) := Lib.hid (by rw [show (Try.prog.info? 26).map (·.size) = some 14 from by kernel_rfl]; rfl)
  go_enter Try.func6, Try.ntmps6
  go_wp2_with (first
    | (refine wpList_load_row rfl 26 (.tmp 3) rfl w.heap.size rfl _ _ _ _ HX0.out hui rfl HSX.out ?_)
    | fail)
  refine (HC.out _).mono ?_
  rintro e w1 ⟨rfl, hb1⟩
  have HX1 := Lib.hid ((hb1.block _ (lt_of_block HX0.out)).trans HX0.out)
  have B1 := Lib.hid (HBA.out.trans (hb1.mono HBA.out.size))
  clear hb1
  go_wp2_with (first
    | (refine wpList_load_row rfl 26 (.tmp 3) rfl w.heap.size rfl _ _ _ _ HX1.out hui rfl HSX.out ?_)
    | fail)
  refine (HR.out _).mono ?_
  rintro e w2 ⟨rfl, hb2⟩
  have B2 := Lib.hid (B1.out.trans (hb2.mono B1.out.size))
  clear hb2
  go_wp2_with fail
  refine (awake_any _).mono ?_
  rintro e w3 ⟨rfl, hb3⟩
  have B3 := Lib.hid (B2.out.trans (hb3.mono B2.out.size))
  clear hb3
  go_wp2_with fail
  go_ret
  exact ⟨rfl, B3.out⟩
end Go.Proofs.Ytdcnkchhdmppeaa.unitsBases
