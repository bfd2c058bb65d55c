/-
 CONTRACTS of inbound's openNotice, withNotice, Shut. (By wip/tools/gen_kin.py.)
-/
import Derived.Test.YtgbilfkjfeheaaaGreatKN
import Derived.Test.YtgbilfkjfeheaaaGreatJHead
import Derived.Test.YtgbilfkjfeheaaaGreatGT
namespace Go.Proofs.YtgbilfkjfeheaaaGreat
set_option linter.unusedVariables false
open Go.RowKit
open Pl (firstG findG putG It firstG_none firstG_some)

/-- The notice of a code that is not shut. -/
def openX (LN : List (List Value)) (s : ByteArray) : List Value := if shutE LN s = 0 then gotNotice LN s else zeroNotice
theorem openX_fits {LN : List (List Value)} (h : Things kNotice LN) (s : ByteArray) : Fits kNotice (openX LN s) := by
 unfold openX
 split
 · exact gotNotice_fits h s
 · exact zeroNotice_fits
set_option maxRecDepth 100000 in
set_option maxHeartbeats 3200000 in
theorem copen (h : Hs) (L : Nat → List (List Value)) (s : ByteArray) (w : World) (hh : HT h L w) :
 Calls Tryz.prog 48 #[.agg h.cells, .string s] w fun e w' => e = .returned (.tuple #[.agg (openX (L 6) s).toArray, .int .i64 (shutE (L 6) s : Nat)]) ∧ Below w.heap.size w w' := by
 obtain ⟨X, hX⟩ : ∃ X, gotNotice (L 6) s = X := ⟨_, rfl⟩
 have HXF : Hid (Fits kNotice X) := Lib.hid (hX ▸ gotNotice_fits (hh 6 (by decide)).2.2.1 s)
 obtain ⟨il, hil⟩ : ∃ q, (atNotice (L 6) s).isSome = q := ⟨_, rfl⟩
 obtain ⟨sh, hsh⟩ : ∃ q, nshut X = q := ⟨_, rfl⟩
 obtain ⟨er, her⟩ : ∃ r, shutE (L 6) s = r := ⟨_, rfl⟩
 obtain ⟨Y, hY⟩ : ∃ Y, openX (L 6) s = Y := ⟨_, rfl⟩
 have HA : Hid (er = if il = false then 12 else if sh = true then 13 else 0) := Lib.hid (by rw [← her]; unfold shutE; rw [hil, hX, hsh])
 have HY : Hid (Y = if er = 0 then X else zeroNotice) := Lib.hid (by rw [← hY]; unfold openX; rw [her, hX])
 have HSHV := Lib.hid hsh
 have CF : Hid (∀ W, Below w.heap.size w W → Calls Tryz.prog 92 #[.agg h.cells, .string s] W fun e w' => e = .returned (.tuple #[.agg X.toArray, .bool il]) ∧ Below W.heap.size W w') := Lib.hid (fun W hW => by have := fcNotice (hh.below hW) s; rw [hX, hil] at this; exact this)
 rw [her, hY]
 clear her hil hX hsh hY
 have HSNO : Hid (∀ y, Fits kNotice y → (Tryz.prog.info? 42).map (·.size) = some y.toArray.size) := Lib.hid (fun y hy => by rw [show (Tryz.prog.info? 42).map (·.size) = some 51 from by kernel_rfl, List.size_toArray, hy.length]; rfl)
 have huNO := Tryz.underlying42
 have HOO : Hid (∀ y, Fits kNotice y → (#[.string ⟨#[]⟩, .string ⟨#[]⟩, .string ⟨#[]⟩, .int .i64 0, .int .i64 0, .int .i64 0, .int .i64 0, .int .i64 0, .string ⟨#[]⟩, .int .i64 0, .int .i64 0, .int .i64 0, .int .i64 0, .int .i64 0, .string ⟨#[]⟩, .int .i64 0, .int .i64 0, .int .i64 0, .int .i64 0, .int .i64 0, .string ⟨#[]⟩, .int .i64 0, .int .i64 0, .int .i64 0, .int .i64 0, .int .i64 0, .string ⟨#[]⟩, .int .i64 0, .int .i64 0, .int .i64 0, .int .i64 0, .int .i64 0, .string ⟨#[]⟩, .int .i64 0, .int .i64 0, .int .i64 0, .int .i64 0, .int .i64 0, .string ⟨#[]⟩, .int .i64 0, .int .i64 0, .int .i64 0, .int .i64 0, .int .i64 0, .string ⟨#[]⟩, .int .i64 0, .int .i64 0, .int .i64 0, .int .i64 0, .int .i64 0, .bool false] : Array Value).size = y.toArray.size) := Lib.hid (fun y hy => by rw [List.size_toArray, List.size_toArray, hy.length]; rfl)
 have HOC : Hid (∀ y, Fits kNotice y → y.toArray.all (·.oneCell') = true) := Lib.hid (fun y hy => all_oneCell_toArray (fits_one hy))
 have HOCZ : Hid ((#[.string ⟨#[]⟩, .string ⟨#[]⟩, .string ⟨#[]⟩, .int .i64 0, .int .i64 0, .int .i64 0, .int .i64 0, .int .i64 0, .string ⟨#[]⟩, .int .i64 0, .int .i64 0, .int .i64 0, .int .i64 0, .int .i64 0, .string ⟨#[]⟩, .int .i64 0, .int .i64 0, .int .i64 0, .int .i64 0, .int .i64 0, .string ⟨#[]⟩, .int .i64 0, .int .i64 0, .int .i64 0, .int .i64 0, .int .i64 0, .string ⟨#[]⟩, .int .i64 0, .int .i64 0, .int .i64 0, .int .i64 0, .int .i64 0, .string ⟨#[]⟩, .int .i64 0, .int .i64 0, .int .i64 0, .int .i64 0, .int .i64 0, .string ⟨#[]⟩, .int .i64 0, .int .i64 0, .int .i64 0, .int .i64 0, .int .i64 0, .string ⟨#[]⟩, .int .i64 0, .int .i64 0, .int .i64 0, .int .i64 0, .int .i64 0, .bool false] : Array Value).all (·.oneCell') = true) := Lib.hid (by simp [Value.oneCell'])
 have HSZN : Hid ((Tryz.prog.info? 42).map (·.size) = some (#[.string ⟨#[]⟩, .string ⟨#[]⟩, .string ⟨#[]⟩, .int .i64 0, .int .i64 0, .int .i64 0, .int .i64 0, .int .i64 0, .string ⟨#[]⟩, .int .i64 0, .int .i64 0, .int .i64 0, .int .i64 0, .int .i64 0, .string ⟨#[]⟩, .int .i64 0, .int .i64 0, .int .i64 0, .int .i64 0, .int .i64 0, .string ⟨#[]⟩, .int .i64 0, .int .i64 0, .int .i64 0, .int .i64 0, .int .i64 0, .string ⟨#[]⟩, .int .i64 0, .int .i64 0, .int .i64 0, .int .i64 0, .int .i64 0, .string ⟨#[]⟩, .int .i64 0, .int .i64 0, .int .i64 0, .int .i64 0, .int .i64 0, .string ⟨#[]⟩, .int .i64 0, .int .i64 0, .int .i64 0, .int .i64 0, .int .i64 0, .string ⟨#[]⟩, .int .i64 0, .int .i64 0, .int .i64 0, .int .i64 0, .int .i64 0, .bool false] : Array Value).size) := Lib.hid (by kernel_rfl)
 obtain ⟨W0, hW0⟩ : ∃ W0, W0 = ((w.alloc (.cells h.cells 37)).alloc (.cells #[.string ⟨#[]⟩, .string ⟨#[]⟩, .string ⟨#[]⟩, .int .i64 0, .int .i64 0, .int .i64 0, .int .i64 0, .int .i64 0, .string ⟨#[]⟩, .int .i64 0, .int .i64 0, .int .i64 0, .int .i64 0, .int .i64 0, .string ⟨#[]⟩, .int .i64 0, .int .i64 0, .int .i64 0, .int .i64 0, .int .i64 0, .string ⟨#[]⟩, .int .i64 0, .int .i64 0, .int .i64 0, .int .i64 0, .int .i64 0, .string ⟨#[]⟩, .int .i64 0, .int .i64 0, .int .i64 0, .int .i64 0, .int .i64 0, .string ⟨#[]⟩, .int .i64 0, .int .i64 0, .int .i64 0, .int .i64 0, .int .i64 0, .string ⟨#[]⟩, .int .i64 0, .int .i64 0, .int .i64 0, .int .i64 0, .int .i64 0, .string ⟨#[]⟩, .int .i64 0, .int .i64 0, .int .i64 0, .int .i64 0, .int .i64 0, .bool false] 42)) := ⟨_, rfl⟩
 have hb0 : Below w.heap.size w W0 := by rw [hW0]; exact ((Below.refl _ _).alloc (Nat.le_refl _) _).alloc (by simp <;> omega) _
 have hs0 : W0.heap.size = w.heap.size + 2 := by rw [hW0]; simp
 have HH : Hid (∀ W, Below W0.heap.size W0 W → W.heap[w.heap.size]? = some (.cells h.cells 37 (0, 0))) := Lib.hid (fun W hW => (hW.block _ (by omega)).trans (by
  rw [hW0]
  have hq := heap_alloc_new w (.cells h.cells 37)
  exact (Below.heap_alloc _ _ _ (by simp <;> omega)).trans ((by simpa using hq))))
 have HR : Hid (∀ W, Below W0.heap.size W0 W → W.heap[w.heap.size + 1]? = some (.cells #[.string ⟨#[]⟩, .string ⟨#[]⟩, .string ⟨#[]⟩, .int .i64 0, .int .i64 0, .int .i64 0, .int .i64 0, .int .i64 0, .string ⟨#[]⟩, .int .i64 0, .int .i64 0, .int .i64 0, .int .i64 0, .int .i64 0, .string ⟨#[]⟩, .int .i64 0, .int .i64 0, .int .i64 0, .int .i64 0, .int .i64 0, .string ⟨#[]⟩, .int .i64 0, .int .i64 0, .int .i64 0, .int .i64 0, .int .i64 0, .string ⟨#[]⟩, .int .i64 0, .int .i64 0, .int .i64 0, .int .i64 0, .int .i64 0, .string ⟨#[]⟩, .int .i64 0, .int .i64 0, .int .i64 0, .int .i64 0, .int .i64 0, .string ⟨#[]⟩, .int .i64 0, .int .i64 0, .int .i64 0, .int .i64 0, .int .i64 0, .string ⟨#[]⟩, .int .i64 0, .int .i64 0, .int .i64 0, .int .i64 0, .int .i64 0, .bool false] 42 (0, 0))) := Lib.hid (fun W hW => (hW.block _ (by omega)).trans (by
  rw [hW0]
  have hq := heap_alloc_new (w.alloc (.cells h.cells 37)) (.cells #[.string ⟨#[]⟩, .string ⟨#[]⟩, .string ⟨#[]⟩, .int .i64 0, .int .i64 0, .int .i64 0, .int .i64 0, .int .i64 0, .string ⟨#[]⟩, .int .i64 0, .int .i64 0, .int .i64 0, .int .i64 0, .int .i64 0, .string ⟨#[]⟩, .int .i64 0, .int .i64 0, .int .i64 0, .int .i64 0, .int .i64 0, .string ⟨#[]⟩, .int .i64 0, .int .i64 0, .int .i64 0, .int .i64 0, .int .i64 0, .string ⟨#[]⟩, .int .i64 0, .int .i64 0, .int .i64 0, .int .i64 0, .int .i64 0, .string ⟨#[]⟩, .int .i64 0, .int .i64 0, .int .i64 0, .int .i64 0, .int .i64 0, .string ⟨#[]⟩, .int .i64 0, .int .i64 0, .int .i64 0, .int .i64 0, .int .i64 0, .string ⟨#[]⟩, .int .i64 0, .int .i64 0, .int .i64 0, .int .i64 0, .int .i64 0, .bool false] 42)
  exact (by simpa using hq)))
 have HBW : Hid (∀ W, Below W0.heap.size W0 W → Below w.heap.size w W ∧ w.heap.size + 2 ≤ W.heap.size) := Lib.hid (fun W hW => ⟨hb0.trans (hW.mono (by omega)), by have := hW.size; omega⟩)
 have huh := Tryz.underlying37
 have HSH : Hid (∀ a : Hs, (Tryz.prog.info? 37).map (·.size) = some a.cells.size) := Lib.hid (fun a => by kernel_rfl)
 have huHR := Tryz.underlying42
 have H0 := Lib.hid (Below.refl W0.heap.size W0)
 clear hb0 hs0 hh
 subst hW0
 go_enter Tryz.func48, Tryz.ntmps48
 go_wp2_with (first
  | (refine wpList_load_row rfl 37 (.tmp 2) rfl w.heap.size rfl _ _ _ _ (HH.out _ H0.out) huh rfl (HSH.out _) ?_)
  | fail)
 refine (CF.out _ (HBW.out _ H0.out).1).mono ?_
 rintro e w1 ⟨rfl, hb9⟩
 have HPH1 := Lib.hid (H0.out.trans (hb9.mono H0.out.size))
 clear hb9
 have HBXH1 : Hid ((w1.alloc (.cells #[.string ⟨#[]⟩, .string ⟨#[]⟩, .string ⟨#[]⟩, .int .i64 0, .int .i64 0, .int .i64 0, .int .i64 0, .int .i64 0, .string ⟨#[]⟩, .int .i64 0, .int .i64 0, .int .i64 0, .int .i64 0, .int .i64 0, .string ⟨#[]⟩, .int .i64 0, .int .i64 0, .int .i64 0, .int .i64 0, .int .i64 0, .string ⟨#[]⟩, .int .i64 0, .int .i64 0, .int .i64 0, .int .i64 0, .int .i64 0, .string ⟨#[]⟩, .int .i64 0, .int .i64 0, .int .i64 0, .int .i64 0, .int .i64 0, .string ⟨#[]⟩, .int .i64 0, .int .i64 0, .int .i64 0, .int .i64 0, .int .i64 0, .string ⟨#[]⟩, .int .i64 0, .int .i64 0, .int .i64 0, .int .i64 0, .int .i64 0, .string ⟨#[]⟩, .int .i64 0, .int .i64 0, .int .i64 0, .int .i64 0, .int .i64 0, .bool false] 42)).heap[w1.heap.size]? = some (.cells #[.string ⟨#[]⟩, .string ⟨#[]⟩, .string ⟨#[]⟩, .int .i64 0, .int .i64 0, .int .i64 0, .int .i64 0, .int .i64 0, .string ⟨#[]⟩, .int .i64 0, .int .i64 0, .int .i64 0, .int .i64 0, .int .i64 0, .string ⟨#[]⟩, .int .i64 0, .int .i64 0, .int .i64 0, .int .i64 0, .int .i64 0, .string ⟨#[]⟩, .int .i64 0, .int .i64 0, .int .i64 0, .int .i64 0, .int .i64 0, .string ⟨#[]⟩, .int .i64 0, .int .i64 0, .int .i64 0, .int .i64 0, .int .i64 0, .string ⟨#[]⟩, .int .i64 0, .int .i64 0, .int .i64 0, .int .i64 0, .int .i64 0, .string ⟨#[]⟩, .int .i64 0, .int .i64 0, .int .i64 0, .int .i64 0, .int .i64 0, .string ⟨#[]⟩, .int .i64 0, .int .i64 0, .int .i64 0, .int .i64 0, .int .i64 0, .bool false] 42 (0, 0))) := Lib.hid (heap_alloc_new _ _)
 obtain ⟨w1b, hw1b⟩ : ∃ W, W = (w1.alloc (.cells #[.string ⟨#[]⟩, .string ⟨#[]⟩, .string ⟨#[]⟩, .int .i64 0, .int .i64 0, .int .i64 0, .int .i64 0, .int .i64 0, .string ⟨#[]⟩, .int .i64 0, .int .i64 0, .int .i64 0, .int .i64 0, .int .i64 0, .string ⟨#[]⟩, .int .i64 0, .int .i64 0, .int .i64 0, .int .i64 0, .int .i64 0, .string ⟨#[]⟩, .int .i64 0, .int .i64 0, .int .i64 0, .int .i64 0, .int .i64 0, .string ⟨#[]⟩, .int .i64 0, .int .i64 0, .int .i64 0, .int .i64 0, .int .i64 0, .string ⟨#[]⟩, .int .i64 0, .int .i64 0, .int .i64 0, .int .i64 0, .int .i64 0, .string ⟨#[]⟩, .int .i64 0, .int .i64 0, .int .i64 0, .int .i64 0, .int .i64 0, .string ⟨#[]⟩, .int .i64 0, .int .i64 0, .int .i64 0, .int .i64 0, .int .i64 0, .bool false] 42)).setRow w1.heap.size X.toArray := ⟨_, rfl⟩
 have H1 : Hid (Below ((w.alloc (.cells h.cells 37)).alloc (.cells #[.string ⟨#[]⟩, .string ⟨#[]⟩, .string ⟨#[]⟩, .int .i64 0, .int .i64 0, .int .i64 0, .int .i64 0, .int .i64 0, .string ⟨#[]⟩, .int .i64 0, .int .i64 0, .int .i64 0, .int .i64 0, .int .i64 0, .string ⟨#[]⟩, .int .i64 0, .int .i64 0, .int .i64 0, .int .i64 0, .int .i64 0, .string ⟨#[]⟩, .int .i64 0, .int .i64 0, .int .i64 0, .int .i64 0, .int .i64 0, .string ⟨#[]⟩, .int .i64 0, .int .i64 0, .int .i64 0, .int .i64 0, .int .i64 0, .string ⟨#[]⟩, .int .i64 0, .int .i64 0, .int .i64 0, .int .i64 0, .int .i64 0, .string ⟨#[]⟩, .int .i64 0, .int .i64 0, .int .i64 0, .int .i64 0, .int .i64 0, .string ⟨#[]⟩, .int .i64 0, .int .i64 0, .int .i64 0, .int .i64 0, .int .i64 0, .bool false] 42)).heap.size ((w.alloc (.cells h.cells 37)).alloc (.cells #[.string ⟨#[]⟩, .string ⟨#[]⟩, .string ⟨#[]⟩, .int .i64 0, .int .i64 0, .int .i64 0, .int .i64 0, .int .i64 0, .string ⟨#[]⟩, .int .i64 0, .int .i64 0, .int .i64 0, .int .i64 0, .int .i64 0, .string ⟨#[]⟩, .int .i64 0, .int .i64 0, .int .i64 0, .int .i64 0, .int .i64 0, .string ⟨#[]⟩, .int .i64 0, .int .i64 0, .int .i64 0, .int .i64 0, .int .i64 0, .string ⟨#[]⟩, .int .i64 0, .int .i64 0, .int .i64 0, .int .i64 0, .int .i64 0, .string ⟨#[]⟩, .int .i64 0, .int .i64 0, .int .i64 0, .int .i64 0, .int .i64 0, .string ⟨#[]⟩, .int .i64 0, .int .i64 0, .int .i64 0, .int .i64 0, .int .i64 0, .string ⟨#[]⟩, .int .i64 0, .int .i64 0, .int .i64 0, .int .i64 0, .int .i64 0, .bool false] 42)) w1b) := Lib.hid (by rw [hw1b]; exact setRow_below (HPH1.out.alloc HPH1.out.size _) HPH1.out.size _)
 have HRH1 : Hid (w1b.heap[w1.heap.size]? = some (.cells X.toArray 42 (0, 0))) := Lib.hid (by rw [hw1b]; exact setRow_heap _ _ _ _ _ _ HBXH1.out)
 have HWH1 := Lib.hid hw1b
 clear hw1b
 obtain ⟨_, _, _, c50, clt⟩ := cnotice_box HRH1.out HXF.out
 rw [HSHV.out] at c50
 cases il with
 | false =>
  have HE : Hid (er = 12) := Lib.hid (by rw [HA.out]; rfl)
  have HYE : Hid (Y = zeroNotice) := Lib.hid (by rw [HY.out, if_neg (by rw [HE.out]; decide)])
  go_wp2_with (first
   | (refine wpList_store_row rfl 42 (.tmp 6) (.tmp 12) rfl w1.heap.size X.toArray rfl rfl _ _ HBXH1.out (HSNO.out _ HXF.out) (HOO.out _ HXF.out) (HOC.out _ HXF.out) ?_; rw [← HWH1.out])
   | (refine wpList_store_row rfl 42 (.tmp 4) (.tmp 16) rfl (w.heap.size + 1) #[.string ⟨#[]⟩, .string ⟨#[]⟩, .string ⟨#[]⟩, .int .i64 0, .int .i64 0, .int .i64 0, .int .i64 0, .int .i64 0, .string ⟨#[]⟩, .int .i64 0, .int .i64 0, .int .i64 0, .int .i64 0, .int .i64 0, .string ⟨#[]⟩, .int .i64 0, .int .i64 0, .int .i64 0, .int .i64 0, .int .i64 0, .string ⟨#[]⟩, .int .i64 0, .int .i64 0, .int .i64 0, .int .i64 0, .int .i64 0, .string ⟨#[]⟩, .int .i64 0, .int .i64 0, .int .i64 0, .int .i64 0, .int .i64 0, .string ⟨#[]⟩, .int .i64 0, .int .i64 0, .int .i64 0, .int .i64 0, .int .i64 0, .string ⟨#[]⟩, .int .i64 0, .int .i64 0, .int .i64 0, .int .i64 0, .int .i64 0, .string ⟨#[]⟩, .int .i64 0, .int .i64 0, .int .i64 0, .int .i64 0, .int .i64 0, .bool false] rfl rfl _ _ (HR.out _ H1.out) HSZN.out rfl HOCZ.out ?_)
   | fail)
  exact bodyPost_ret (results_row_tmp rfl _ _ (w.heap.size + 1) _ _ _ _ rfl (setRow_heap _ _ _ _ _ _ (HR.out _ H1.out)) huNO rfl HSZN.out) rfl ⟨by rw [HE.out, HYE.out]; rfl, setRow_below (HBW.out _ H1.out).1 (by omega) _⟩
 | true =>
  cases sh with
  | true =>
   have HE : Hid (er = 13) := Lib.hid (by rw [HA.out]; rfl)
   have HYE : Hid (Y = zeroNotice) := Lib.hid (by rw [HY.out, if_neg (by rw [HE.out]; decide)])
   go_wp2_with (first
    | (refine wpList_store_row rfl 42 (.tmp 6) (.tmp 12) rfl w1.heap.size X.toArray rfl rfl _ _ HBXH1.out (HSNO.out _ HXF.out) (HOO.out _ HXF.out) (HOC.out _ HXF.out) ?_; rw [← HWH1.out])
    | (refine wpList_store_row rfl 42 (.tmp 4) (.tmp 19) rfl (w.heap.size + 1) #[.string ⟨#[]⟩, .string ⟨#[]⟩, .string ⟨#[]⟩, .int .i64 0, .int .i64 0, .int .i64 0, .int .i64 0, .int .i64 0, .string ⟨#[]⟩, .int .i64 0, .int .i64 0, .int .i64 0, .int .i64 0, .int .i64 0, .string ⟨#[]⟩, .int .i64 0, .int .i64 0, .int .i64 0, .int .i64 0, .int .i64 0, .string ⟨#[]⟩, .int .i64 0, .int .i64 0, .int .i64 0, .int .i64 0, .int .i64 0, .string ⟨#[]⟩, .int .i64 0, .int .i64 0, .int .i64 0, .int .i64 0, .int .i64 0, .string ⟨#[]⟩, .int .i64 0, .int .i64 0, .int .i64 0, .int .i64 0, .int .i64 0, .string ⟨#[]⟩, .int .i64 0, .int .i64 0, .int .i64 0, .int .i64 0, .int .i64 0, .string ⟨#[]⟩, .int .i64 0, .int .i64 0, .int .i64 0, .int .i64 0, .int .i64 0, .bool false] rfl rfl _ _ (HR.out _ H1.out) HSZN.out rfl HOCZ.out ?_)
    | fail)
   exact bodyPost_ret (results_row_tmp rfl _ _ (w.heap.size + 1) _ _ _ _ rfl (setRow_heap _ _ _ _ _ _ (HR.out _ H1.out)) huNO rfl HSZN.out) rfl ⟨by rw [HE.out, HYE.out]; rfl, setRow_below (HBW.out _ H1.out).1 (by omega) _⟩
  | false =>
   have HE : Hid (er = 0) := Lib.hid (by rw [HA.out]; rfl)
   have HYE : Hid (Y = X) := Lib.hid (by rw [HY.out, if_pos HE.out])
   go_wp2_with (first
    | (refine wpList_store_row rfl 42 (.tmp 6) (.tmp 12) rfl w1.heap.size X.toArray rfl rfl _ _ HBXH1.out (HSNO.out _ HXF.out) (HOO.out _ HXF.out) (HOC.out _ HXF.out) ?_; rw [← HWH1.out])
    | (refine wpList_load_row rfl 42 (.tmp 6) rfl w1.heap.size rfl _ _ _ _ HRH1.out huNO rfl (HSNO.out _ HXF.out) ?_)
    | (refine wpList_store_row rfl 42 (.tmp 4) (.tmp 20) rfl (w.heap.size + 1) X.toArray rfl rfl _ _ (HR.out _ H1.out) (HSNO.out _ HXF.out) (HOO.out _ HXF.out) (HOC.out _ HXF.out) ?_)
    | fail)
   exact bodyPost_ret (results_row_tmp rfl _ _ (w.heap.size + 1) _ _ _ _ rfl (setRow_heap _ _ _ _ _ _ (HR.out _ H1.out)) huNO rfl (HSNO.out _ HXF.out)) rfl ⟨by rw [HE.out, HYE.out]; rfl, setRow_below (HBW.out _ H1.out).1 (by omega) _⟩
set_option maxRecDepth 100000 in
set_option maxHeartbeats 3200000 in
theorem cwithN (h : Hs) (L : Nat → List (List Value)) (cs : List Value) (w : World) (hh : HT h L w) (hf : Fits kNotice cs) (hn6 : h.n 6 ≤ 1100) (hc1 : h.n 6 ≤ h.c 6 ∧ h.c 6 ≤ 9223372036854775807) :
 Calls Tryz.prog 44 #[.agg h.cells, .agg cs.toArray] w fun e w' => Below w.heap.size w w' ∧ ∃ A n c, n = (putG ordNotice (L 6) cs).length ∧ w'.ownsRow w.heap.size 42 51 (.slice A n c) n (putG ordNotice (L 6) cs).flatten ∧ e = .returned (.agg (h.set 6 A n c).cells) := by
 have HXF := Lib.hid hf
 obtain ⟨lx, hlx2⟩ : ∃ l, putG ordNotice (L 6) cs = l := ⟨_, rfl⟩
 obtain ⟨m, hmm⟩ : ∃ m, h.n 6 = m := ⟨_, rfl⟩
 have HPU : Hid (∀ W, Below w.heap.size w W → Calls Tryz.prog 94 #[.agg #[.func (.func 137) #[] #[]], .slice (h.A 6) m (h.c 6), .agg (cs).toArray] W (NewNotice W lx)) := Lib.hid (fun W hW => by have h9 := putNotice (h.A 6) (h.n 6) (h.c 6) 137 #[] ordNotice (cs) (L 6) W (hh 6 (by decide)).1 hc1.1 hc1.2 (by omega) (hh 6 (by decide)).2.2.1 (hf) ((hh.below hW) 6 (by decide)).2.2.2 (tellsNotice W); rw [hmm, hlx2] at h9; exact h9)
 have HSS : Hid ((Tryz.prog.info? 42).map (·.size) = some cs.length) := Lib.hid (by rw [HXF.out.length]; kernel_rfl)
 have HMM := Lib.hid hmm
 rw [hmm] at hn6
 rw [hlx2]
 clear hlx2 hmm hf
 have HSNO : Hid (∀ y, Fits kNotice y → (Tryz.prog.info? 42).map (·.size) = some y.toArray.size) := Lib.hid (fun y hy => by rw [show (Tryz.prog.info? 42).map (·.size) = some 51 from by kernel_rfl, List.size_toArray, hy.length]; rfl)
 have huNO := Tryz.underlying42
 have HOO : Hid (∀ y, Fits kNotice y → (#[.string ⟨#[]⟩, .string ⟨#[]⟩, .string ⟨#[]⟩, .int .i64 0, .int .i64 0, .int .i64 0, .int .i64 0, .int .i64 0, .string ⟨#[]⟩, .int .i64 0, .int .i64 0, .int .i64 0, .int .i64 0, .int .i64 0, .string ⟨#[]⟩, .int .i64 0, .int .i64 0, .int .i64 0, .int .i64 0, .int .i64 0, .string ⟨#[]⟩, .int .i64 0, .int .i64 0, .int .i64 0, .int .i64 0, .int .i64 0, .string ⟨#[]⟩, .int .i64 0, .int .i64 0, .int .i64 0, .int .i64 0, .int .i64 0, .string ⟨#[]⟩, .int .i64 0, .int .i64 0, .int .i64 0, .int .i64 0, .int .i64 0, .string ⟨#[]⟩, .int .i64 0, .int .i64 0, .int .i64 0, .int .i64 0, .int .i64 0, .string ⟨#[]⟩, .int .i64 0, .int .i64 0, .int .i64 0, .int .i64 0, .int .i64 0, .bool false] : Array Value).size = y.toArray.size) := Lib.hid (fun y hy => by rw [List.size_toArray, List.size_toArray, hy.length]; rfl)
 have HOC : Hid (∀ y, Fits kNotice y → y.toArray.all (·.oneCell') = true) := Lib.hid (fun y hy => all_oneCell_toArray (fits_one hy))
 obtain ⟨W0, hW0⟩ : ∃ W0, W0 = (((w.alloc (.cells h.cells 37)).alloc (.cells cs.toArray 42)).alloc (.cells #[.slice none 0 0, .slice none 0 0, .slice none 0 0, .slice none 0 0, .slice none 0 0, .slice none 0 0, .slice none 0 0, .slice none 0 0, .slice none 0 0, .slice none 0 0, .slice none 0 0, .slice none 0 0, .slice none 0 0, .slice none 0 0, .int .i64 0] 37)) := ⟨_, rfl⟩
 have hb0 : Below w.heap.size w W0 := by rw [hW0]; exact (((Below.refl _ _).alloc (Nat.le_refl _) _).alloc (by simp <;> omega) _).alloc (by simp <;> omega) _
 have hs0 : W0.heap.size = w.heap.size + 3 := by rw [hW0]; simp
 have HH : Hid (∀ W, Below W0.heap.size W0 W → W.heap[w.heap.size]? = some (.cells h.cells 37 (0, 0))) := Lib.hid (fun W hW => (hW.block _ (by omega)).trans (by
  rw [hW0]
  have hq := heap_alloc_new w (.cells h.cells 37)
  exact (Below.heap_alloc _ _ _ (by simp <;> omega)).trans ((Below.heap_alloc _ _ _ (by simp <;> omega)).trans ((by simpa using hq)))))
 have HX : Hid (∀ W, Below W0.heap.size W0 W → W.heap[w.heap.size + 1]? = some (.cells cs.toArray 42 (0, 0))) := Lib.hid (fun W hW => (hW.block _ (by omega)).trans (by
  rw [hW0]
  have hq := heap_alloc_new (w.alloc (.cells h.cells 37)) (.cells cs.toArray 42)
  exact (Below.heap_alloc _ _ _ (by simp <;> omega)).trans ((by simpa using hq))))
 have HZ : Hid (∀ W, Below W0.heap.size W0 W → W.heap[w.heap.size + 2]? = some (.cells Hs.zero 37 (0, 0))) := Lib.hid (fun W hW => (hW.block _ (by omega)).trans (by
  rw [hW0]
  have hq := heap_alloc_new ((w.alloc (.cells h.cells 37)).alloc (.cells cs.toArray 42)) (.cells #[.slice none 0 0, .slice none 0 0, .slice none 0 0, .slice none 0 0, .slice none 0 0, .slice none 0 0, .slice none 0 0, .slice none 0 0, .slice none 0 0, .slice none 0 0, .slice none 0 0, .slice none 0 0, .slice none 0 0, .slice none 0 0, .int .i64 0] 37)
  exact (by simpa [Hs.zero] using hq)))
 have HBW : Hid (∀ W, Below W0.heap.size W0 W → Below w.heap.size w W ∧ w.heap.size + 3 ≤ W.heap.size) := Lib.hid (fun W hW => ⟨hb0.trans (hW.mono (by omega)), by have := hW.size; omega⟩)
 have huh := Tryz.underlying37
 have HSH : Hid (∀ a : Hs, (Tryz.prog.info? 37).map (·.size) = some a.cells.size) := Lib.hid (fun a => by kernel_rfl)
 have HSQ : Hid ((Tryz.prog.info? 37).map (·.size) = some Hs.zero.size) := Lib.hid (by kernel_rfl)
 have H1C : Hid (∀ a : Hs, a.cells.all (·.oneCell') = true) := Lib.hid (fun a => by simp [Hs.cells, Value.oneCell'])
 have H1Q : Hid (Hs.zero.all (·.oneCell') = true) := Lib.hid (by simp [Hs.zero, Value.oneCell'])
 have huHX := Tryz.underlying42
 have HLI : Hid (∀ W, Below W0.heap.size W0 W → W.cell? ⟨w.heap.size, 6, none⟩ = some (.slice (h.A 6) m (h.c 6)) ∧ w.heap.size < W.heap.size) := Lib.hid (fun W hW => ⟨by rw [cell_of_block (HH.out W hW), ← HMM.out]; rfl, by have := hW.size; omega⟩)
 have H0 := Lib.hid (Below.refl W0.heap.size W0)
 clear hb0 hs0 hh hn6 hc1
 subst hW0
 go_enter Tryz.func44, Tryz.ntmps44
 obtain ⟨wB, hwB⟩ : ∃ W, W = (((w.alloc (.cells h.cells 37)).alloc (.cells cs.toArray 42)).alloc (.cells #[.slice none 0 0, .slice none 0 0, .slice none 0 0, .slice none 0 0, .slice none 0 0, .slice none 0 0, .slice none 0 0, .slice none 0 0, .slice none 0 0, .slice none 0 0, .slice none 0 0, .slice none 0 0, .slice none 0 0, .slice none 0 0, .int .i64 0] 37)) := ⟨_, rfl⟩
 have HWB0 := Lib.hid hwB
 have hob : Below (((w.alloc (.cells h.cells 37)).alloc (.cells cs.toArray 42)).alloc (.cells #[.slice none 0 0, .slice none 0 0, .slice none 0 0, .slice none 0 0, .slice none 0 0, .slice none 0 0, .slice none 0 0, .slice none 0 0, .slice none 0 0, .slice none 0 0, .slice none 0 0, .slice none 0 0, .slice none 0 0, .slice none 0 0, .int .i64 0] 37)).heap.size (((w.alloc (.cells h.cells 37)).alloc (.cells cs.toArray 42)).alloc (.cells #[.slice none 0 0, .slice none 0 0, .slice none 0 0, .slice none 0 0, .slice none 0 0, .slice none 0 0, .slice none 0 0, .slice none 0 0, .slice none 0 0, .slice none 0 0, .slice none 0 0, .slice none 0 0, .slice none 0 0, .slice none 0 0, .int .i64 0] 37)) wB := by rw [hwB]; exact Below.refl _ _
 have HOB := Lib.hid hob
 clear hob
 have HXB : Hid (∀ W, Below wB.heap.size wB W → W.heap[w.heap.size + 1]? = some (.cells (cs).toArray 42 (0, 0))) := Lib.hid (fun W hW => by have hq := hW; rw [HWB0.out] at hq; exact HX.out W hq)
 have HST : Hid (∀ W, Below wB.heap.size wB W → W.cell? ⟨w.heap.size, 6, none⟩ = some (.slice (h.A 6) m (h.c 6)) ∧ W.rangeAt (w.heap.size + 1) 0 (cs)) := Lib.hid (fun W hW => ⟨(HLI.out W (HOB.out.trans (hW.mono HOB.out.size))).1, range_cells (HXB.out W hW)⟩)
 have HWB := Lib.hid hwB
 clear hwB
 go_upto_region 1 with fail
 rw [← HWB.out]
 go_wp2_with fail
 refine lastW_region (S := (fun w' => w'.cell? ⟨w.heap.size, 6, none⟩ = some (.slice (h.A 6) (m) (h.c 6)) ∧ w'.rangeAt (w.heap.size + 1) 0 (cs))) (n := 6) (by kernel_rfl) ?_
 have ST5 := HST.out _ (Below.refl wB.heap.size wB).drew
 refine LastW.take (i := 1) (v := .pointer (some ⟨w.heap.size, 6, none⟩)) rfl (by kernel_rfl) (by kernel_rfl) (by kernel_rfl) (by kernel_rfl) (by decide) (fun _ _ _ h => h.elim) (.inl ⟨by kernel_rfl, fun w hw => by clear hw; go_simp⟩) ST5 ?_
 (try simp only [ax])
 refine LastW.take (i := 2) (v := .slice (h.A 6) (m) (h.c 6)) rfl (by kernel_rfl) (by kernel_rfl) (by kernel_rfl) (by kernel_rfl) (by decide) (fun _ _ _ h => h.elim) (.inl ⟨by kernel_rfl, fun w hw => by have hw := hw.1; go_simp⟩) ST5 ?_
 (try simp only [ax])
 refine LastW.take (i := 3) (v := .agg (cs).toArray) rfl (by kernel_rfl) (by kernel_rfl) (by kernel_rfl) (by kernel_rfl) (by decide) (fun _ _ _ h => h.elim) (yieldsIf_load_mid (by kernel_rfl) 42 (.tmp 3) rfl (w.heap.size + 1) 0 rfl (cs) _ (fun w h => h.2) huNO rfl HSS.out) ST5 ?_
 (try simp only [ax])
 refine LastW.one (i := 0) (by kernel_rfl) rfl (fun K hK => ?_)
 go_simp
 refine (tabNotice_any _).mono ?_
 rintro e w7 ⟨rfl, hb7⟩
 have H7 := Lib.hid ((Below.refl wB.heap.size wB).drew.trans (hb7.mono (Below.refl wB.heap.size wB).drew.size))
 clear hb7
 refine hK.out _ _ (fun _ => HST.out _ H7.out) (fun _ => ?_)
 clear hK K
 (try simp only [ax])
 have H7W := Lib.hid (HOB.out.trans (H7.out.mono HOB.out.size))
 refine LastW.one (i := 4) (by kernel_rfl) rfl (fun K hK => ?_)
 go_simp
 refine (HPU.out _ (HBW.out _ H7W.out).1).mono ?_
 rintro e w8 ⟨A5, n5, p5, hl5, rfl, hown5, hb8⟩
 have H8 := Lib.hid (H7.out.trans (hb8.mono H7.out.size))
 have H8W := Lib.hid (HOB.out.trans (H8.out.mono HOB.out.size))
 have HO5 := Lib.hid hown5
 have HLE := Lib.hid hl5
 clear hb8 hown5 hl5
 refine hK.out _ _ (fun _ => HST.out _ H8.out) (fun _ => ?_)
 clear hK K
 (try simp only [ax])
 refine LastW.take (i := 5) (v := .pointer (some ⟨w.heap.size, 6, none⟩)) rfl (by kernel_rfl) (by kernel_rfl) (by kernel_rfl) (by kernel_rfl) (by decide) (fun _ _ _ h => h.elim) (.inl ⟨by kernel_rfl, fun w hw => by clear hw; go_simp⟩) (HST.out _ H8.out) ?_
 (try simp only [ax])
 refine LastW.one (i := 6) (by kernel_rfl) rfl (fun K hK => ?_)
 have c5 := (HLI.out _ H8W.out).1
 have f5 : w8.frozen? ⟨w.heap.size, 6, none⟩ = false := frozen_of_block (HH.out _ H8W.out)
 have HZ5 := Lib.hid (HZ.out _ H8W.out)
 have HH5 := Lib.hid (HH.out _ H8W.out)
 have HB5 := Lib.hid (HBW.out _ H8W.out)
 go_simp
 refine hK.out _ _ (fun h => absurd rfl h) (fun _ => ?_)
 clear hK K
 (try simp only [ax])
 refine LastW.done (by kernel_rfl) ?_ _
 refine NoPanic.normal ?_
 have H9 : Hid ((w8.setCell ⟨w.heap.size, 6, none⟩ (.slice A5 n5 p5)).heap[w.heap.size]? = some (.cells (h.set 6 A5 n5 p5).cells 37 (0, 0))) := Lib.hid (by rw [block_setCell HH5.out, h.set_cells _ _ _ 6 (by decide)])
 have HZ6 : Hid ((w8.setCell ⟨w.heap.size, 6, none⟩ (.slice A5 n5 p5)).heap[w.heap.size + 2]? = some (.cells Hs.zero 37 (0, 0))) := Lib.hid ((block_setCell_other (by omega) _).trans HZ5.out)
 have HB6 : Hid (Below w.heap.size w (w8.setCell ⟨w.heap.size, 6, none⟩ (.slice A5 n5 p5))) := Lib.hid (HB5.out.1.setCell (Nat.le_refl _) _)
 have HS4 : Hid (w.heap.size + 2 < w7.heap.size) := Lib.hid (by have := (HBW.out _ H7W.out).2; omega)
 have HO6 : Hid ((w8.setCell ⟨w.heap.size, 6, none⟩ (.slice A5 n5 p5)).ownsRow w7.heap.size 42 51 (.slice A5 n5 p5) n5 lx.flatten) := Lib.hid (own_far HO5.out (by have := HS4.out; simp; omega) (Nat.le_refl _))
 generalize w8.setCell ⟨w.heap.size, 6, none⟩ (.slice A5 n5 p5) = w6 at *
 go_wp2_with (first
  | (refine wpList_load_row rfl 37 (.tmp 2) rfl w.heap.size rfl _ _ _ _ H9.out huh rfl (HSH.out _) ?_)
  | (refine wpList_store_row rfl 37 (.tmp 4) (.tmp 11) rfl (w.heap.size + 2) (h.set 6 A5 n5 p5).cells rfl rfl _ _ HZ6.out (HSH.out _) rfl (H1C.out _) ?_)
  | fail)
 exact bodyPost_ret (results_cell_row rfl _ _ (w.heap.size + 2) _ _ _ _ rfl (setRow_heap _ _ _ _ _ _ HZ6.out) huh rfl (HSH.out _)) rfl ⟨setRow_below HB6.out (by omega) _, A5, n5, p5, HLE.out, own_rowed HO6.out HS4.out (by have := HS4.out; omega), rfl⟩
theorem cshutN_fits {x : List Value} (h : Fits kNotice x) : Fits kNotice (shutN x) := by
 obtain ⟨h0, h1, h2, h50, hl⟩ := notice_parts h
 have hs : x = (x.take 50) ++ [.bool (nshut x)] := by
  have h1 : x.drop 50 = [.bool (nshut x)] := by
   rw [List.drop_eq_getElem_cons (by omega), List.drop_of_length_le (by omega)]
   have := List.getElem?_eq_some_iff.1 h50
   rw [this.2]
  rw [← h1, List.take_append_drop]
 have hk : kNotice = ([.s] ++ ([.s] ++ kLine8)) ++ [.b] := rfl
 rw [hk] at h
 have := (Fits.split h).1
 rw [show (([.s] ++ ([.s] ++ kLine8)) : List CK).length = 50 from rfl] at this
 have hx : shutN x = x.take 50 ++ [.bool true] := by
  unfold shutN
  rw [hs, List.set_append_right _ _ (by rw [List.length_take]; omega), List.length_take, show min 50 x.length = 50 from by omega]
  rw [List.take_append_of_le_length (by rw [List.length_take]; omega), List.take_take]
  rfl
 rw [hx, hk]
 exact Fits.app this ⟨⟨_, rfl⟩, trivial⟩

set_option maxRecDepth 100000 in
set_option maxHeartbeats 3200000 in
theorem cshut (h : Hs) (L : Nat → List (List Value)) (s : ByteArray) (w : World) (hh : HT h L w) (hn6 : h.n 6 ≤ 1100) (hc1 : h.n 6 ≤ h.c 6 ∧ h.c 6 ≤ 9223372036854775807) :
 Calls Tryz.prog 14 #[.agg h.cells, .string s] w (PutP 42 51 6 (shutE (L 6) s) (shutL (L 6) s) h w) := by
 obtain ⟨X, hX⟩ : ∃ X, openX (L 6) s = X := ⟨_, rfl⟩
 have HXF : Hid (Fits kNotice X) := Lib.hid (hX ▸ openX_fits (hh 6 (by decide)).2.2.1 s)
 obtain ⟨er, her⟩ : ∃ r, shutE (L 6) s = r := ⟨_, rfl⟩
 obtain ⟨lx, hlx⟩ : ∃ l, shutL (L 6) s = l := ⟨_, rfl⟩
 have HLX : Hid (er = 0 → putG ordNotice (L 6) (shutN X) = lx) := Lib.hid (fun h0 => by rw [← hlx, ← hX]; unfold shutL openX; rw [her, if_pos h0])
 have CF : Hid (∀ W, Below w.heap.size w W → Calls Tryz.prog 48 #[.agg h.cells, .string s] W fun e w' => e = .returned (.tuple #[.agg X.toArray, .int .i64 (er : Nat)]) ∧ Below W.heap.size W w') := Lib.hid (fun W hW => by have := copen h L s W (hh.below hW); rw [hX, her] at this; exact this)
 have HPU : Hid (∀ (x : List Value) W, Fits kNotice x → Below w.heap.size w W → Calls Tryz.prog 44 #[.agg h.cells, .agg x.toArray] W fun e w' => Below W.heap.size W w' ∧ ∃ A n c, n = (putG ordNotice (L 6) x).length ∧ w'.ownsRow W.heap.size 42 51 (.slice A n c) n (putG ordNotice (L 6) x).flatten ∧ e = .returned (.agg (h.set 6 A n c).cells)) := Lib.hid (fun x W hx hW => cwithN h L x W (hh.below hW) hx hn6 hc1)
 rw [her, hlx]
 clear her hX hlx
 have HSNO : Hid (∀ y, Fits kNotice y → (Tryz.prog.info? 42).map (·.size) = some y.toArray.size) := Lib.hid (fun y hy => by rw [show (Tryz.prog.info? 42).map (·.size) = some 51 from by kernel_rfl, List.size_toArray, hy.length]; rfl)
 have huNO := Tryz.underlying42
 have HOO : Hid (∀ y, Fits kNotice y → (#[.string ⟨#[]⟩, .string ⟨#[]⟩, .string ⟨#[]⟩, .int .i64 0, .int .i64 0, .int .i64 0, .int .i64 0, .int .i64 0, .string ⟨#[]⟩, .int .i64 0, .int .i64 0, .int .i64 0, .int .i64 0, .int .i64 0, .string ⟨#[]⟩, .int .i64 0, .int .i64 0, .int .i64 0, .int .i64 0, .int .i64 0, .string ⟨#[]⟩, .int .i64 0, .int .i64 0, .int .i64 0, .int .i64 0, .int .i64 0, .string ⟨#[]⟩, .int .i64 0, .int .i64 0, .int .i64 0, .int .i64 0, .int .i64 0, .string ⟨#[]⟩, .int .i64 0, .int .i64 0, .int .i64 0, .int .i64 0, .int .i64 0, .string ⟨#[]⟩, .int .i64 0, .int .i64 0, .int .i64 0, .int .i64 0, .int .i64 0, .string ⟨#[]⟩, .int .i64 0, .int .i64 0, .int .i64 0, .int .i64 0, .int .i64 0, .bool false] : Array Value).size = y.toArray.size) := Lib.hid (fun y hy => by rw [List.size_toArray, List.size_toArray, hy.length]; rfl)
 have HOC : Hid (∀ y, Fits kNotice y → y.toArray.all (·.oneCell') = true) := Lib.hid (fun y hy => all_oneCell_toArray (fits_one hy))
 obtain ⟨W0, hW0⟩ : ∃ W0, W0 = ((w.alloc (.cells h.cells 37)).alloc (.cells #[.slice none 0 0, .slice none 0 0, .slice none 0 0, .slice none 0 0, .slice none 0 0, .slice none 0 0, .slice none 0 0, .slice none 0 0, .slice none 0 0, .slice none 0 0, .slice none 0 0, .slice none 0 0, .slice none 0 0, .slice none 0 0, .int .i64 0] 37)) := ⟨_, rfl⟩
 have hb0 : Below w.heap.size w W0 := by rw [hW0]; exact ((Below.refl _ _).alloc (Nat.le_refl _) _).alloc (by simp <;> omega) _
 have hs0 : W0.heap.size = w.heap.size + 2 := by rw [hW0]; simp
 have HH : Hid (∀ W, Below W0.heap.size W0 W → W.heap[w.heap.size]? = some (.cells h.cells 37 (0, 0))) := Lib.hid (fun W hW => (hW.block _ (by omega)).trans (by
  rw [hW0]
  have hq := heap_alloc_new w (.cells h.cells 37)
  exact (Below.heap_alloc _ _ _ (by simp <;> omega)).trans ((by simpa using hq))))
 have HZ : Hid (∀ W, Below W0.heap.size W0 W → W.heap[w.heap.size + 1]? = some (.cells Hs.zero 37 (0, 0))) := Lib.hid (fun W hW => (hW.block _ (by omega)).trans (by
  rw [hW0]
  have hq := heap_alloc_new (w.alloc (.cells h.cells 37)) (.cells #[.slice none 0 0, .slice none 0 0, .slice none 0 0, .slice none 0 0, .slice none 0 0, .slice none 0 0, .slice none 0 0, .slice none 0 0, .slice none 0 0, .slice none 0 0, .slice none 0 0, .slice none 0 0, .slice none 0 0, .slice none 0 0, .int .i64 0] 37)
  exact (by simpa [Hs.zero] using hq)))
 have HBW : Hid (∀ W, Below W0.heap.size W0 W → Below w.heap.size w W ∧ w.heap.size + 2 ≤ W.heap.size) := Lib.hid (fun W hW => ⟨hb0.trans (hW.mono (by omega)), by have := hW.size; omega⟩)
 have huh := Tryz.underlying37
 have HSH : Hid (∀ a : Hs, (Tryz.prog.info? 37).map (·.size) = some a.cells.size) := Lib.hid (fun a => by kernel_rfl)
 have HSQ : Hid ((Tryz.prog.info? 37).map (·.size) = some Hs.zero.size) := Lib.hid (by kernel_rfl)
 have H1C : Hid (∀ a : Hs, a.cells.all (·.oneCell') = true) := Lib.hid (fun a => by simp [Hs.cells, Value.oneCell'])
 have H1Q : Hid (Hs.zero.all (·.oneCell') = true) := Lib.hid (by simp [Hs.zero, Value.oneCell'])
 have H0 := Lib.hid (Below.refl W0.heap.size W0)
 clear hb0 hs0 hh hn6 hc1
 subst hW0
 go_enter Tryz.func14, Tryz.ntmps14
 go_wp2_with (first
  | (refine wpList_load_row rfl 37 (.tmp 2) rfl w.heap.size rfl _ _ _ _ (HH.out _ H0.out) huh rfl (HSH.out _) ?_)
  | fail)
 refine (CF.out _ (HBW.out _ H0.out).1).mono ?_
 rintro e w1 ⟨rfl, hb9⟩
 have HPH1 := Lib.hid (H0.out.trans (hb9.mono H0.out.size))
 clear hb9
 have HBXH1 : Hid ((w1.alloc (.cells #[.string ⟨#[]⟩, .string ⟨#[]⟩, .string ⟨#[]⟩, .int .i64 0, .int .i64 0, .int .i64 0, .int .i64 0, .int .i64 0, .string ⟨#[]⟩, .int .i64 0, .int .i64 0, .int .i64 0, .int .i64 0, .int .i64 0, .string ⟨#[]⟩, .int .i64 0, .int .i64 0, .int .i64 0, .int .i64 0, .int .i64 0, .string ⟨#[]⟩, .int .i64 0, .int .i64 0, .int .i64 0, .int .i64 0, .int .i64 0, .string ⟨#[]⟩, .int .i64 0, .int .i64 0, .int .i64 0, .int .i64 0, .int .i64 0, .string ⟨#[]⟩, .int .i64 0, .int .i64 0, .int .i64 0, .int .i64 0, .int .i64 0, .string ⟨#[]⟩, .int .i64 0, .int .i64 0, .int .i64 0, .int .i64 0, .int .i64 0, .string ⟨#[]⟩, .int .i64 0, .int .i64 0, .int .i64 0, .int .i64 0, .int .i64 0, .bool false] 42)).heap[w1.heap.size]? = some (.cells #[.string ⟨#[]⟩, .string ⟨#[]⟩, .string ⟨#[]⟩, .int .i64 0, .int .i64 0, .int .i64 0, .int .i64 0, .int .i64 0, .string ⟨#[]⟩, .int .i64 0, .int .i64 0, .int .i64 0, .int .i64 0, .int .i64 0, .string ⟨#[]⟩, .int .i64 0, .int .i64 0, .int .i64 0, .int .i64 0, .int .i64 0, .string ⟨#[]⟩, .int .i64 0, .int .i64 0, .int .i64 0, .int .i64 0, .int .i64 0, .string ⟨#[]⟩, .int .i64 0, .int .i64 0, .int .i64 0, .int .i64 0, .int .i64 0, .string ⟨#[]⟩, .int .i64 0, .int .i64 0, .int .i64 0, .int .i64 0, .int .i64 0, .string ⟨#[]⟩, .int .i64 0, .int .i64 0, .int .i64 0, .int .i64 0, .int .i64 0, .string ⟨#[]⟩, .int .i64 0, .int .i64 0, .int .i64 0, .int .i64 0, .int .i64 0, .bool false] 42 (0, 0))) := Lib.hid (heap_alloc_new _ _)
 obtain ⟨w1b, hw1b⟩ : ∃ W, W = (w1.alloc (.cells #[.string ⟨#[]⟩, .string ⟨#[]⟩, .string ⟨#[]⟩, .int .i64 0, .int .i64 0, .int .i64 0, .int .i64 0, .int .i64 0, .string ⟨#[]⟩, .int .i64 0, .int .i64 0, .int .i64 0, .int .i64 0, .int .i64 0, .string ⟨#[]⟩, .int .i64 0, .int .i64 0, .int .i64 0, .int .i64 0, .int .i64 0, .string ⟨#[]⟩, .int .i64 0, .int .i64 0, .int .i64 0, .int .i64 0, .int .i64 0, .string ⟨#[]⟩, .int .i64 0, .int .i64 0, .int .i64 0, .int .i64 0, .int .i64 0, .string ⟨#[]⟩, .int .i64 0, .int .i64 0, .int .i64 0, .int .i64 0, .int .i64 0, .string ⟨#[]⟩, .int .i64 0, .int .i64 0, .int .i64 0, .int .i64 0, .int .i64 0, .string ⟨#[]⟩, .int .i64 0, .int .i64 0, .int .i64 0, .int .i64 0, .int .i64 0, .bool false] 42)).setRow w1.heap.size X.toArray := ⟨_, rfl⟩
 have H1 : Hid (Below ((w.alloc (.cells h.cells 37)).alloc (.cells #[.slice none 0 0, .slice none 0 0, .slice none 0 0, .slice none 0 0, .slice none 0 0, .slice none 0 0, .slice none 0 0, .slice none 0 0, .slice none 0 0, .slice none 0 0, .slice none 0 0, .slice none 0 0, .slice none 0 0, .slice none 0 0, .int .i64 0] 37)).heap.size ((w.alloc (.cells h.cells 37)).alloc (.cells #[.slice none 0 0, .slice none 0 0, .slice none 0 0, .slice none 0 0, .slice none 0 0, .slice none 0 0, .slice none 0 0, .slice none 0 0, .slice none 0 0, .slice none 0 0, .slice none 0 0, .slice none 0 0, .slice none 0 0, .slice none 0 0, .int .i64 0] 37)) w1b) := Lib.hid (by rw [hw1b]; exact setRow_below (HPH1.out.alloc HPH1.out.size _) HPH1.out.size _)
 have HRH1 : Hid (w1b.heap[w1.heap.size]? = some (.cells X.toArray 42 (0, 0))) := Lib.hid (by rw [hw1b]; exact setRow_heap _ _ _ _ _ _ HBXH1.out)
 have HWH1 := Lib.hid hw1b
 clear hw1b
 by_cases he0 : er = 0
 ·
  have HE := Lib.hid he0
  have hlx0 := HLX.out he0
  have bn : ((er : Int) != 0) = false := by simpa using he0
  clear he0
  have HP2 : Hid (∀ W, Below w.heap.size w W → Calls Tryz.prog 44 #[.agg h.cells, .agg (shutN X).toArray] W fun e w' => Below W.heap.size W w' ∧ ∃ A n c, n = lx.length ∧ w'.ownsRow W.heap.size 42 51 (.slice A n c) n lx.flatten ∧ e = .returned (.agg (h.set 6 A n c).cells)) := Lib.hid (fun W hW => by rw [← hlx0]; exact HPU.out _ W (cshutN_fits HXF.out) hW)
  clear hlx0
  obtain ⟨_, _, _, c50, clt⟩ := cnotice_box HRH1.out HXF.out
  have f50 : w1b.frozen? ⟨w1.heap.size, 50, none⟩ = false := frozen_of_block HRH1.out
  obtain ⟨w2, hw2⟩ : ∃ W, W = w1b.setCell ⟨w1.heap.size, 50, none⟩ (.bool true) := ⟨_, rfl⟩
  have HN2 : Hid (w2.heap[w1.heap.size]? = some (.cells (shutN X).toArray 42 (0, 0))) := Lib.hid (by rw [hw2, block_setCell HRH1.out]; unfold shutN; simp)
  have H2 : Hid (Below _ _ w2) := Lib.hid (by rw [hw2]; exact H1.out.setCell HPH1.out.size _)
  have HW2 := Lib.hid hw2
  clear hw2
  go_upto_region 5 with (first
   | (refine wpList_store_row rfl 42 (.tmp 6) (.tmp 12) rfl w1.heap.size X.toArray rfl rfl _ _ HBXH1.out (HSNO.out _ HXF.out) (HOO.out _ HXF.out) (HOC.out _ HXF.out) ?_; rw [← HWH1.out])
   | fail)
  rw [← HW2.out]
  clear c50 clt f50
  go_wp2_with (first
   | (refine wpList_load_row rfl 37 (.tmp 2) rfl w.heap.size rfl _ _ _ _ (HH.out _ H2.out) huh rfl (HSH.out _) ?_)
   | (refine wpList_load_row rfl 42 (.tmp 6) rfl w1.heap.size rfl _ _ _ _ HN2.out huNO rfl (HSNO.out _ (cshutN_fits HXF.out)) ?_)
   | fail)
  refine (HP2.out _ (HBW.out _ H2.out).1).mono ?_
  rintro e w5 ⟨hb9, A, n, cc, hl, hown, rfl⟩
  have H9 := Lib.hid (H2.out.trans (hb9.mono H2.out.size))
  have HO9 := Lib.hid hown
  have HLE := Lib.hid hl
  have HSZ9 := Lib.hid (HBW.out _ H2.out).2
  clear hb9 hown hl
  go_wp2_with (first
   | (refine wpList_store_row rfl 37 (.tmp 4) (.tmp 21) rfl (w.heap.size + 1) (h.set 6 A n cc).cells rfl rfl _ _ (HZ.out _ H9.out) (HSH.out _) rfl (H1C.out _) ?_)
   | fail)
  exact bodyPost_ret (results_row_tmp rfl _ _ (w.heap.size + 1) _ _ _ _ rfl (setRow_heap _ _ _ _ _ _ (HZ.out _ H9.out)) huh rfl (HSH.out _)) rfl ⟨setRow_below (HBW.out _ H9.out).1 (by omega) _, .inr ⟨HE.out, A, n, cc, HLE.out, own_rowed HO9.out (by have := HSZ9.out; omega) (by have := HSZ9.out; omega), rfl⟩⟩
 · have bn : ((er : Int) != 0) = true := by simpa using he0
   have HKL := Lib.hid he0
   clear he0
   go_wp2_with (first
    | (refine wpList_store_row rfl 42 (.tmp 6) (.tmp 12) rfl w1.heap.size X.toArray rfl rfl _ _ HBXH1.out (HSNO.out _ HXF.out) (HOO.out _ HXF.out) (HOC.out _ HXF.out) ?_; rw [← HWH1.out])
    | (refine wpList_store_row rfl 37 (.tmp 4) (.tmp 16) rfl (w.heap.size + 1) Hs.zero rfl rfl _ _ (HZ.out _ H1.out) HSQ.out rfl H1Q.out ?_)
    | fail)
   exact bodyPost_ret (results_row_tmp rfl _ _ (w.heap.size + 1) _ _ _ _ rfl (setRow_heap _ _ _ _ _ _ (HZ.out _ H1.out)) huh rfl HSQ.out) rfl ⟨setRow_below (HBW.out _ H1.out).1 (by omega) _, .inl ⟨HKL.out, rfl⟩⟩
end Go.Proofs.YtgbilfkjfeheaaaGreat
