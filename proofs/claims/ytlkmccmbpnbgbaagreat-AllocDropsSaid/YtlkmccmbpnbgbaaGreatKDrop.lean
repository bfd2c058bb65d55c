/-
 CONTRACT of the code's Drop. (By wip/tools/gen_acode.py.)
-/
import Derived.Test.YtlkmccmbpnbgbaaGreatKRel
import Derived.Test.YtlkmccmbpnbgbaaGreatKSmall
import Derived.Test.YtlkmccmbpnbgbaaGreatKOrder
import Derived.Test.YtlkmccmbpnbgbaaGreatKO
import Derived.Test.YtlkmccmbpnbgbaaGreatHLastN
import Derived.Test.YtlkmccmbpnbgbaaGreatJHead
import Derived.Deep.CutRange
import Derived.BigQuiet
namespace Go.Proofs.YtlkmccmbpnbgbaaGreat
set_option linter.unusedVariables false
open Go.RowKit
open Pl (firstG firstG_none firstG_some findG overG putG dropG It)

theorem tabOrder_any' (w : World) : Calls Tryz.prog 77 #[] w fun e w' => e = .returned (.agg #[tvOrder]) ∧ Below w.heap.size w w' := tabOrder_any w
theorem any_begun (l : List Value) : (lnsL l 8).any begunB = (List.range 8).any fun i => !(emp (lnAt l i).item) && decide ((lnAt l i).got ≠ 0) := by
 unfold lnsL
 rw [List.any_map]; rfl
set_option maxRecDepth 100000 in
set_option maxHeartbeats 12800000 in
theorem cdrop (h : Hs) (L : HL) (s : ByteArray) (w : World) (hh : HT h L w) (hn4 : h.n 4 ≤ 1000) (hn8 : h.n 8 ≤ 1000) (hc : Caps h) :
 Calls Tryz.prog 21 #[.agg h.cells, .string s] w (HouseP (dropE L s) (dropM L s) h L w) := by
 have HHT := Lib.hid hh
 have HOH : Hid (∀ g, w.heap.size ≤ g → Off g h L) := Lib.hid (fun g hg => hh.offge hg)
 obtain ⟨X, hX⟩ : ∃ X, gotOrder (L 7) s = X := ⟨_, rfl⟩
 have HXF : Hid (Fits kOrder X) := Lib.hid (hX ▸ order_things hh s)
 obtain ⟨il, hil⟩ : ∃ z, (atOrder (L 7) s).isSome = z := ⟨_, rfl⟩
 obtain ⟨bg, hbg⟩ : ∃ z, begunX X = z := ⟨_, rfl⟩
 obtain ⟨CL, hCL⟩ : ∃ z, claimsL (L 8) s = z := ⟨_, rfl⟩
 obtain ⟨tk, htk⟩ : ∃ z, CL.any taskB = z := ⟨_, rfl⟩
 obtain ⟨m, hm⟩ : ∃ z, CL.length = z := ⟨_, rfl⟩
 obtain ⟨re, hre⟩ : ∃ z, relE CL L m = z := ⟨_, rfl⟩
 obtain ⟨RM, hRM⟩ : ∃ z, relM CL L m = z := ⟨_, rfl⟩
 obtain ⟨l7, hl7⟩ : ∃ z, dropG ordOrder (L 7) X = z := ⟨_, rfl⟩
 obtain ⟨er, her⟩ : ∃ z, dropE L s = z := ⟨_, rfl⟩
 obtain ⟨M, hM⟩ : ∃ z, dropM L s = z := ⟨_, rfl⟩
 have HA : Hid (er = if il = false then 12 else if (bg || tk) = true then 13 else re) := Lib.hid (by rw [← her]; unfold dropE; rw [hil, hX, hbg, hCL, htk, hm, hre])
 have HM : Hid (M = setE 0 RM 7 l7) := Lib.hid (by rw [← hM]; unfold dropM; rw [hX, hCL, hm, hRM, hl7])
 have HTC : Hid (Things kClaim CL) := Lib.hid (by rw [← hCL]; exact fun e he => (hh 8 (by decide)).2.2.1 e (List.mem_filter.1 he).1)
 have HMLEN : Hid (m = CL.length ∧ m ≤ 1000) := Lib.hid ⟨hm.symm, by rw [← hm, ← hCL]; exact Nat.le_trans (List.length_filter_le _ _) (by rw [← (hh 8 (by decide)).1]; exact hn8)⟩
 have HL7 : Hid (Things (kOf 7) l7 ∧ l7.length ≤ 1000000) := Lib.hid ⟨by rw [← hl7]; exact dropG_things (hh 7 (by decide)).2.2.1 _, by rw [← hl7]; have h1 := dropG_len ordOrder (L 7) X; have h2 := (hh 7 (by decide)).1; have h3 := (hh 7 (by decide)).2.1; omega⟩
 have HR7 : Hid (RM 7 = L 7) := Lib.hid (by rw [← hRM]; exact rel_off _ _ (by decide) (by decide) _)
 have CF : Hid (∀ W, Below w.heap.size w W → Calls Tryz.prog 65 #[.agg h.cells, .string s] W fun e w' => e = .returned (.tuple #[.agg X.toArray, .bool il]) ∧ Below W.heap.size W w') := Lib.hid (fun W hW => by have := fcOrder (hh.below hW) s; rw [hX, hil] at this; exact this)
 have CO : Hid (∀ W, Below w.heap.size w W → Calls Tryz.prog 71 #[.agg h.cells, .string s] W fun e w' => Below W.heap.size W w' ∧ ∃ A c, e = .returned (.slice A m c) ∧ Rd w' w'.heap.size A CL.flatten) := Lib.hid (fun W hW => by have := ccof h L s W (hh.below hW) (by omega); rw [hCL, hm] at this; exact this)
 have CR : Hid (∀ (A : Option Addr) (c : Nat) W, Below w.heap.size w W → Rd W W.heap.size A CL.flatten → Calls Tryz.prog 76 #[.agg h.cells, .slice A m c] W (HouseP re RM h L W)) := Lib.hid (fun A c W hW hr => by have := crelease h L A m c CL W (hh.below hW) hn4 hn8 hc hm.symm (by have := HMLEN.out.2; omega) HTC.out hr; rw [hre, hRM] at this; exact this)
 have CD : Hid (∀ (q : Hs) W, HT q RM W → Caps q → Calls Tryz.prog 78 #[.agg #[tvOrder], .slice (q.A 7) (q.n 7) (q.c 7), .agg X.toArray] W (NewOrder W l7)) := Lib.hid (fun q W hW hcq => by
  obtain ⟨a1, a2, a3, a4⟩ := hW 7 (by decide)
  rw [HR7.out] at a1 a3 a4
  have h1 := dropOrder (q.A 7) (q.n 7) (q.c 7) 111 #[] ordOrder X (L 7) W a1 (hcq 7 (by decide)).1 (hcq 7 (by decide)).2 a2 a3 HXF.out a4 (tellsOrder W)
  rw [hl7] at h1
  exact h1)
 obtain ⟨ll, hll⟩ : ∃ z, oLines X = z := ⟨_, rfl⟩
 have HLV := Lib.hid hll
 have HLF : Hid (Fits kLine8 ll) := Lib.hid (by rw [← hll]; exact (order_parts HXF.out).2.2.1)
 have HBG : Hid ((lnsL ll 8).any begunB = bg) := Lib.hid (by rw [any_begun, ← hbg, ← hll]; rfl)
 have HTK := Lib.hid htk
 rw [her, hM]
 clear her hM hX hil hbg hCL htk hm hre hRM hl7 hll
 have HSO : Hid (∀ y, Fits kOrder y → (Tryz.prog.info? 42).map (·.size) = some y.toArray.size) := Lib.hid (fun y hy => by rw [show (Tryz.prog.info? 42).map (·.size) = some 50 from by kernel_rfl, List.size_toArray, hy.length]; rfl)
 have HSOL : Hid (∀ y, Fits kOrder y → (Tryz.prog.info? 42).map (·.size) = some y.length) := Lib.hid (fun y hy => by rw [show (Tryz.prog.info? 42).map (·.size) = some 50 from by kernel_rfl, hy.length]; rfl)
 have huO := Tryz.underlying42
 have HOO : Hid (∀ y, Fits kOrder y → (#[.string ⟨#[]⟩, .string ⟨#[]⟩, .string ⟨#[]⟩, .int .i64 0, .int .i64 0, .int .i64 0, .int .i64 0, .int .i64 0, .string ⟨#[]⟩, .int .i64 0, .int .i64 0, .int .i64 0, .int .i64 0, .int .i64 0, .string ⟨#[]⟩, .int .i64 0, .int .i64 0, .int .i64 0, .int .i64 0, .int .i64 0, .string ⟨#[]⟩, .int .i64 0, .int .i64 0, .int .i64 0, .int .i64 0, .int .i64 0, .string ⟨#[]⟩, .int .i64 0, .int .i64 0, .int .i64 0, .int .i64 0, .int .i64 0, .string ⟨#[]⟩, .int .i64 0, .int .i64 0, .int .i64 0, .int .i64 0, .int .i64 0, .string ⟨#[]⟩, .int .i64 0, .int .i64 0, .int .i64 0, .int .i64 0, .int .i64 0, .string ⟨#[]⟩, .int .i64 0, .int .i64 0, .int .i64 0, .int .i64 0, .int .i64 0] : Array Value).size = y.toArray.size) := Lib.hid (fun y hy => by rw [List.size_toArray, List.size_toArray, hy.length]; rfl)
 have HOC : Hid (∀ y, Fits kOrder y → y.toArray.all (·.oneCell') = true) := Lib.hid (fun y hy => all_oneCell_toArray (fits_one hy))
 obtain ⟨W0, hW0⟩ : ∃ W0, W0 = ((w.alloc (.cells h.cells 37)).alloc (.cells #[.slice none 0 0, .slice none 0 0, .slice none 0 0, .slice none 0 0, .slice none 0 0, .slice none 0 0, .slice none 0 0, .slice none 0 0, .slice none 0 0, .slice none 0 0, .slice none 0 0, .slice none 0 0, .slice none 0 0, .slice none 0 0, .int .i64 0] 37)) := ⟨_, rfl⟩
 have hb0 : Below w.heap.size w W0 := by rw [hW0]; exact ((Below.refl _ _).alloc (Nat.le_refl _) _).alloc (by simp <;> omega) _
 have hs0 : W0.heap.size = w.heap.size + 2 := by rw [hW0]; simp
 have HH : Hid (∀ W, Below W0.heap.size W0 W → W.heap[w.heap.size]? = some (.cells h.cells 37 (0, 0))) := Lib.hid (fun W hW => (hW.block _ (by omega)).trans (by
  rw [hW0]
  have hq := heap_alloc_new w (.cells h.cells 37)
  exact (Below.heap_alloc _ _ _ (by simp <;> omega)).trans ((by simpa using hq))))
 have HZ : Hid (∀ W, Below W0.heap.size W0 W → W.heap[w.heap.size + 1]? = some (.cells Hs.zero 37 (0, 0))) := Lib.hid (fun W hW => (hW.block _ (by omega)).trans (by
  rw [hW0]
  have hq := heap_alloc_new (w.alloc (.cells h.cells 37)) (.cells #[.slice none 0 0, .slice none 0 0, .slice none 0 0, .slice none 0 0, .slice none 0 0, .slice none 0 0, .slice none 0 0, .slice none 0 0, .slice none 0 0, .slice none 0 0, .slice none 0 0, .slice none 0 0, .slice none 0 0, .slice none 0 0, .int .i64 0] 37)
  exact (by simpa [Hs.zero] using hq)))
 have HBW : Hid (∀ W, Below W0.heap.size W0 W → Below w.heap.size w W ∧ w.heap.size + 2 ≤ W.heap.size) := Lib.hid (fun W hW => ⟨hb0.trans (hW.mono (by omega)), by have := hW.size; omega⟩)
 have huh := Tryz.underlying37
 have HSH : Hid (∀ a : Hs, (Tryz.prog.info? 37).map (·.size) = some a.cells.size) := Lib.hid (fun a => by kernel_rfl)
 have HSQ : Hid ((Tryz.prog.info? 37).map (·.size) = some Hs.zero.size) := Lib.hid (by kernel_rfl)
 have H1C : Hid (∀ a : Hs, a.cells.all (·.oneCell') = true) := Lib.hid (fun a => by simp [Hs.cells, Value.oneCell'])
 have H1Q : Hid (Hs.zero.all (·.oneCell') = true) := Lib.hid (by simp [Hs.zero, Value.oneCell'])
 have HB0 : Hid (HBox w h L W0) := Lib.hid ⟨hh.below hb0, hc, HOH.out _ (Nat.le_refl _), HH.out W0 (Below.refl _ _), hb0, by omega⟩
 have H0 := Lib.hid (Below.refl W0.heap.size W0)
 clear hb0 hs0 hh hn4 hn8 hc
 subst hW0
 go_enter Tryz.func21, Tryz.ntmps21
 go_wp2_with (first
  | (refine wpList_load_row rfl 37 (.tmp 2) rfl w.heap.size rfl _ _ _ _ (HH.out _ H0.out) huh rfl (HSH.out _) ?_)
  | fail)
 refine (CF.out _ (HBW.out _ H0.out).1).mono ?_
 rintro e w1 ⟨rfl, hb9⟩
 have HPH1 := Lib.hid (H0.out.trans (hb9.mono H0.out.size))
 clear hb9
 have HBXH1 : Hid ((w1.alloc (.cells #[.string ⟨#[]⟩, .string ⟨#[]⟩, .string ⟨#[]⟩, .int .i64 0, .int .i64 0, .int .i64 0, .int .i64 0, .int .i64 0, .string ⟨#[]⟩, .int .i64 0, .int .i64 0, .int .i64 0, .int .i64 0, .int .i64 0, .string ⟨#[]⟩, .int .i64 0, .int .i64 0, .int .i64 0, .int .i64 0, .int .i64 0, .string ⟨#[]⟩, .int .i64 0, .int .i64 0, .int .i64 0, .int .i64 0, .int .i64 0, .string ⟨#[]⟩, .int .i64 0, .int .i64 0, .int .i64 0, .int .i64 0, .int .i64 0, .string ⟨#[]⟩, .int .i64 0, .int .i64 0, .int .i64 0, .int .i64 0, .int .i64 0, .string ⟨#[]⟩, .int .i64 0, .int .i64 0, .int .i64 0, .int .i64 0, .int .i64 0, .string ⟨#[]⟩, .int .i64 0, .int .i64 0, .int .i64 0, .int .i64 0, .int .i64 0] 42)).heap[w1.heap.size]? = some (.cells #[.string ⟨#[]⟩, .string ⟨#[]⟩, .string ⟨#[]⟩, .int .i64 0, .int .i64 0, .int .i64 0, .int .i64 0, .int .i64 0, .string ⟨#[]⟩, .int .i64 0, .int .i64 0, .int .i64 0, .int .i64 0, .int .i64 0, .string ⟨#[]⟩, .int .i64 0, .int .i64 0, .int .i64 0, .int .i64 0, .int .i64 0, .string ⟨#[]⟩, .int .i64 0, .int .i64 0, .int .i64 0, .int .i64 0, .int .i64 0, .string ⟨#[]⟩, .int .i64 0, .int .i64 0, .int .i64 0, .int .i64 0, .int .i64 0, .string ⟨#[]⟩, .int .i64 0, .int .i64 0, .int .i64 0, .int .i64 0, .int .i64 0, .string ⟨#[]⟩, .int .i64 0, .int .i64 0, .int .i64 0, .int .i64 0, .int .i64 0, .string ⟨#[]⟩, .int .i64 0, .int .i64 0, .int .i64 0, .int .i64 0, .int .i64 0] 42 (0, 0))) := Lib.hid (heap_alloc_new _ _)
 obtain ⟨w1b, hw1b⟩ : ∃ W, W = (w1.alloc (.cells #[.string ⟨#[]⟩, .string ⟨#[]⟩, .string ⟨#[]⟩, .int .i64 0, .int .i64 0, .int .i64 0, .int .i64 0, .int .i64 0, .string ⟨#[]⟩, .int .i64 0, .int .i64 0, .int .i64 0, .int .i64 0, .int .i64 0, .string ⟨#[]⟩, .int .i64 0, .int .i64 0, .int .i64 0, .int .i64 0, .int .i64 0, .string ⟨#[]⟩, .int .i64 0, .int .i64 0, .int .i64 0, .int .i64 0, .int .i64 0, .string ⟨#[]⟩, .int .i64 0, .int .i64 0, .int .i64 0, .int .i64 0, .int .i64 0, .string ⟨#[]⟩, .int .i64 0, .int .i64 0, .int .i64 0, .int .i64 0, .int .i64 0, .string ⟨#[]⟩, .int .i64 0, .int .i64 0, .int .i64 0, .int .i64 0, .int .i64 0, .string ⟨#[]⟩, .int .i64 0, .int .i64 0, .int .i64 0, .int .i64 0, .int .i64 0] 42)).setRow w1.heap.size X.toArray := ⟨_, rfl⟩
 have H1 : Hid (Below ((w.alloc (.cells h.cells 37)).alloc (.cells #[.slice none 0 0, .slice none 0 0, .slice none 0 0, .slice none 0 0, .slice none 0 0, .slice none 0 0, .slice none 0 0, .slice none 0 0, .slice none 0 0, .slice none 0 0, .slice none 0 0, .slice none 0 0, .slice none 0 0, .slice none 0 0, .int .i64 0] 37)).heap.size ((w.alloc (.cells h.cells 37)).alloc (.cells #[.slice none 0 0, .slice none 0 0, .slice none 0 0, .slice none 0 0, .slice none 0 0, .slice none 0 0, .slice none 0 0, .slice none 0 0, .slice none 0 0, .slice none 0 0, .slice none 0 0, .slice none 0 0, .slice none 0 0, .slice none 0 0, .int .i64 0] 37)) w1b) := Lib.hid (by rw [hw1b]; exact setRow_below (HPH1.out.alloc HPH1.out.size _) HPH1.out.size _)
 have HRH1 : Hid (w1b.heap[w1.heap.size]? = some (.cells X.toArray 42 (0, 0))) := Lib.hid (by rw [hw1b]; exact setRow_heap _ _ _ _ _ _ HBXH1.out)
 have HWH1 := Lib.hid hw1b
 clear hw1b
 cases il with
 | false =>
  have HE : Hid (er = 12) := Lib.hid (by rw [HA.out]; rfl)
  go_wp2_with (first
   | (refine wpList_store_row rfl 42 (.tmp 6) (.tmp 14) rfl w1.heap.size X.toArray rfl rfl _ _ HBXH1.out (HSO.out _ HXF.out) (HOO.out _ HXF.out) (HOC.out _ HXF.out) ?_; rw [← HWH1.out])
   | (refine wpList_store_row rfl 37 (.tmp 4) (.tmp 18) rfl (w.heap.size + 1) Hs.zero rfl rfl _ _ (HZ.out _ H1.out) HSQ.out rfl H1Q.out ?_)
   | fail)
  exact bodyPost_ret (results_row_tmp rfl _ _ (w.heap.size + 1) _ _ _ _ rfl (setRow_heap _ _ _ _ _ _ (HZ.out _ H1.out)) huh rfl HSQ.out) rfl (by
   have hne : er ≠ 0 := by rw [HE.out]; decide
   rw [HE.out] at hne ⊢
   exact HouseP.bad hne (setRow_below (HBW.out _ H1.out).1 (show w.heap.size ≤ w.heap.size + 1 by omega) Hs.zero))
 | true =>
  have HA2 : Hid (er = if (bg || tk) = true then 13 else re) := Lib.hid (by rw [HA.out]; rfl)
  have HO1 : Hid (∀ W, Below w1b.heap.size w1b W → W.heap[w1.heap.size]? = some (.cells X.toArray 42 (0, 0))) := Lib.hid (fun W hW => (hW.block _ (lt_of_block HRH1.out)).trans HRH1.out)
  have HSW : Hid (w.heap.size + 2 ≤ w1.heap.size) := Lib.hid (HBW.out _ HPH1.out).2
  go_upto_region 4 with (first
   | (refine wpList_store_row rfl 42 (.tmp 6) (.tmp 14) rfl w1.heap.size X.toArray rfl rfl _ _ HBXH1.out (HSO.out _ HXF.out) (HOO.out _ HXF.out) (HOC.out _ HXF.out) ?_; rw [← HWH1.out])
   | fail)
  go_wp2_with (first
   | (refine wpList_load_row rfl 37 (.tmp 2) rfl w.heap.size rfl _ _ _ _ (HH.out _ H1.out) huh rfl (HSH.out _) ?_)
   | fail)
  refine (CO.out _ (HBW.out _ H1.out).1).mono ?_
  rintro e w2 ⟨hb2, A, ca, rfl, hrd⟩
  have H2 := Lib.hid (H1.out.trans (hb2.mono H1.out.size))
  have HX2 := Lib.hid hb2
  have HRD := Lib.hid hrd
  clear hb2 hrd
  have HNL : Hid (∀ W, Below w1b.heap.size w1b W → W.rangeAt w1.heap.size 2 ll ∧ w1.heap.size < W.heap.size) := Lib.hid (fun W hW => by have := corder_box (HO1.out W hW) HXF.out; rw [HLV.out] at this; exact ⟨this.2.2.1, this.2.2.2⟩)
  have HTL : Hid (∀ W, TellsF kLine W 73 #[] begunB) := Lib.hid (fun W => ⟨fun args W => by kernel_rfl, fun W hW e he => by
   have h1 := cbegun (lnOf e).item (lnOf e).asked (lnOf e).got (lnOf e).back (lnOf e).packed (lnOf e).out W
   have h2 : e.toArray = (lnOf e).cells.toArray := by conv => lhs; rw [ln_cells he]
   rw [h2]
   exact h1⟩)
  have HTT : Hid (∀ W, TellsF kClaim W 75 #[] taskB) := Lib.hid (fun W => ⟨fun args W => by kernel_rfl, fun W hW e he => by
   have h1 := ctask (clOf e).ord (clOf e).line (clOf e).bin (clOf e).item (clOf e).lot (clOf e).st (clOf e).qty (clOf e).task W
   have h2 : e.toArray = (clOf e).cells.toArray := by conv => lhs; rw [cl_cells he]
   rw [h2]
   exact h1⟩)
  have hsl := slice_all w1.heap.size 2
  obtain ⟨g1, g2⟩ := HNL.out _ HX2.out
  have hK := hasLine (some ⟨w1.heap.size, 2, none⟩) 8 8 73 #[] begunB (lnsL ll 8) w2 (lnsL_len ll 8).symm (by omega) (lnsL_things ll 8) (lines_rd HLF.out g1 g2 (by omega)) (HTL.out w2)
  rw [HBG.out] at hK
  have HK := Lib.hid hK
  clear hK g1 HTL
  go_wp2_with fail
  refine HK.out.mono ?_
  rintro e w3 ⟨rfl, hb3⟩
  have H3 := Lib.hid (H2.out.trans (hb3.mono H2.out.size))
  have HX3 := Lib.hid (HX2.out.trans (hb3.mono HX2.out.size))
  have HRD3 := Lib.hid ((HRD.out.below hb3).mono hb3.size)
  clear hb3 hsl g2 HK
  cases bg with
  | true =>
   have HE : Hid (er = 13) := Lib.hid (by rw [HA2.out]; rfl)
   go_wp2_with (first
    | (refine wpList_store_row rfl 37 (.tmp 4) (.tmp 29) rfl (w.heap.size + 1) Hs.zero rfl rfl _ _ (HZ.out _ H3.out) HSQ.out rfl H1Q.out ?_)
    | fail)
   exact bodyPost_ret (results_row_tmp rfl _ _ (w.heap.size + 1) _ _ _ _ rfl (setRow_heap _ _ _ _ _ _ (HZ.out _ H3.out)) huh rfl HSQ.out) rfl (by
    have hne : er ≠ 0 := by rw [HE.out]; decide
    rw [HE.out] at hne ⊢
    exact HouseP.bad hne (setRow_below (HBW.out _ H3.out).1 (show w.heap.size ≤ w.heap.size + 1 by omega) Hs.zero))
  | false =>
   have hK := hasClaim A m ca 75 #[] taskB CL w3 HMLEN.out.1 (by have := HMLEN.out.2; omega) HTC.out HRD3.out (HTT.out w3)
   rw [HTK.out] at hK
   have HK := Lib.hid hK
   clear hK HTT
   go_wp2_with fail
   refine HK.out.mono ?_
   rintro e w4 ⟨rfl, hb4⟩
   have H4 := Lib.hid (H3.out.trans (hb4.mono H3.out.size))
   have HX4 := Lib.hid (HX3.out.trans (hb4.mono HX3.out.size))
   have HRD4 := Lib.hid ((HRD3.out.below hb4).mono hb4.size)
   clear hb4 HK
   cases tk with
   | true =>
    have HE : Hid (er = 13) := Lib.hid (by rw [HA2.out]; rfl)
    go_wp2_with (first
     | (refine wpList_store_row rfl 37 (.tmp 4) (.tmp 29) rfl (w.heap.size + 1) Hs.zero rfl rfl _ _ (HZ.out _ H4.out) HSQ.out rfl H1Q.out ?_)
     | fail)
    exact bodyPost_ret (results_row_tmp rfl _ _ (w.heap.size + 1) _ _ _ _ rfl (setRow_heap _ _ _ _ _ _ (HZ.out _ H4.out)) huh rfl HSQ.out) rfl (by
     have hne : er ≠ 0 := by rw [HE.out]; decide
     rw [HE.out] at hne ⊢
     exact HouseP.bad hne (setRow_below (HBW.out _ H4.out).1 (show w.heap.size ≤ w.heap.size + 1 by omega) Hs.zero))
   | false =>
    have HA3 : Hid (er = re) := Lib.hid (by rw [HA2.out]; rfl)
    have HB4 : Hid (HBox w h L w4) := Lib.hid (HB0.out.below H4.out)
    have HZ4 := Lib.hid (HZ.out _ H4.out)
    have HO4 := Lib.hid (HO1.out _ HX4.out)
    go_wp2_with (first
     | (refine wpList_load_row rfl 37 (.tmp 2) rfl w.heap.size rfl _ _ _ _ HB4.out.box huh rfl (HSH.out _) ?_)
     | fail)
    refine (CR.out A ca _ HB4.out.bel HRD4.out).mono ?_
    rintro e w5 ⟨hb5, q, rfl, hq, hqz, hqc, hqo⟩
    have HB5 := Lib.hid (HB4.out.below hb5)
    have HQ5 := Lib.hid hq
    have HQZ := Lib.hid hqz
    have HQC := Lib.hid (hqc HB4.out.caps)
    have HQO := Lib.hid hqo
    have HS45 : Hid (w.heap.size + 2 ≤ w4.heap.size) := Lib.hid (by have := lt_of_block HZ4.out; omega)
    have HO5 := Lib.hid ((hb5.block _ (lt_of_block HO4.out)).trans HO4.out)
    have HZ5 := Lib.hid ((hb5.block _ (lt_of_block HZ4.out)).trans HZ4.out)
    clear hb5 hq hqz hqc hqo
    have HOW : Hid (Off w.heap.size q (setX re RM)) := Lib.hid (HQO.out _ HB4.out.off (by have := HS45.out; omega))
    obtain ⟨w6, hw6⟩ : ∃ W, W = w5.setRow w.heap.size q.cells := ⟨_, rfl⟩
    have HB6 : Hid (HBox w q (setX re RM) w6) := Lib.hid (by rw [hw6]; exact HB5.out.store HQ5.out HQC.out HOW.out)
    have HO6 : Hid (w6.heap[w1.heap.size]? = some (.cells X.toArray 42 (0, 0))) := Lib.hid (by rw [hw6]; exact (setRow_other _ _ _ _ (by have := HSW.out; omega)).trans HO5.out)
    have HZ6 : Hid (w6.heap[w.heap.size + 1]? = some (.cells Hs.zero 37 (0, 0))) := Lib.hid (by rw [hw6]; exact (setRow_other _ _ _ _ (by omega)).trans HZ5.out)
    have HW6 := Lib.hid hw6
    clear hw6
    by_cases hk0 : re = 0
    · subst hk0
      rw [setX_ok rfl] at HB6 HOW HQO
      obtain ⟨G2, hG2⟩ : ∃ z, RM = z := ⟨_, rfl⟩
      have CD2 := CD.out q
      rw [hG2] at HB6 HOW HQO CD2 HM
      have CDQ := Lib.hid CD2
      clear CD2 hG2
      go_upto_region 10 with (first
       | (refine wpList_store_row rfl 37 (.tmp 2) (.tmp 34) rfl w.heap.size q.cells rfl rfl _ _ HB5.out.box (HSH.out _) rfl (H1C.out _) ?_; rw [← HW6.out])
       | fail)
      go_wp2_with fail
      have HBT : Hid (∀ W, Below w6.heap.size w6 W → HBox w q G2 W) := Lib.hid (fun W hW => HB6.out.below hW)
      have HST : Hid (∀ W, Below w6.heap.size w6 W → W.cell? ⟨w.heap.size, 7, none⟩ = some (.slice (q.A 7) (q.n 7) (q.c 7)) ∧ W.rangeAt w1.heap.size 0 X) := Lib.hid (fun W hW => ⟨(by rw [cell_of_block (HBT.out _ hW).box]; rfl), range_row0 ((hW.block _ (lt_of_block HO6.out)).trans HO6.out)⟩)
      have BN0 := Lib.hid (Below.refl w6.heap.size w6).drew
      refine lastN_region (S := (fun w' => w'.cell? ⟨w.heap.size, 7, none⟩ = some (.slice (q.A 7) (q.n 7) (q.c 7)) ∧ w'.rangeAt w1.heap.size 0 X)) (n := 6) (by kernel_rfl) ?_
      refine LastN.pure (i := 1) (v := .pointer (some ⟨w.heap.size, 7, none⟩)) rfl (by kernel_rfl) (by kernel_rfl) (by kernel_rfl) (by decide) (fun _ _ _ h => h.elim) (.inl ⟨by kernel_rfl, fun w hw => by clear hw; go_simp⟩) (fun _ => HST.out _ BN0.out) ?_
      (try simp only [ax])
      refine LastN.take (i := 2) (v := .slice (q.A 7) (q.n 7) (q.c 7)) rfl (by kernel_rfl) (by kernel_rfl) (by kernel_rfl) (by kernel_rfl) (by kernel_rfl) (by decide) (fun _ _ _ h => h.elim) (.inl ⟨by kernel_rfl, fun w h => by have hw := h.1; clear h; go_simp⟩) (HST.out _ BN0.out) ?_
      (try simp only [ax])
      refine LastN.take (i := 3) (v := .agg (X).toArray) rfl (by kernel_rfl) (by kernel_rfl) (by kernel_rfl) (by kernel_rfl) (by kernel_rfl) (by decide) (fun _ _ _ h => h.elim) (yieldsIf_load_mid (by kernel_rfl) 42 (.tmp 6) rfl w1.heap.size (0) rfl X _ (fun w h => h.2) huO rfl (HSOL.out _ HXF.out)) (HST.out _ BN0.out) ?_
      (try simp only [ax])
      refine LastN.one (i := 0) (by kernel_rfl) rfl (fun K hK => ?_)
      go_simp
      refine (tabOrder_any' _).mono ?_
      rintro e w7 ⟨rfl, hbn⟩
      have BNT := Lib.hid (BN0.out.trans (hbn.mono BN0.out.size))
      clear hbn
      refine hK.out _ _ (fun _ _ => HST.out _ BNT.out) (fun _ => ?_)
      clear hK K
      (try simp only [ax])
      refine LastN.one (i := 4) (by kernel_rfl) rfl (fun K hK => ?_)
      go_simp
      refine (CDQ.out _ (HBT.out _ BNT.out).ht (HBT.out _ BNT.out).caps).mono ?_
      rintro e w8 ⟨A5, n5, c5, hl5, rfl, hown5, hbn⟩
      have BN7 := Lib.hid (BNT.out.trans (hbn.mono BNT.out.size))
      have HO5' := Lib.hid hown5
      have HLE5 := Lib.hid hl5
      have HS67 := Lib.hid hbn.size
      clear hown5 hl5
      clear hbn
      refine hK.out _ _ (fun _ _ => HST.out _ BN7.out) (fun _ => ?_)
      clear hK K
      (try simp only [ax])
      refine LastN.pure (i := 5) (v := .pointer (some ⟨w.heap.size, 7, none⟩)) rfl (by kernel_rfl) (by kernel_rfl) (by kernel_rfl) (by decide) (fun _ _ _ h => h.elim) (.inl ⟨by kernel_rfl, fun w hw => by clear hw; go_simp⟩) (fun _ => HST.out _ BN7.out) ?_
      (try simp only [ax])
      refine LastN.one (i := 6) (by kernel_rfl) rfl (fun K hK => ?_)
      have c5' := (HST.out _ BN7.out).1
      have f5 : w8.frozen? ⟨w.heap.size, 7, none⟩ = false := frozen_of_block (HBT.out _ BN7.out).box
      have l5 : w.heap.size < w8.heap.size := lt_of_block (HBT.out _ BN7.out).box
      go_simp
      refine hK.out _ _ (fun _ h => absurd rfl h) (fun _ => ?_)
      clear hK K c5' f5 l5
      (try simp only [ax])
      refine LastN.done (by kernel_rfl) ?_ _
      refine NoPanic.normal ?_
      clear HST
      have HB8 := Lib.hid (HBT.out _ BN7.out)
      have HS36 : Hid (w.heap.size + 2 ≤ w7.heap.size) := Lib.hid (Nat.le_trans (show w.heap.size + 2 ≤ w6.heap.size by have := lt_of_block HZ6.out; omega) BNT.out.size)
      have HZ8 := Lib.hid ((BN7.out.block _ (lt_of_block HZ6.out)).trans HZ6.out)
      have HB9 := Lib.hid (HB8.out.setList (i := 7) (by decide) HL7.out.1 HLE5.out (by rw [HLE5.out]; exact HL7.out.2) HO5'.out (by have := HS36.out; omega))
      have HZ9 : Hid ((w8.setCell ⟨w.heap.size, 7, none⟩ (.slice A5 n5 c5)).heap[w.heap.size + 1]? = some (.cells Hs.zero 37 (0, 0))) := Lib.hid ((block_setCell_other (by omega) _).trans HZ8.out)
      have HOF9 : Hid (∀ o, o < w.heap.size + 2 → Off o q G2 → Off o (q.set 7 A5 n5 c5) (setE 0 G2 7 l7)) := Lib.hid (fun o h1 h2 => off_set HO5'.out (by have := HS36.out; omega) h2)
      generalize w8.setCell ⟨w.heap.size, 7, none⟩ (.slice A5 n5 c5) = w9 at *
      go_wp2_with (first
       | (refine wpList_load_row rfl 37 (.tmp 2) rfl w.heap.size rfl _ _ _ _ HB9.out.box huh rfl (HSH.out _) ?_)
       | (refine wpList_store_row rfl 37 (.tmp 4) (.tmp 46) rfl (w.heap.size + 1) (q.set 7 A5 n5 c5).cells rfl rfl _ _ HZ9.out (HSH.out _) rfl (H1C.out _) ?_)
       | fail)
      exact bodyPost_ret (results_row_tmp rfl _ _ (w.heap.size + 1) _ _ _ _ rfl (setRow_heap _ _ _ _ _ _ HZ9.out) huh rfl (HSH.out _)) rfl (by
       rw [HA3.out, HM.out]
       have ho1 : Off (w.heap.size + 1) (q.set 7 A5 n5 c5) (setE 0 G2 7 l7) := HOF9.out _ (by omega) (HQO.out _ (HOH.out _ (by omega)) (by have := HS45.out; omega))
       refine ⟨setRow_below HB9.out.bel (show w.heap.size ≤ w.heap.size + 1 by omega) _, q.set 7 A5 n5 c5, rfl, ?_, HQZ.out, fun _ => HB9.out.caps, fun o h1 h2 => ?_⟩
       · rw [setX_ok rfl]; exact HB9.out.ht.setRowOff ho1 _
       · rw [setX_ok rfl]; exact HOF9.out o (by omega) (HQO.out o h1 (by have := HS45.out; omega)))
    · have bn : ((re : Int) != 0) = true := by simpa using hk0
      have HKL := Lib.hid hk0
      clear hk0
      have HE : Hid (er = re) := HA3
      go_wp2_with (first
       | (refine wpList_store_row rfl 37 (.tmp 2) (.tmp 34) rfl w.heap.size q.cells rfl rfl _ _ HB5.out.box (HSH.out _) rfl (H1C.out _) ?_; rw [← HW6.out])
       | (refine wpList_store_row rfl 37 (.tmp 4) (.tmp 38) rfl (w.heap.size + 1) Hs.zero rfl rfl _ _ HZ6.out HSQ.out rfl H1Q.out ?_)
       | fail)
      exact bodyPost_ret (results_row_tmp rfl _ _ (w.heap.size + 1) _ _ _ _ rfl (setRow_heap _ _ _ _ _ _ HZ6.out) huh rfl HSQ.out) rfl (by
       have hne : er ≠ 0 := by rw [HE.out]; exact HKL.out
       rw [HE.out] at hne ⊢
       exact HouseP.bad hne (setRow_below HB6.out.bel (show w.heap.size ≤ w.heap.size + 1 by omega) Hs.zero))
end Go.Proofs.YtlkmccmbpnbgbaaGreat
