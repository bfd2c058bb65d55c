/-
 CONTRACT of the code's Allocate. (By wip/tools/gen_acode.py.)
-/
import Derived.Test.YtlkmccmbpnbgbaaGreatKResv
import Derived.Test.YtlkmccmbpnbgbaaGreatKSmall
import Derived.Test.YtlkmccmbpnbgbaaGreatKOrder
import Derived.Test.YtlkmccmbpnbgbaaGreatNNaive
import Derived.Test.YtlkmccmbpnbgbaaGreatKO
import Derived.Test.YtlkmccmbpnbgbaaGreatHLastN
import Derived.Test.YtlkmccmbpnbgbaaGreatJHead
import Derived.Lib.MinMax
import Derived.Deep.CutRange
import Derived.BigQuiet
namespace Go.Proofs.YtlkmccmbpnbgbaaGreat
set_option linter.unusedVariables false
open Go.RowKit
open Pl (firstG firstG_none firstG_some findG overG putG dropG It)

theorem region_to4 {P : Program} {c : Code} {Q : Exit → Act → World → Prop} {a : Act} {w : World} {α β γ : Type} {F : Nat → α → β → γ → Act} (R : Nat → α → β → γ → World → Prop) (h : c.wp P (fun e a' w' => e = .normal ∧ ∃ g x y z, a' = F g x y z ∧ R g x y z w') a w) (hq : ∀ g x y z w', R g x y z w' → Q .normal (F g x y z) w') : c.wp P Q a w :=
 Code.wp_mono (fun e a' w' => (by rintro ⟨rfl, g, x, y, z, rfl, hr⟩; exact hq g x y z w' hr)) h
/-- A row that reads so. -/
structure RdW (A : Option Addr) (l : List (List Value)) (w : World) : Prop where
 rd : Rd w w.heap.size A l.flatten
theorem RdW.below {A : Option Addr} {l : List (List Value)} {w W : World} (h : RdW A l w) (hb : Below w.heap.size w W) : RdW A l W := ⟨(h.rd.below hb).mono hb.size⟩
theorem RdW.offge {A : Option Addr} {l : List (List Value)} {w : World} {g : Nat} (h : RdW A l w) (hg : w.heap.size ≤ g) : True := trivial
set_option maxRecDepth 100000 in
set_option maxHeartbeats 12800000 in
theorem calloc (h : Hs) (L : HL) (s : ByteArray) (w : World) (hh : HT h L w) (hn : ∀ i, i < 14 → h.n i ≤ 1000) (hc : Caps h) :
 Calls Tryz.prog 19 #[.agg h.cells, .string s] w (HouseP (allE L s) (allM L s) h L w) := by
 have HHT := Lib.hid hh
 have HOH : Hid (∀ g, w.heap.size ≤ g → Off g h L) := Lib.hid (fun g hg => hh.offge hg)
 have HLEN : Hid (∀ i, i < 14 → (L i).length ≤ 1000) := Lib.hid (fun i hi => by rw [← (hh i hi).1]; exact hn i hi)
 obtain ⟨X, hX⟩ : ∃ X, gotOrder (L 7) s = X := ⟨_, rfl⟩
 have HXF : Hid (Fits kOrder X) := Lib.hid (hX ▸ order_things hh s)
 obtain ⟨il, hil⟩ : ∃ z, (atOrder (L 7) s).isSome = z := ⟨_, rfl⟩
 obtain ⟨er, her⟩ : ∃ z, allE L s = z := ⟨_, rfl⟩
 obtain ⟨M, hM⟩ : ∃ z, allM L s = z := ⟨_, rfl⟩
 have HA : Hid (er = if il = false then 12 else alcE L X s 8) := Lib.hid (by rw [← her]; unfold allE; rw [hil, hX])
 have HM : Hid (M = setE 0 (alcM L X s 8) 7 (putG ordOrder (L 7) (alcX L X s 8))) := Lib.hid (by rw [← hM]; unfold allM; rw [hX])
 have CF : Hid (∀ W, Below w.heap.size w W → Calls Tryz.prog 65 #[.agg h.cells, .string s] W fun e w' => e = .returned (.tuple #[.agg X.toArray, .bool il]) ∧ Below W.heap.size W w') := Lib.hid (fun W hW => by have := fcOrder (hh.below hW) s; rw [hX, hil] at this; exact this)
 obtain ⟨ll, hll⟩ : ∃ z, oLines X = z := ⟨_, rfl⟩
 obtain ⟨si, hsi⟩ : ∃ z, nsite X = z := ⟨_, rfl⟩
 have HLV := Lib.hid hll
 have HSV := Lib.hid hsi
 have HLF : Hid (Fits kLine8 ll) := Lib.hid (by rw [← hll]; exact (order_parts HXF.out).2.2.1)
 have HLL8 : Hid ((Tryz.prog.info? 40).map (·.size) = some ll.length) := Lib.hid (by rw [HLF.out.length]; kernel_rfl)
 have huL8 := Tryz.underlying40
 have huLI := Tryz.underlying39
 have HSLI : Hid ((Tryz.prog.info? 39).map (·.size) = some 6) := Lib.hid (by kernel_rfl)
 have HSHL : Hid (∀ a : Hs, (Tryz.prog.info? 37).map (·.size) = some a.cells.toList.length) := Lib.hid (fun a => by kernel_rfl)
 have HSITE : Hid (∀ k, nsite (alcX L X s k) = si ∧ codeOf (alcX L X s k) = codeOf X) := Lib.hid (fun k => by rw [← hsi]; exact alcX_head L X s k)
 rw [her, hM]
 clear her hM hX hil hll hsi
 have HSO : Hid (∀ y, Fits kOrder y → (Tryz.prog.info? 42).map (·.size) = some y.toArray.size) := Lib.hid (fun y hy => by rw [show (Tryz.prog.info? 42).map (·.size) = some 50 from by kernel_rfl, List.size_toArray, hy.length]; rfl)
 have HSOL : Hid (∀ y, Fits kOrder y → (Tryz.prog.info? 42).map (·.size) = some y.length) := Lib.hid (fun y hy => by rw [show (Tryz.prog.info? 42).map (·.size) = some 50 from by kernel_rfl, hy.length]; rfl)
 have huO := Tryz.underlying42
 have HOO : Hid (∀ y, Fits kOrder y → (#[.string ⟨#[]⟩, .string ⟨#[]⟩, .string ⟨#[]⟩, .int .i64 0, .int .i64 0, .int .i64 0, .int .i64 0, .int .i64 0, .string ⟨#[]⟩, .int .i64 0, .int .i64 0, .int .i64 0, .int .i64 0, .int .i64 0, .string ⟨#[]⟩, .int .i64 0, .int .i64 0, .int .i64 0, .int .i64 0, .int .i64 0, .string ⟨#[]⟩, .int .i64 0, .int .i64 0, .int .i64 0, .int .i64 0, .int .i64 0, .string ⟨#[]⟩, .int .i64 0, .int .i64 0, .int .i64 0, .int .i64 0, .int .i64 0, .string ⟨#[]⟩, .int .i64 0, .int .i64 0, .int .i64 0, .int .i64 0, .int .i64 0, .string ⟨#[]⟩, .int .i64 0, .int .i64 0, .int .i64 0, .int .i64 0, .int .i64 0, .string ⟨#[]⟩, .int .i64 0, .int .i64 0, .int .i64 0, .int .i64 0, .int .i64 0] : Array Value).size = y.toArray.size) := Lib.hid (fun y hy => by rw [List.size_toArray, List.size_toArray, hy.length]; rfl)
 have HOC : Hid (∀ y, Fits kOrder y → y.toArray.all (·.oneCell') = true) := Lib.hid (fun y hy => all_oneCell_toArray (fits_one hy))
 obtain ⟨W0, hW0⟩ : ∃ W0, W0 = ((w.alloc (.cells h.cells 37)).alloc (.cells #[.slice none 0 0, .slice none 0 0, .slice none 0 0, .slice none 0 0, .slice none 0 0, .slice none 0 0, .slice none 0 0, .slice none 0 0, .slice none 0 0, .slice none 0 0, .slice none 0 0, .slice none 0 0, .slice none 0 0, .slice none 0 0, .int .i64 0] 37)) := ⟨_, rfl⟩
 have hb0 : Below w.heap.size w W0 := by rw [hW0]; exact ((Below.refl _ _).alloc (Nat.le_refl _) _).alloc (by simp <;> omega) _
 have hs0 : W0.heap.size = w.heap.size + 2 := by rw [hW0]; simp
 have HH : Hid (∀ W, Below W0.heap.size W0 W → W.heap[w.heap.size]? = some (.cells h.cells 37 (0, 0))) := Lib.hid (fun W hW => (hW.block _ (by omega)).trans (by
  rw [hW0]
  have hq := heap_alloc_new w (.cells h.cells 37)
  exact (Below.heap_alloc _ _ _ (by simp <;> omega)).trans ((by simpa using hq))))
 have HZ : Hid (∀ W, Below W0.heap.size W0 W → W.heap[w.heap.size + 1]? = some (.cells Hs.zero 37 (0, 0))) := Lib.hid (fun W hW => (hW.block _ (by omega)).trans (by
  rw [hW0]
  have hq := heap_alloc_new (w.alloc (.cells h.cells 37)) (.cells #[.slice none 0 0, .slice none 0 0, .slice none 0 0, .slice none 0 0, .slice none 0 0, .slice none 0 0, .slice none 0 0, .slice none 0 0, .slice none 0 0, .slice none 0 0, .slice none 0 0, .slice none 0 0, .slice none 0 0, .slice none 0 0, .int .i64 0] 37)
  exact (by simpa [Hs.zero] using hq)))
 have HBW : Hid (∀ W, Below W0.heap.size W0 W → Below w.heap.size w W ∧ w.heap.size + 2 ≤ W.heap.size) := Lib.hid (fun W hW => ⟨hb0.trans (hW.mono (by omega)), by have := hW.size; omega⟩)
 have huh := Tryz.underlying37
 have HSH : Hid (∀ a : Hs, (Tryz.prog.info? 37).map (·.size) = some a.cells.size) := Lib.hid (fun a => by kernel_rfl)
 have HSQ : Hid ((Tryz.prog.info? 37).map (·.size) = some Hs.zero.size) := Lib.hid (by kernel_rfl)
 have H1C : Hid (∀ a : Hs, a.cells.all (·.oneCell') = true) := Lib.hid (fun a => by simp [Hs.cells, Value.oneCell'])
 have H1Q : Hid (Hs.zero.all (·.oneCell') = true) := Lib.hid (by simp [Hs.zero, Value.oneCell'])
 have HB0 : Hid (HBox w h L W0) := Lib.hid ⟨hh.below hb0, hc, HOH.out _ (Nat.le_refl _), HH.out W0 (Below.refl _ _), hb0, by omega⟩
 have H0 := Lib.hid (Below.refl W0.heap.size W0)
 clear hb0 hs0 hh hn hc
 subst hW0
 go_enter Tryz.func19, Tryz.ntmps19
 go_wp2_with (first
  | (refine wpList_load_row rfl 37 (.tmp 2) rfl w.heap.size rfl _ _ _ _ (HH.out _ H0.out) huh rfl (HSH.out _) ?_)
  | fail)
 refine (CF.out _ (HBW.out _ H0.out).1).mono ?_
 rintro e w1 ⟨rfl, hb9⟩
 have HPH1 := Lib.hid (H0.out.trans (hb9.mono H0.out.size))
 clear hb9
 have HBXH1 : Hid ((w1.alloc (.cells #[.string ⟨#[]⟩, .string ⟨#[]⟩, .string ⟨#[]⟩, .int .i64 0, .int .i64 0, .int .i64 0, .int .i64 0, .int .i64 0, .string ⟨#[]⟩, .int .i64 0, .int .i64 0, .int .i64 0, .int .i64 0, .int .i64 0, .string ⟨#[]⟩, .int .i64 0, .int .i64 0, .int .i64 0, .int .i64 0, .int .i64 0, .string ⟨#[]⟩, .int .i64 0, .int .i64 0, .int .i64 0, .int .i64 0, .int .i64 0, .string ⟨#[]⟩, .int .i64 0, .int .i64 0, .int .i64 0, .int .i64 0, .int .i64 0, .string ⟨#[]⟩, .int .i64 0, .int .i64 0, .int .i64 0, .int .i64 0, .int .i64 0, .string ⟨#[]⟩, .int .i64 0, .int .i64 0, .int .i64 0, .int .i64 0, .int .i64 0, .string ⟨#[]⟩, .int .i64 0, .int .i64 0, .int .i64 0, .int .i64 0, .int .i64 0] 42)).heap[w1.heap.size]? = some (.cells #[.string ⟨#[]⟩, .string ⟨#[]⟩, .string ⟨#[]⟩, .int .i64 0, .int .i64 0, .int .i64 0, .int .i64 0, .int .i64 0, .string ⟨#[]⟩, .int .i64 0, .int .i64 0, .int .i64 0, .int .i64 0, .int .i64 0, .string ⟨#[]⟩, .int .i64 0, .int .i64 0, .int .i64 0, .int .i64 0, .int .i64 0, .string ⟨#[]⟩, .int .i64 0, .int .i64 0, .int .i64 0, .int .i64 0, .int .i64 0, .string ⟨#[]⟩, .int .i64 0, .int .i64 0, .int .i64 0, .int .i64 0, .int .i64 0, .string ⟨#[]⟩, .int .i64 0, .int .i64 0, .int .i64 0, .int .i64 0, .int .i64 0, .string ⟨#[]⟩, .int .i64 0, .int .i64 0, .int .i64 0, .int .i64 0, .int .i64 0, .string ⟨#[]⟩, .int .i64 0, .int .i64 0, .int .i64 0, .int .i64 0, .int .i64 0] 42 (0, 0))) := Lib.hid (heap_alloc_new _ _)
 obtain ⟨w1b, hw1b⟩ : ∃ W, W = (w1.alloc (.cells #[.string ⟨#[]⟩, .string ⟨#[]⟩, .string ⟨#[]⟩, .int .i64 0, .int .i64 0, .int .i64 0, .int .i64 0, .int .i64 0, .string ⟨#[]⟩, .int .i64 0, .int .i64 0, .int .i64 0, .int .i64 0, .int .i64 0, .string ⟨#[]⟩, .int .i64 0, .int .i64 0, .int .i64 0, .int .i64 0, .int .i64 0, .string ⟨#[]⟩, .int .i64 0, .int .i64 0, .int .i64 0, .int .i64 0, .int .i64 0, .string ⟨#[]⟩, .int .i64 0, .int .i64 0, .int .i64 0, .int .i64 0, .int .i64 0, .string ⟨#[]⟩, .int .i64 0, .int .i64 0, .int .i64 0, .int .i64 0, .int .i64 0, .string ⟨#[]⟩, .int .i64 0, .int .i64 0, .int .i64 0, .int .i64 0, .int .i64 0, .string ⟨#[]⟩, .int .i64 0, .int .i64 0, .int .i64 0, .int .i64 0, .int .i64 0] 42)).setRow w1.heap.size X.toArray := ⟨_, rfl⟩
 have H1 : Hid (Below ((w.alloc (.cells h.cells 37)).alloc (.cells #[.slice none 0 0, .slice none 0 0, .slice none 0 0, .slice none 0 0, .slice none 0 0, .slice none 0 0, .slice none 0 0, .slice none 0 0, .slice none 0 0, .slice none 0 0, .slice none 0 0, .slice none 0 0, .slice none 0 0, .slice none 0 0, .int .i64 0] 37)).heap.size ((w.alloc (.cells h.cells 37)).alloc (.cells #[.slice none 0 0, .slice none 0 0, .slice none 0 0, .slice none 0 0, .slice none 0 0, .slice none 0 0, .slice none 0 0, .slice none 0 0, .slice none 0 0, .slice none 0 0, .slice none 0 0, .slice none 0 0, .slice none 0 0, .slice none 0 0, .int .i64 0] 37)) w1b) := Lib.hid (by rw [hw1b]; exact setRow_below (HPH1.out.alloc HPH1.out.size _) HPH1.out.size _)
 have HRH1 : Hid (w1b.heap[w1.heap.size]? = some (.cells X.toArray 42 (0, 0))) := Lib.hid (by rw [hw1b]; exact setRow_heap _ _ _ _ _ _ HBXH1.out)
 have HWH1 := Lib.hid hw1b
 clear hw1b
 cases il with
 | false =>
  have HE : Hid (er = 12) := Lib.hid (by rw [HA.out]; rfl)
  go_wp2_with (first
   | (refine wpList_store_row rfl 42 (.tmp 6) (.tmp 18) rfl w1.heap.size X.toArray rfl rfl _ _ HBXH1.out (HSO.out _ HXF.out) (HOO.out _ HXF.out) (HOC.out _ HXF.out) ?_; rw [← HWH1.out])
   | (refine wpList_store_row rfl 37 (.tmp 4) (.tmp 22) rfl (w.heap.size + 1) Hs.zero rfl rfl _ _ (HZ.out _ H1.out) HSQ.out rfl H1Q.out ?_)
   | fail)
  exact bodyPost_ret (results_row_tmp rfl _ _ (w.heap.size + 1) _ _ _ _ rfl (setRow_heap _ _ _ _ _ _ (HZ.out _ H1.out)) huh rfl HSQ.out) rfl (by
   have hne : er ≠ 0 := by rw [HE.out]; decide
   rw [HE.out] at hne ⊢
   exact HouseP.bad hne (setRow_below (HBW.out _ H1.out).1 (show w.heap.size ≤ w.heap.size + 1 by omega) Hs.zero))
 | true =>
  have HA2 : Hid (er = alcE L X s 8) := Lib.hid (by rw [HA.out]; rfl)
  have HSW : Hid (w.heap.size + 2 ≤ w1.heap.size) := Lib.hid (HBW.out _ HPH1.out).2
  have HB1 : Hid (HBox w h L w1b) := Lib.hid (HB0.out.below H1.out)
  have HZ1 := Lib.hid (HZ.out _ H1.out)
  go_upto_region 4 with (first
   | (refine wpList_store_row rfl 42 (.tmp 6) (.tmp 18) rfl w1.heap.size X.toArray rfl rfl _ _ HBXH1.out (HSO.out _ HXF.out) (HOO.out _ HXF.out) (HOC.out _ HXF.out) ?_; rw [← HWH1.out])
   | fail)
  have hr2 := (corder_box HRH1.out HXF.out).2.2.1
  rw [HLV.out] at hr2
  have HR2 := Lib.hid hr2
  have olt := lt_of_block HRH1.out
  clear hr2
  go_upto_region 5 with (first
   | (refine wpList_load_mid rfl 40 (.tmp 23) rfl w1.heap.size 2 rfl ll _ HR2.out huL8 rfl HLL8.out ?_)
   | fail)
  clear olt
  have HS1B : Hid (w1.heap.size + 1 ≤ w1b.heap.size) := Lib.hid (lt_of_block HRH1.out)
  go_loopw [25] (fun iv wr => ∃ (k : Nat) (g : Hs), k ≤ 8 ∧ iv = .int .i64 (k : Int) ∧ Hid (alcE L X s k = 0) ∧ Hid (HBox w g (alcM L X s k) wr) ∧ Hid (g.z = h.z) ∧ Hid (wr.heap[w.heap.size + 1]? = some (.cells Hs.zero 37 (0, 0))) ∧ Hid (wr.heap[w1.heap.size]? = some (.cells (alcX L X s k).toArray 42 (0, 0))) ∧ Hid (∀ o, Off o h L → o < w1.heap.size + 1 → Off o g (alcM L X s k))) (fun iv _ => 8 - (intOf iv).toNat)
  case atStart => exact ⟨0, h, by omega, rfl, Lib.hid rfl, HB1, Lib.hid rfl, HZ1, HRH1, Lib.hid (fun o ho _ => ho)⟩
  case round =>
   obtain ⟨k, g, hk, rfl, hE0, hbx, hgz, hzb, hxb, hof⟩ := hrel
   by_cases hlt : k < 8
   · obtain ⟨⟨xi, xa, xg, xb, xp, xo⟩, hx⟩ : ∃ x, lnAt ll k = x := ⟨_, rfl⟩
     have hidx : ∀ W, (Instr.index 40 (.agg ll.toArray) (.int .i64 (k : Int))).run Tryz.prog W = .ok (.agg #[.string xi, .int .i64 xa, .int .i64 xg, .int .i64 xb, .int .i64 xp, .int .i64 xo]) W := fun W => by have := index_line HLF.out hlt W; rw [hx] at this; exact this
     obtain ⟨G, hG⟩ : ∃ G, alcM L X s k = G := ⟨_, rfl⟩
     obtain ⟨Y, hY⟩ : ∃ Y, alcX L X s k = Y := ⟨_, rfl⟩
     have hlen := alc_len L X s k hE0.out
     have hoff : ∀ j, j ≠ 4 → j ≠ 8 → G j = L j := fun j h4 h8 => by rw [← hG]; exact alc_off L X s h4 h8 k
     have hyf : Fits kOrder Y := by rw [← hY]; exact alcX_fits HXF.out s k (by omega)
     have hys := (HSITE.out k).1
     rw [hY] at hys hxb
     rw [hG] at hlen hbx hof
     have HYF := Lib.hid hyf
     have HGN : Hid (∀ i, i < 14 → g.n i ≤ 1000) := Lib.hid (fun i hi => by
      rw [(hbx.out.ht i hi).1]
      by_cases h4 : i = 4
      · subst h4; exact Nat.le_trans hlen.1 (HLEN.out 4 (by decide))
      · by_cases h8 : i = 8
        · subst h8; exact Nat.le_trans hlen.2 (by have := HLEN.out 8 (by decide); omega)
        · rw [hoff i h4 h8]; exact HLEN.out i hi)
     obtain ⟨u, hu⟩ : ∃ u, emp xi = u := ⟨_, rfl⟩
     obtain ⟨cz, hcz⟩ : ∃ z, claimedZ (G 8) s (k : Int) = z := ⟨_, rfl⟩
     obtain ⟨wz, hwz⟩ : ∃ z, wrap64 (wrap64 (xa - xg) - cz) = z := ⟨_, rfl⟩
     obtain ⟨T, hT⟩ : ∃ z, pickL G si xi wz = z := ⟨_, rfl⟩
     obtain ⟨m, hm⟩ : ∃ z, T.length = z := ⟨_, rfl⟩
     obtain ⟨re, hre⟩ : ∃ z, rsvE s (k : Int) T G m = z := ⟨_, rfl⟩
     obtain ⟨RM, hRM⟩ : ∃ z, rsvM s (k : Int) T G m = z := ⟨_, rfl⟩
     obtain ⟨tz, htz⟩ : ∃ z, wrap64 (sumT T m) = z := ⟨_, rfl⟩
     have HWZ : Hid (wrap64 (wrap64 (xa - xg) - cz) = wz) := Lib.hid hwz
     have HWF : Hid (Wf wz) := Lib.hid (by rw [← hwz]; exact wrap_wf _)
     have hpk : picksA G X s k = T := by
      unfold picksA wantZ
      rw [HLV.out, HSV.out, hx]
      simp only []
      rw [hcz, hwz, hT]
     have HN1 : Hid (u = true → alcM L X s (k + 1) = G ∧ alcX L X s (k + 1) = Y ∧ alcE L X s (k + 1) = 0) := Lib.hid (fun h1 => by
      have he : emp (lnAt (oLines X) k).item = true := by rw [HLV.out, hx]; exact hu.trans h1
      refine ⟨?_, ?_, ?_⟩
      · show lineM (alcM L X s k) X s k = G; unfold lineM; rw [if_pos he, hG]
      · show (if emp (lnAt (oLines X) k).item = true then _ else _) = Y; rw [if_pos he, hY]
      · rw [show alcE L X s (k + 1) = _ from firstE_one hE0.out]; unfold lineEA; rw [if_pos he])
     have HN2 : Hid (u = false → alcM L X s (k + 1) = RM ∧ alcX L X s (k + 1) = setBack Y k (wrap64 (max wz 0 - tz)) ∧ alcE L X s (k + 1) = re) := Lib.hid (fun h1 => by
      have he : ¬ emp (lnAt (oLines X) k).item = true := by rw [HLV.out, hx]; show ¬ emp xi = true; rw [hu, h1]; decide
      refine ⟨?_, ?_, ?_⟩
      · show lineM (alcM L X s k) X s k = RM; unfold lineM; rw [if_neg he, hG, hpk, hm, hRM]
      · show (if emp (lnAt (oLines X) k).item = true then _ else _) = _
        rw [if_neg he, hY, hG]
        unfold lineB wantZ
        rw [hpk, hm, HLV.out, hx]
        simp only []
        rw [hcz, hwz, ← htz, wrap_sub3]
      · rw [show alcE L X s (k + 1) = _ from firstE_one hE0.out]; unfold lineEA; rw [if_neg he, hG, hpk, hm, hre])
     have HHIT : Hid (alcE L X s (k + 1) ≠ 0 → er = alcE L X s (k + 1)) := Lib.hid (fun h1 => by rw [HA2.out]; exact firstE_le _ (by omega) h1)
     have CU : Hid (∀ W, Calls Tryz.prog 66 #[.agg #[.string xi, .int .i64 xa, .int .i64 xg, .int .i64 xb, .int .i64 xp, .int .i64 xo]] W fun e w' => e = .returned (.bool (!u)) ∧ Below W.heap.size W w') := Lib.hid (fun W => by rw [← hu]; exact cuseA xi xa xg xb xp xo W)
     have CCZ : Hid (∀ W, HT g G W → Calls Tryz.prog 16 #[.agg g.cells, .string s, .int .i64 (k : Int)] W fun e w' => e = .returned (.int .i64 cz) ∧ Below W.heap.size W w') := Lib.hid (fun W hW => by rw [← hcz]; exact cclaimed g G s (k : Int) W hW)
     have CNV : Hid (∀ W, HT g G W → Calls Tryz.prog 68 #[.agg g.cells, .string si, .string xi, .int .i64 wz] W fun e w' => Below W.heap.size W w' ∧ ∃ A ca, e = .returned (.slice A m ca) ∧ Rd w' w'.heap.size A T.flatten) := Lib.hid (fun W hW => by have := cnaive g G si xi wz W hW HGN.out HWF.out; rw [hT] at this; rw [← hm]; exact this)
     have HTT : Hid (Things kTake T ∧ m = T.length ∧ m ≤ 1000000) := Lib.hid ⟨by rw [← hT]; exact things_pick _ _ _ _, hm.symm, by rw [← hm, ← hT]; have h1 := pick_len G si xi wz; have h2 := HGN.out 4 (by decide); have h3 := (hbx.out.ht 4 (by decide)).1; omega⟩
     have CRV : Hid (∀ (A : Option Addr) (ca : Nat) W, HT g G W → RdW A T W → Calls Tryz.prog 67 #[.agg g.cells, .string s, .int .i64 (k : Int), .slice A m ca] W (ResvP re tz RM g G W)) := Lib.hid (fun A ca W hW hr => by have := creserve g G s (k : Int) A m ca T W hW (HGN.out 4 (by decide)) (HGN.out 8 (by decide)) hbx.out.caps HTT.out.2.1 HTT.out.2.2 HTT.out.1 hr.rd; rw [hre, hRM, htz] at this; exact this)
     have HYS := Lib.hid hys
     clear hx hG hY hlen hoff hyf hys hu hcz hwz hT hm hre hRM htz hpk
     obtain ⟨w3, hw3⟩ : ∃ W, W = wr.alloc (.cells #[.string xi, .int .i64 xa, .int .i64 xg, .int .i64 xb, .int .i64 xp, .int .i64 xo] 39) := ⟨_, rfl⟩
     have hb3 : Below wr.heap.size wr w3 := by rw [hw3]; exact (Below.refl _ _).alloc (Nat.le_refl _) _
     have HB3 := Lib.hid (hbx.out.below hb3)
     have HZ3 := Lib.hid ((hb3.block _ (lt_of_block hzb.out)).trans hzb.out)
     have HX3 := Lib.hid ((hb3.block _ (lt_of_block hxb.out)).trans hxb.out)
     have HL3 : Hid (w3.heap[wr.heap.size]? = some (.cells #[.string xi, .int .i64 xa, .int .i64 xg, .int .i64 xb, .int .i64 xp, .int .i64 xo] 39 (0, 0))) := Lib.hid (by rw [hw3]; exact heap_alloc_new _ _)
     have HSR : Hid (w1.heap.size + 1 ≤ wr.heap.size) := Lib.hid (lt_of_block hxb.out)
     have HW3 := Lib.hid hw3
     have h1 : (0 : Int) ≤ (k : Int) := by omega
     have h2 : (k : Int) < 8 := by omega
     clear hb3 hw3
     go_upto_region 7 with fail
     rw [← HW3.out]
     clear hidx
     go_wp2_with (first
      | (refine wpList_load_row rfl 39 (.tmp 9) rfl wr.heap.size rfl _ _ _ _ HL3.out huLI rfl HSLI.out ?_)
      | fail)
     refine (CU.out _).mono ?_
     rintro e w4 ⟨rfl, hb4⟩
     have HB4 := Lib.hid (HB3.out.below hb4)
     have HZ4 := Lib.hid ((hb4.block _ (lt_of_block HZ3.out)).trans HZ3.out)
     have HX4 := Lib.hid ((hb4.block _ (lt_of_block HX3.out)).trans HX3.out)
     have HL4 := Lib.hid ((hb4.block _ (lt_of_block HL3.out)).trans HL3.out)
     clear hb4
     cases u with
     | true =>
      obtain ⟨n1, n2, n3⟩ := HN1.out rfl
      have N1 := Lib.hid n1
      have N2 := Lib.hid n2
      have N3 := Lib.hid n3
      clear n1 n2 n3
      go_wp2_with fail
      go_roundw
      case rel => exact ⟨k + 1, g, by omega, by go_num, N3, by rw [N1.out]; exact HB4, hgz, HZ4, by rw [N2.out]; exact HX4, by rw [N1.out]; exact hof⟩
      case measure => simp [intOf]; omega
     | false =>
      obtain ⟨n1, n2, n3⟩ := HN2.out rfl
      have N1 := Lib.hid n1
      have N2 := Lib.hid n2
      rw [n3] at HHIT
      have N3 := Lib.hid n3
      clear n1 n2 n3 HN1 HN2
      have RH : Hid (∀ X : BW w4, X.W.heap[w.heap.size]? = some (.cells g.cells 37 (0, 0))) := Lib.hid (fun X => (X.h.block _ (lt_of_block HB4.out.box)).trans HB4.out.box)
      have q1 : ∀ X : BW w4, X.W.cell? ⟨wr.heap.size, 1, none⟩ = some (.int .i64 xa) := fun X => by rw [cell_of_block ((X.h.block _ (lt_of_block HL4.out)).trans HL4.out)]; rfl
      have q2 : ∀ X : BW w4, X.W.cell? ⟨wr.heap.size, 2, none⟩ = some (.int .i64 xg) := fun X => by rw [cell_of_block ((X.h.block _ (lt_of_block HL4.out)).trans HL4.out)]; rfl
      have CCX : Hid (∀ X : BW w4, Calls Tryz.prog 16 #[.agg g.cells, .string s, .int .i64 (k : Int)] X.W fun e w' => e = .returned (.int .i64 cz) ∧ Below X.W.heap.size X.W w') := Lib.hid (fun X => CCZ.out _ (HB4.out.ht.below X.h))
      go_wp2_with fail
      refine wp_grow w4 (by kernel_rfl) (by kernel_rfl) (Below.refl _ _) ?_
      simp only []
      iterate 5 go_big_quiet_step (fail)
      refine BigFrame.wpQuiet_want (by kernel_rfl) (fun K hK => quiet_load_mid 37 (.tmp 2) rfl w.heap.size 0 rfl g.cells.toList _ (fun W ⟨X, hX⟩ => by rw [hX]; exact range_row0 (RH.out X)) huh rfl (HSHL.out _) (hK _ ?_))
      simp only [ax]
      iterate 2 go_big_quiet_step (fail)
      go_big_quiet_step (exact grow_call _ (CCX.out _))
      iterate 2 go_big_quiet_step (fail)
      refine wpQuiet_nil ?_
      intro X
      obtain ⟨w5, hb5⟩ := X
      simp only []
      have HB5 := Lib.hid (HB4.out.below hb5)
      have QH5 : Hid (w5.heap[w.heap.size]? = some (.cells g.cells 37 (0, 0))) := Lib.hid HB5.out.box
      have HZ5 := Lib.hid ((hb5.block _ (lt_of_block HZ4.out)).trans HZ4.out)
      have QX5 := Lib.hid ((hb5.block _ (lt_of_block HX4.out)).trans HX4.out)
      have QL5 := Lib.hid ((hb5.block _ (lt_of_block HL4.out)).trans HL4.out)
      have B5 : Hid (Below w.heap.size w w5) := Lib.hid HB5.out.bel
      clear hb5 q1 q2 RH CCX
      have hwz := HWZ.out
      rw [hwz]
      clear hwz
      have HSI5 : Hid (∀ W, Below w5.heap.size w5 W → W.cell? ⟨w1.heap.size, 1, none⟩ = some (.string si)) := Lib.hid (fun W hW => by have := (corder_box ((hW.block _ (lt_of_block QX5.out)).trans QX5.out) HYF.out).2.1; rw [HYS.out] at this; exact this)
      go_wp2_with fail
      have HST : Hid (∀ X, Below w5.heap.size w5 X → X.rangeAt w.heap.size 0 g.cells.toList ∧ X.cell? ⟨w1.heap.size, 1, none⟩ = some (.string si) ∧ X.cell? ⟨wr.heap.size, 0, none⟩ = some (.string xi)) := Lib.hid (fun X hX => ⟨range_row0 ((hX.block _ (lt_of_block QH5.out)).trans QH5.out), (HSI5.out _ hX), (by rw [cell_of_block ((hX.block _ (lt_of_block QL5.out)).trans QL5.out)]; rfl)⟩)
      apply region_to4 (R := fun gb (p : Hs) (A : Option Addr) (ca : Nat) W => Hid (Below w5.heap.size w5 W ∧ w5.heap.size ≤ gb ∧ W.heap[gb]? = some (.cells p.cells 37 (0, 0)) ∧ (HT p (setX re RM) W ∧ p.z = zE re g.z ∧ Caps p ∧ ∀ o, o < w5.heap.size → Off o g G → Off o p (setX re RM))))
      · refine wp_region_held_drew (S := (fun w' => w'.rangeAt w.heap.size 0 g.cells.toList ∧ w'.cell? ⟨w1.heap.size, 1, none⟩ = some (.string si) ∧ w'.cell? ⟨wr.heap.size, 0, none⟩ = some (.string xi))) (by kernel_rfl) (HST.out _ (Below.refl w5.heap.size w5).drew) (fun dd0 => ?_)
        refine tkY 0 (.agg g.cells) rfl (yieldsIf_load_mid (by kernel_rfl) 37 (.tmp 2) rfl w.heap.size 0 rfl g.cells.toList _ (fun w h => h.1) huh rfl (HSHL.out _)) ?_
        (try simp only [ax])
        refine tkN 1 (.string s) rfl ?_
        (try simp only [ax])
        refine tkN 2 (.int .i64 (k : Int)) rfl ?_
        (try simp only [ax])
        refine tkY 3 (.agg g.cells) rfl (yieldsIf_load_mid (by kernel_rfl) 37 (.tmp 2) rfl w.heap.size 0 rfl g.cells.toList _ (fun w h => h.1) huh rfl (HSHL.out _)) ?_
        (try simp only [ax])
        refine tkN 4 (.pointer (some ⟨w1.heap.size, 1, none⟩)) rfl ?_
        (try simp only [ax])
        refine tkY 5 (.string si) rfl (.inl ⟨by kernel_rfl, fun w h => by have hw := h.2.1; clear h; go_simp⟩) ?_
        (try simp only [ax])
        refine tkN 6 (.pointer (some ⟨wr.heap.size, 0, none⟩)) rfl ?_
        (try simp only [ax])
        refine tkY 7 (.string xi) rfl (.inl ⟨by kernel_rfl, fun w h => by have hw := h.2.2; clear h; go_simp⟩) ?_
        (try simp only [ax])
        refine tkN 8 (.int .i64 wz) rfl ?_
        (try simp only [ax])
        refine wpAnyH_ready (rs := [9, 15]) (by kernel_rfl) (by simp) ?_
        refine AllReadyH.cons rfl (fun K' hK => ?_) (AllReadyH.cons rfl (fun K' hK => ?_) AllReadyH.nil)
        ·
         go_simp
         refine (CNV.out _ (HB5.out.ht.below (Below.refl w5.heap.size w5).drew)).mono ?_
         rintro e y1 ⟨hb1, A, ca, rfl, hrd⟩
         have BY1 := Lib.hid ((Below.refl w5.heap.size w5).drew.trans (hb1.mono (Below.refl w5.heap.size w5).drew.size))
         have HRD : Hid (RdW A T y1) := Lib.hid ⟨hrd⟩
         clear hrd
         refine hK.out _ _ (HST.out _ BY1.out) (fun _ => ?_)
         clear hK K'
         (try simp only [ax])
         refine wpAnyH_ready (rs := [10, 15]) (by kernel_rfl) (by simp) ?_
         refine AllReadyH.cons rfl (fun K' hK => ?_) (AllReadyH.cons rfl (fun K' hK => ?_) AllReadyH.nil)
         ·
          go_simp
          refine (CRV.out A ca _ (HB5.out.ht.below BY1.out) HRD.out).mono ?_
          rintro e y2 ⟨hb2, p, rfl, htp, hzp, hcp, hofp⟩
          have BY2 := Lib.hid (BY1.out.trans (hb2.mono BY1.out.size))
          have HCP := Lib.hid hcp
          have HOQ : Hid (∀ o, o < w5.heap.size → Off o g G → Off o p (setX re RM)) := Lib.hid (fun o h1 h2 => hofp o h2 (Nat.lt_of_lt_of_le h1 (BY1.out).size))
          clear hcp
          have HRD := Lib.hid (HRD.out.below hb2)
          have HTP := Lib.hid htp
          have HZP := Lib.hid hzp
          clear htp hzp hofp
          refine hK.out _ _ (HST.out _ BY2.out) (fun _ => ?_)
          clear hK K'
          (try simp only [ax])
          refine tkN 11 (.tuple #[.agg p.cells, .int .i64 (zE re tz), .int .i64 (re : Nat)]) rfl ?_
          (try simp only [ax])
          refine tkN 12 (.agg p.cells) rfl ?_
          (try simp only [ax])
          refine tkN 13 (.int .i64 (zE re tz)) rfl ?_
          (try simp only [ax])
          refine tkN 14 (.int .i64 (re : Nat)) rfl ?_
          (try simp only [ax])
          refine wpAnyH_ready (rs := [15]) (by kernel_rfl) (by simp) ?_
          refine AllReadyH.cons rfl (fun K' hK => ?_) AllReadyH.nil
          go_simp
          obtain ⟨y3, hy3⟩ : ∃ W, W = (y2.alloc (.cells #[.slice none 0 0, .slice none 0 0, .slice none 0 0, .slice none 0 0, .slice none 0 0, .slice none 0 0, .slice none 0 0, .slice none 0 0, .slice none 0 0, .slice none 0 0, .slice none 0 0, .slice none 0 0, .slice none 0 0, .slice none 0 0, .int .i64 0] 37)) := ⟨_, rfl⟩
          obtain ⟨gb, hg⟩ : ∃ gb, gb = y2.heap.size := ⟨_, rfl⟩
          have HGW : Hid (w5.heap.size ≤ gb) := Lib.hid (by rw [hg]; exact BY2.out.size)
          have hb3 : Below y2.heap.size y2 y3 := by rw [hy3]; exact ((Below.refl _ _).alloc (Nat.le_refl _) _)
          have BY3 := Lib.hid (BY2.out.trans (hb3.mono BY2.out.size))
          have HGX : Hid (y3.heap[gb]? = some (.cells #[.slice none 0 0, .slice none 0 0, .slice none 0 0, .slice none 0 0, .slice none 0 0, .slice none 0 0, .slice none 0 0, .slice none 0 0, .slice none 0 0, .slice none 0 0, .slice none 0 0, .slice none 0 0, .slice none 0 0, .slice none 0 0, .int .i64 0] 37 (0, 0))) := Lib.hid (by rw [hy3, hg]; exact heap_alloc_new y2 _)
          have HGE : Hid (gb < y3.heap.size) := Lib.hid (lt_of_block HGX.out)
          rw [← hy3, ← hg]
          have HOFP := Lib.hid (HTP.out.offge (Nat.le_of_eq hg.symm))
          have HTP := Lib.hid (HTP.out.below hb3)
          have HRDO := Lib.hid (HRD.out.offge (Nat.le_of_eq hg.symm))
          have HRD := Lib.hid (HRD.out.below hb3)
          refine hK.out _ _ (HST.out _ BY3.out) (fun _ => ?_)
          clear hK K' hy3 hb3 hg
          (try simp only [ax])
          refine wpAnyH_ready (rs := [16]) (by kernel_rfl) (by simp) ?_
          refine AllReadyH.cons rfl (fun K' hK => ?_) AllReadyH.nil
          rw [if_pos (by kernel_rfl)]
          refine wp_store_row 37 (.tmp 11) (.tmp 54) rfl gb p.cells rfl rfl _ _ HGX.out (HSH.out _) rfl (H1C.out _) ?_
          obtain ⟨y4, hy4⟩ : ∃ W, W = y3.setRow gb p.cells := ⟨_, rfl⟩
          have BY4 : Hid (Below w5.heap.size w5 y4) := Lib.hid (by rw [hy4]; exact setRow_below BY3.out HGW.out _)
          have HGY : Hid (y4.heap[gb]? = some (.cells p.cells 37 (0, 0))) := Lib.hid (by rw [hy4]; exact setRow_heap _ _ _ _ _ _ HGX.out)
          have HTQ := Lib.hid (HTP.out.setRowOff HOFP.out p.cells)
          rw [← hy4] at HTQ
          have HTP := HTQ
          rw [← hy4]
          have HGX := HGY
          refine hK.out _ _ (HST.out _ BY4.out) (fun _ => ?_)
          clear hK K' hy4
          (try simp only [Act.put, List.getElem_toArray, List.getElem_cons_succ, List.getElem_cons_zero])
          refine tkN 17 (.int .i64 (zE re tz)) rfl ?_
          (try simp only [ax])
          refine tkN 18 (.int .i64 (re : Nat)) rfl ?_
          (try simp only [ax])
          refine wpAnyH_done (by kernel_rfl) ?_ _
          exact ⟨rfl, gb, p, A, ca, rfl, Lib.hid ⟨BY4.out, HGW.out, HGX.out, ⟨HTP.out, HZP.out, HCP.out, HOQ.out⟩⟩⟩
         ·
          go_simp
          obtain ⟨y5, hy5⟩ : ∃ W, W = (y1.alloc (.cells #[.slice none 0 0, .slice none 0 0, .slice none 0 0, .slice none 0 0, .slice none 0 0, .slice none 0 0, .slice none 0 0, .slice none 0 0, .slice none 0 0, .slice none 0 0, .slice none 0 0, .slice none 0 0, .slice none 0 0, .slice none 0 0, .int .i64 0] 37)) := ⟨_, rfl⟩
          obtain ⟨gb, hg⟩ : ∃ gb, gb = y1.heap.size := ⟨_, rfl⟩
          have HGW : Hid (w5.heap.size ≤ gb) := Lib.hid (by rw [hg]; exact BY1.out.size)
          have hb5 : Below y1.heap.size y1 y5 := by rw [hy5]; exact ((Below.refl _ _).alloc (Nat.le_refl _) _)
          have BY5 := Lib.hid (BY1.out.trans (hb5.mono BY1.out.size))
          have HGX : Hid (y5.heap[gb]? = some (.cells #[.slice none 0 0, .slice none 0 0, .slice none 0 0, .slice none 0 0, .slice none 0 0, .slice none 0 0, .slice none 0 0, .slice none 0 0, .slice none 0 0, .slice none 0 0, .slice none 0 0, .slice none 0 0, .slice none 0 0, .slice none 0 0, .int .i64 0] 37 (0, 0))) := Lib.hid (by rw [hy5, hg]; exact heap_alloc_new y1 _)
          have HGE : Hid (gb < y5.heap.size) := Lib.hid (lt_of_block HGX.out)
          rw [← hy5, ← hg]
          have HRDO := Lib.hid (HRD.out.offge (Nat.le_of_eq hg.symm))
          have HRD := Lib.hid (HRD.out.below hb5)
          refine hK.out _ _ (HST.out _ BY5.out) (fun _ => ?_)
          clear hK K' hy5 hb5 hg
          (try simp only [ax])
          refine wpAnyH_ready (rs := [10]) (by kernel_rfl) (by simp) ?_
          refine AllReadyH.cons rfl (fun K' hK => ?_) AllReadyH.nil
          go_simp
          refine (CRV.out A ca _ (HB5.out.ht.below BY5.out) HRD.out).mono ?_
          rintro e y6 ⟨hb6, p, rfl, htp, hzp, hcp, hofp⟩
          have BY6 := Lib.hid (BY5.out.trans (hb6.mono BY5.out.size))
          have HCP := Lib.hid hcp
          have HOQ : Hid (∀ o, o < w5.heap.size → Off o g G → Off o p (setX re RM)) := Lib.hid (fun o h1 h2 => hofp o h2 (Nat.lt_of_lt_of_le h1 (BY5.out).size))
          clear hcp
          have HGZ := HGX
          have HGX := Lib.hid ((hb6.block _ (lt_of_block HGX.out)).trans HGX.out)
          have HRD := Lib.hid (HRD.out.below hb6)
          have HTP := Lib.hid htp
          have HZP := Lib.hid hzp
          have HOFP := Lib.hid (hofp gb ((HB5.out.ht.offge HGW.out)) (by have := lt_of_block HGZ.out; exact this))
          clear htp hzp hofp
          refine hK.out _ _ (HST.out _ BY6.out) (fun _ => ?_)
          clear hK K'
          (try simp only [ax])
          refine tkN 11 (.tuple #[.agg p.cells, .int .i64 (zE re tz), .int .i64 (re : Nat)]) rfl ?_
          (try simp only [ax])
          refine tkN 12 (.agg p.cells) rfl ?_
          (try simp only [ax])
          refine tkN 13 (.int .i64 (zE re tz)) rfl ?_
          (try simp only [ax])
          refine tkN 14 (.int .i64 (re : Nat)) rfl ?_
          (try simp only [ax])
          refine wpAnyH_ready (rs := [16]) (by kernel_rfl) (by simp) ?_
          refine AllReadyH.cons rfl (fun K' hK => ?_) AllReadyH.nil
          rw [if_pos (by kernel_rfl)]
          refine wp_store_row 37 (.tmp 11) (.tmp 54) rfl gb p.cells rfl rfl _ _ HGX.out (HSH.out _) rfl (H1C.out _) ?_
          obtain ⟨y7, hy7⟩ : ∃ W, W = y6.setRow gb p.cells := ⟨_, rfl⟩
          have BY7 : Hid (Below w5.heap.size w5 y7) := Lib.hid (by rw [hy7]; exact setRow_below BY6.out HGW.out _)
          have HGY : Hid (y7.heap[gb]? = some (.cells p.cells 37 (0, 0))) := Lib.hid (by rw [hy7]; exact setRow_heap _ _ _ _ _ _ HGX.out)
          have HTQ := Lib.hid (HTP.out.setRowOff HOFP.out p.cells)
          rw [← hy7] at HTQ
          have HTP := HTQ
          rw [← hy7]
          have HGX := HGY
          refine hK.out _ _ (HST.out _ BY7.out) (fun _ => ?_)
          clear hK K' hy7
          (try simp only [Act.put, List.getElem_toArray, List.getElem_cons_succ, List.getElem_cons_zero])
          refine tkN 17 (.int .i64 (zE re tz)) rfl ?_
          (try simp only [ax])
          refine tkN 18 (.int .i64 (re : Nat)) rfl ?_
          (try simp only [ax])
          refine wpAnyH_done (by kernel_rfl) ?_ _
          exact ⟨rfl, gb, p, A, ca, rfl, Lib.hid ⟨BY7.out, HGW.out, HGX.out, ⟨HTP.out, HZP.out, HCP.out, HOQ.out⟩⟩⟩
        ·
         go_simp
         obtain ⟨y8, hy8⟩ : ∃ W, W = (w5.alloc (.cells #[.slice none 0 0, .slice none 0 0, .slice none 0 0, .slice none 0 0, .slice none 0 0, .slice none 0 0, .slice none 0 0, .slice none 0 0, .slice none 0 0, .slice none 0 0, .slice none 0 0, .slice none 0 0, .slice none 0 0, .slice none 0 0, .int .i64 0] 37)).drew := ⟨_, rfl⟩
         obtain ⟨gb, hg⟩ : ∃ gb, gb = w5.heap.size := ⟨_, rfl⟩
         have HGW : Hid (w5.heap.size ≤ gb) := Lib.hid (by rw [hg]; exact Nat.le_refl _)
         have hb8 : Below w5.heap.size w5 y8 := by rw [hy8]; exact ((Below.refl _ _).alloc (Nat.le_refl _) _).drew
         have BY8 := Lib.hid (hb8)
         have HGX : Hid (y8.heap[gb]? = some (.cells #[.slice none 0 0, .slice none 0 0, .slice none 0 0, .slice none 0 0, .slice none 0 0, .slice none 0 0, .slice none 0 0, .slice none 0 0, .slice none 0 0, .slice none 0 0, .slice none 0 0, .slice none 0 0, .slice none 0 0, .slice none 0 0, .int .i64 0] 37 (0, 0))) := Lib.hid (by rw [hy8, hg]; exact heap_alloc_new w5 _)
         have HGE : Hid (gb < y8.heap.size) := Lib.hid (lt_of_block HGX.out)
         rw [← hy8, ← hg]
         refine hK.out _ _ (HST.out _ BY8.out) (fun _ => ?_)
         clear hK K' hy8 hb8 hg
         (try simp only [ax])
         refine wpAnyH_ready (rs := [9]) (by kernel_rfl) (by simp) ?_
         refine AllReadyH.cons rfl (fun K' hK => ?_) AllReadyH.nil
         go_simp
         refine (CNV.out _ (HB5.out.ht.below BY8.out)).mono ?_
         rintro e y9 ⟨hb9, A, ca, rfl, hrd⟩
         have BY9 := Lib.hid (BY8.out.trans (hb9.mono BY8.out.size))
         have HRD : Hid (RdW A T y9) := Lib.hid ⟨hrd⟩
         clear hrd
         have HGZ := HGX
         have HGX := Lib.hid ((hb9.block _ (lt_of_block HGX.out)).trans HGX.out)
         have HRDO := Lib.hid (trivial)
         refine hK.out _ _ (HST.out _ BY9.out) (fun _ => ?_)
         clear hK K'
         (try simp only [ax])
         refine wpAnyH_ready (rs := [10]) (by kernel_rfl) (by simp) ?_
         refine AllReadyH.cons rfl (fun K' hK => ?_) AllReadyH.nil
         go_simp
         refine (CRV.out A ca _ (HB5.out.ht.below BY9.out) HRD.out).mono ?_
         rintro e y10 ⟨hb10, p, rfl, htp, hzp, hcp, hofp⟩
         have BY10 := Lib.hid (BY9.out.trans (hb10.mono BY9.out.size))
         have HCP := Lib.hid hcp
         have HOQ : Hid (∀ o, o < w5.heap.size → Off o g G → Off o p (setX re RM)) := Lib.hid (fun o h1 h2 => hofp o h2 (Nat.lt_of_lt_of_le h1 (BY9.out).size))
         clear hcp
         have HGZ := HGX
         have HGX := Lib.hid ((hb10.block _ (lt_of_block HGX.out)).trans HGX.out)
         have HRD := Lib.hid (HRD.out.below hb10)
         have HTP := Lib.hid htp
         have HZP := Lib.hid hzp
         have HOFP := Lib.hid (hofp gb ((HB5.out.ht.offge HGW.out)) (by have := lt_of_block HGZ.out; exact this))
         clear htp hzp hofp
         refine hK.out _ _ (HST.out _ BY10.out) (fun _ => ?_)
         clear hK K'
         (try simp only [ax])
         refine tkN 11 (.tuple #[.agg p.cells, .int .i64 (zE re tz), .int .i64 (re : Nat)]) rfl ?_
         (try simp only [ax])
         refine tkN 12 (.agg p.cells) rfl ?_
         (try simp only [ax])
         refine tkN 13 (.int .i64 (zE re tz)) rfl ?_
         (try simp only [ax])
         refine tkN 14 (.int .i64 (re : Nat)) rfl ?_
         (try simp only [ax])
         refine wpAnyH_ready (rs := [16]) (by kernel_rfl) (by simp) ?_
         refine AllReadyH.cons rfl (fun K' hK => ?_) AllReadyH.nil
         rw [if_pos (by kernel_rfl)]
         refine wp_store_row 37 (.tmp 11) (.tmp 54) rfl gb p.cells rfl rfl _ _ HGX.out (HSH.out _) rfl (H1C.out _) ?_
         obtain ⟨y11, hy11⟩ : ∃ W, W = y10.setRow gb p.cells := ⟨_, rfl⟩
         have BY11 : Hid (Below w5.heap.size w5 y11) := Lib.hid (by rw [hy11]; exact setRow_below BY10.out HGW.out _)
         have HGY : Hid (y11.heap[gb]? = some (.cells p.cells 37 (0, 0))) := Lib.hid (by rw [hy11]; exact setRow_heap _ _ _ _ _ _ HGX.out)
         have HTQ := Lib.hid (HTP.out.setRowOff HOFP.out p.cells)
         rw [← hy11] at HTQ
         have HTP := HTQ
         rw [← hy11]
         have HGX := HGY
         refine hK.out _ _ (HST.out _ BY11.out) (fun _ => ?_)
         clear hK K' hy11
         (try simp only [Act.put, List.getElem_toArray, List.getElem_cons_succ, List.getElem_cons_zero])
         refine tkN 17 (.int .i64 (zE re tz)) rfl ?_
         (try simp only [ax])
         refine tkN 18 (.int .i64 (re : Nat)) rfl ?_
         (try simp only [ax])
         refine wpAnyH_done (by kernel_rfl) ?_ _
         exact ⟨rfl, gb, p, A, ca, rfl, Lib.hid ⟨BY11.out, HGW.out, HGX.out, ⟨HTP.out, HZP.out, HCP.out, HOQ.out⟩⟩⟩
      · intro g6 p6 A6 c6 w6 hR
        have QH6 := Lib.hid ((hR.out.1.block _ (lt_of_block QH5.out)).trans QH5.out)
        have QX6 := Lib.hid ((hR.out.1.block _ (lt_of_block QX5.out)).trans QX5.out)
        have QL6 := Lib.hid ((hR.out.1.block _ (lt_of_block QL5.out)).trans QL5.out)
        have B6 := Lib.hid (B5.out.trans (hR.out.1.mono B5.out.size))
        have QG6 := Lib.hid hR.out.2.2.1
        obtain ⟨hb6, hg6, _, htp, hzp, hcp, hoq⟩ := hR.out
        have HB6 := Lib.hid (HB5.out.below hb6)
        have HZ6 := Lib.hid ((hb6.block _ (lt_of_block HZ5.out)).trans HZ5.out)
        have HTP := Lib.hid htp
        have HZP := Lib.hid hzp
        have HCP := Lib.hid hcp
        have HOQ := Lib.hid hoq
        have HS5 : Hid (w1.heap.size + 1 ≤ w5.heap.size) := Lib.hid (lt_of_block QX5.out)
        clear hR hb6 hg6 htp hzp hcp hoq
        by_cases hk0 : re = 0
        · subst hk0
          rw [setX_ok rfl] at HTP HOQ
          have HOW : Hid (Off w.heap.size p6 RM) := Lib.hid (HOQ.out _ (by have := HS5.out; have := HSW.out; omega) HB5.out.off)
          obtain ⟨w7, hw7⟩ : ∃ W, W = w6.setRow w.heap.size p6.cells := ⟨_, rfl⟩
          have HB7 : Hid (HBox w p6 RM w7) := Lib.hid (by rw [hw7]; exact HB6.out.store HTP.out HCP.out HOW.out)
          have HX7 : Hid (w7.heap[w1.heap.size]? = some (.cells Y.toArray 42 (0, 0))) := Lib.hid (by rw [hw7]; exact (setRow_other _ _ _ _ (by have := HSW.out; omega)).trans QX6.out)
          have HZ7 : Hid (w7.heap[w.heap.size + 1]? = some (.cells Hs.zero 37 (0, 0))) := Lib.hid (by rw [hw7]; exact (setRow_other _ _ _ _ (by omega)).trans HZ6.out)
          have HW7 := Lib.hid hw7
          clear hw7
          go_upto_region 13 with (first
           | (refine wpList_load_row rfl 37 (.tmp 11) rfl g6 rfl _ _ _ _ QG6.out huh rfl (HSH.out _) ?_)
           | (refine wpList_store_row rfl 37 (.tmp 2) (.tmp 61) rfl w.heap.size p6.cells rfl rfl _ _ HB6.out.box (HSH.out _) rfl (H1C.out _) ?_; rw [← HW7.out])
           | fail)
          have hr7 := line_at (order_parts HYF.out).2.2.1 (corder_box HX7.out HYF.out).2.2.1 hlt
          obtain ⟨⟨yi, ya, yg, yb, yp, yo⟩, hy⟩ : ∃ z, lnAt (oLines Y) k = z := ⟨_, rfl⟩
          rw [hy] at hr7
          have g2 : w7.cell? ⟨w1.heap.size, 2 + k * 6 + 3, none⟩ = some (.int .i64 yb) := hr7 3 (.int .i64 yb) rfl
          have glt : w1.heap.size < w7.heap.size := lt_of_block HX7.out
          have gfz : w7.frozen? ⟨w1.heap.size, 2 + k * 6 + 3, none⟩ = false := frozen_of_block HX7.out
          clear hr7 hy
          have hz0 : zE 0 tz = tz := if_pos rfl
          rw [hz0]
          clear hz0
          obtain ⟨mx, hmx⟩ : ∃ z, max wz 0 = z := ⟨_, rfl⟩
          have HMX := Lib.hid hmx
          obtain ⟨w8, hw8⟩ : ∃ W, W = w7.setCell ⟨w1.heap.size, 2 + k * 6 + 3, none⟩ (.int .i64 (wrap64 (max wz 0 - tz))) := ⟨_, rfl⟩
          have HX8 : Hid (w8.heap[w1.heap.size]? = some (.cells (setBack Y k (wrap64 (max wz 0 - tz))).toArray 42 (0, 0))) := Lib.hid (by rw [hw8, block_setCell HX7.out]; unfold setBack; simp)
          have HZ8 : Hid (w8.heap[w.heap.size + 1]? = some (.cells Hs.zero 37 (0, 0))) := Lib.hid (by rw [hw8]; exact (block_setCell_other (by have := HSW.out; omega) _).trans HZ7.out)
          have HOX : Hid (Off w1.heap.size p6 RM) := Lib.hid (HOQ.out _ (by have := HS5.out; omega) (hof.out _ (HOH.out _ (by have := HSW.out; omega)) (by omega)))
          have HB8 : Hid (HBox w p6 RM w8) := Lib.hid (by rw [hw8]; exact ⟨HB7.out.ht.setCellOff HOX.out _, HB7.out.caps, HB7.out.off, (block_setCell_other (by have := HSW.out; omega) _).trans HB7.out.box, HB7.out.bel.setCell (by have := HSW.out; show w.heap.size ≤ w1.heap.size; omega) _, by simpa [World.setCell] using HB7.out.sz⟩)
          have HW8 := Lib.hid hw8
          clear hw8 hmx
          go_upto_region 14 with fail
          rw [← HW8.out]
          clear g2 glt gfz
          go_wp2_with fail
          go_roundw
          case rel => exact ⟨k + 1, p6, by omega, by go_num, N3, by rw [N1.out]; exact HB8, Lib.hid (by rw [HZP.out]; exact hgz.out), HZ8, by rw [N2.out]; exact HX8, Lib.hid (fun o h1 h2 => by rw [N1.out]; exact HOQ.out o (by have := HS5.out; omega) (hof.out o h1 h2))⟩
          case measure => simp [intOf]; omega
        · have bn : ((re : Int) != 0) = true := by simpa using hk0
          have HKL := Lib.hid hk0
          clear hk0
          have HE : Hid (er = re) := Lib.hid (HHIT.out HKL.out)
          go_wp2_with (first
           | (refine wpList_store_row rfl 37 (.tmp 4) (.tmp 59) rfl (w.heap.size + 1) Hs.zero rfl rfl _ _ HZ6.out HSQ.out rfl H1Q.out ?_)
           | fail)
          exact bodyPost_ret (results_row_tmp rfl _ _ (w.heap.size + 1) _ _ _ _ rfl (setRow_heap _ _ _ _ _ _ HZ6.out) huh rfl HSQ.out) rfl (by
           have hne : er ≠ 0 := by rw [HE.out]; exact HKL.out
           rw [HE.out] at hne ⊢
           exact HouseP.bad hne (setRow_below HB6.out.bel (show w.heap.size ≤ w.heap.size + 1 by omega) Hs.zero))
   · have hk8 : k = 8 := by omega
     subst hk8
     have HE : Hid (er = 0) := Lib.hid (by rw [HA2.out]; exact hE0.out)
     obtain ⟨G, hG⟩ : ∃ G, alcM L X s 8 = G := ⟨_, rfl⟩
     obtain ⟨Y, hY⟩ : ∃ Y, alcX L X s 8 = Y := ⟨_, rfl⟩
     have HYF : Hid (Fits kOrder Y) := Lib.hid (by rw [← hY]; exact alcX_fits HXF.out s 8 (by omega))
     have HG7 : Hid (G 7 = L 7) := Lib.hid (by rw [← hG]; exact alc_off L X s (by decide) (by decide) 8)
     obtain ⟨l7, hl7⟩ : ∃ z, putG ordOrder (L 7) Y = z := ⟨_, rfl⟩
     rw [hG] at hbx hof
     rw [hY] at hxb
     rw [hG, hY, hl7] at HM
     have HL7 : Hid (Things (kOf 7) l7 ∧ l7.length ≤ 1000000) := Lib.hid ⟨by rw [← hl7]; exact Things.put (HHT.out 7 (by decide)).2.2.1 HYF.out, by rw [← hl7, Pl.putG_len]; have h2 := HLEN.out 7 (by decide); split <;> omega⟩
     have CP : Hid (∀ W, HT g G W → Calls Tryz.prog 42 #[.agg g.cells, .agg Y.toArray] W fun e w' => Below W.heap.size W w' ∧ ∃ A n c, n = l7.length ∧ w'.ownsRow W.heap.size 42 50 (.slice A n c) n l7.flatten ∧ e = .returned (.agg (g.set 7 A n c).cells)) := Lib.hid (fun W hW => by have := cwithO g G Y W hW HYF.out (by rw [(hW 7 (by decide)).1, HG7.out]; have := HLEN.out 7 (by decide); omega) (hbx.out.caps 7 (by decide)); rw [HG7.out, hl7] at this; exact this)
     clear hG hY hl7
     have HSR : Hid (w1.heap.size + 1 ≤ wr.heap.size) := Lib.hid (lt_of_block hxb.out)
     go_wp2_with (first
      | (refine wpList_load_row rfl 37 (.tmp 2) rfl w.heap.size rfl _ _ _ _ hbx.out.box huh rfl (HSH.out _) ?_)
      | (refine wpList_load_row rfl 42 (.tmp 6) rfl w1.heap.size rfl _ _ _ _ hxb.out huO rfl (HSO.out _ HYF.out) ?_)
      | fail)
     refine (CP.out _ hbx.out.ht).mono ?_
     rintro e w9 ⟨hb9, A, n, cc, hl, hown, rfl⟩
     have HB9 := Lib.hid (hbx.out.below hb9)
     have HZ9 := Lib.hid ((hb9.block _ (lt_of_block hzb.out)).trans hzb.out)
     have HK9 : Hid (PutK 42 50 7 0 l7 g (g.set 7 A n cc) wr.heap.size w9) := Lib.hid (.inr ⟨rfl, A, n, cc, hl, hown, rfl⟩)
     have hz9 : (g.set 7 A n cc).z = g.z := rfl
     obtain ⟨q, hq⟩ : ∃ q, g.set 7 A n cc = q := ⟨_, rfl⟩
     rw [hq] at HK9 hz9 ⊢
     have HZQ := Lib.hid hz9
     clear hb9 hl hown hq hz9
     go_wp2_with (first
      | (refine wpList_store_row rfl 37 (.tmp 4) (.tmp 73) rfl (w.heap.size + 1) q.cells rfl rfl _ _ HZ9.out (HSH.out _) rfl (H1C.out _) ?_)
      | fail)
     exact bodyPost_ret (results_row_tmp rfl _ _ (w.heap.size + 1) _ _ _ _ rfl (setRow_heap _ _ _ _ _ _ HZ9.out) huh rfl (HSH.out _)) rfl (by
      rw [HE.out, HM.out]
      have hof9 : ∀ o, Off o h L → o < w1.heap.size + 1 → Off o q (setE 0 G 7 l7) := fun o h1 h2 => HK9.out.off (Nat.lt_of_lt_of_le h2 HSR.out) (hof.out o h1 h2)
      have ho1 := hof9 (w.heap.size + 1) (HOH.out _ (by omega)) (by have := HSW.out; omega)
      refine ⟨setRow_below HB9.out.bel (show w.heap.size ≤ w.heap.size + 1 by omega) _, q, rfl, ?_, by rw [HZQ.out]; exact hgz.out, fun _ => HK9.out.caps hbx.out.caps, fun o h1 h2 => ?_⟩
      · rw [setX_ok rfl]; exact (HK9.out.htl (by decide) HL7.out.1 HL7.out.2 HB9.out.ht).setRowOff ho1 _
      · rw [setX_ok rfl]; exact hof9 o h1 (by have := HSW.out; omega))
end Go.Proofs.YtlkmccmbpnbgbaaGreat
