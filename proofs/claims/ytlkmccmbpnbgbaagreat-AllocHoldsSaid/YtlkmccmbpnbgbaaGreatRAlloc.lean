/-
 CONTRACT of the reference's Allocate. (By wip/tools/gen_aref.py.)
-/
import Derived.Test.YtlkmccmbpnbgbaaGreatRHold
import Derived.Test.YtlkmccmbpnbgbaaGreatRClaim
import Derived.Test.YtlkmccmbpnbgbaaGreatKSum
import Derived.Test.YtlkmccmbpnbgbaaGreatAFacts
import Derived.Test.YtlkmccmbpnbgbaaGreatKOrder
import Derived.Test.YtlkmccmbpnbgbaaGreatOOrder
import Derived.Test.YtlkmccmbpnbgbaaGreatWRefB
import Derived.Test.YtlkmccmbpnbgbaaGreatWTk
import Derived.Test.YtlkmccmbpnbgbaaGreatKAlloc
import Derived.Test.YtlkmccmbpnbgbaaGreatHLastN
import Derived.Test.YtlkmccmbpnbgbaaGreatHAppK
import Derived.Test.YtlkmccmbpnbgbaaGreatJHead
import Derived.Lib.MinMax
import Derived.Deep.CutRange
import Derived.BigQuiet
namespace Go.Proofs.YtlkmccmbpnbgbaaGreat
set_option linter.unusedVariables false
open Go.RowKit
open Pl (firstG firstG_none firstG_some findG overG putG dropG It)

theorem region_two {P : Program} {c : Code} {Q : Exit → Act → World → Prop} {a : Act} {w : World} {α β : Type} {F : α → β → Act} (R : α → β → World → Prop) (h : c.wp P (fun e a' w' => e = .normal ∧ ∃ g x, a' = F g x ∧ R g x w') a w) (hq : ∀ g x w', R g x w' → Q .normal (F g x) w') : c.wp P Q a w :=
 Code.wp_mono (fun e a' w' => (by rintro ⟨rfl, g, x, rfl, hr⟩; exact hq g x w' hr)) h
theorem pickL_nil (L : HL) (s i : ByteArray) {q : Int} (h : q ≤ 0) : pickL L s i q = [] := by
 unfold pickL pickI
 rw [Pl.cutN_done _ _ h]
 rfl
theorem setBack_twice (X : List Value) (k : Nat) (a b : Int) : setBack (setBack X k a) k b = setBack X k b := by
 unfold setBack
 rw [List.set_set]
theorem alcX_at (L : HL) (X : List Value) (s : ByteArray) : ∀ (k i : Nat), 2 + k * 6 ≤ i → (alcX L X s k)[i]? = X[i]?
 | 0, i, _ => rfl
 | k + 1, i, h => by
  show (if emp (lnAt (oLines X) k).item = true then alcX L X s k else setBack (alcX L X s k) k _)[i]? = _
  split
  · exact alcX_at L X s k i (by omega)
  · unfold setBack
    rw [List.getElem?_set_ne (by omega)]
    exact alcX_at L X s k i (by omega)
theorem alcX_line (L : HL) (X : List Value) (s : ByteArray) (k : Nat) : lnAt (oLines (alcX L X s k)) k = lnAt (oLines X) k := by
 unfold lnAt oLines
 congr 1
 refine List.ext_getElem? (fun i => ?_)
 simp only [List.getElem?_take, List.getElem?_drop]
 rw [alcX_at L X s k (2 + (k * 6 + i)) (by omega)]
theorem range_eq {w w' : World} {b o : Nat} {l : List Value} (h : w'.heap[b]? = w.heap[b]?) (hr : w.rangeAt b o l) : w'.rangeAt b o l := fun j u hu => (World.cell?_of_block h).trans (hr j u hu)
theorem range_pre {w : World} {b o : Nat} {l m : List Value} (h : w.rangeAt b o (l ++ m)) : w.rangeAt b o l := fun j u hu => h j u (by rw [List.getElem?_append_left (List.getElem?_eq_some_iff.1 hu).1]; exact hu)
theorem hs_nostr (g : Hs) (x : ByteArray) (i : Nat) (h : g.cells[i]? = some (.string x)) : False := by
 unfold Hs.cells at h
 match i, h with
 | 0, h | 1, h | 2, h | 3, h | 4, h | 5, h | 6, h | 7, h | 8, h | 9, h | 10, h | 11, h | 12, h | 13, h | 14, h => simp at h
 | n + 15, h => simp at h
set_option maxRecDepth 100000 in
set_option maxHeartbeats 12800000 in
theorem ralloc (h : Hs) (L : HL) (s : ByteArray) (w : World) (hh : HT h L w) (hn : ∀ i, i < 14 → h.n i ≤ 1000) (hc : Caps h) :
 Calls Tryz.prog 20 #[.agg h.cells, .string s] w (HouseP (allE L s) (allM L s) h L w) := by
 have HHT := Lib.hid hh
 have HOH : Hid (∀ g, w.heap.size ≤ g → Off g h L) := Lib.hid (fun g hg => hh.offge hg)
 have HLEN : Hid (∀ i, i < 14 → (L i).length ≤ 1000) := Lib.hid (fun i hi => by rw [← (hh i hi).1]; exact hn i hi)
 obtain ⟨X, hX⟩ : ∃ X, gotOrder (L 7) s = X := ⟨_, rfl⟩
 have HXF : Hid (Fits kOrder X) := Lib.hid (hX ▸ order_things hh s)
 obtain ⟨il, hil⟩ : ∃ z, (atOrder (L 7) s).isSome = z := ⟨_, rfl⟩
 obtain ⟨er, her⟩ : ∃ z, allE L s = z := ⟨_, rfl⟩
 obtain ⟨M, hM⟩ : ∃ z, allM L s = z := ⟨_, rfl⟩
 have HA : Hid (er = if il = false then 12 else alcE L X s 8) := Lib.hid (by rw [← her]; unfold allE; rw [hil, hX])
 have HM : Hid (M = setE 0 (alcM L X s 8) 7 (putG ordOrder (L 7) (alcX L X s 8))) := Lib.hid (by rw [← hM]; unfold allM; rw [hX])
 have CF : Hid (∀ W, Below w.heap.size w W → Calls Tryz.prog 25 #[.agg h.cells, .string s] W fun e w' => e = .returned (.tuple #[.agg X.toArray, .bool il]) ∧ Below W.heap.size W w') := Lib.hid (fun W hW => by have := frOrder (hh.below hW) s; rw [hX, hil] at this; exact this)
 obtain ⟨ll, hll⟩ : ∃ z, oLines X = z := ⟨_, rfl⟩
 obtain ⟨si, hsi⟩ : ∃ z, nsite X = z := ⟨_, rfl⟩
 have HLV := Lib.hid hll
 have HSV := Lib.hid hsi
 have huLI := Tryz.underlying39
 have HSLI : Hid ((Tryz.prog.info? 39).map (·.size) = some 6) := Lib.hid (by kernel_rfl)
 have HSHL : Hid (∀ a : Hs, (Tryz.prog.info? 37).map (·.size) = some a.cells.toList.length) := Lib.hid (fun a => by kernel_rfl)
 have huKey := Tryz.underlying44
 have HSKey : Hid ((Tryz.prog.info? 44).map (·.size) = some 4) := Lib.hid (by kernel_rfl)
 have HSITE : Hid (∀ k, nsite (alcX L X s k) = si ∧ codeOf (alcX L X s k) = codeOf X) := Lib.hid (fun k => by rw [← hsi]; exact alcX_head L X s k)
 rw [her, hM]
 clear her hM hX hil hll hsi
 have HSO : Hid (∀ y, Fits kOrder y → (Tryz.prog.info? 42).map (·.size) = some y.toArray.size) := Lib.hid (fun y hy => by rw [show (Tryz.prog.info? 42).map (·.size) = some 50 from by kernel_rfl, List.size_toArray, hy.length]; rfl)
 have HSOL : Hid (∀ y, Fits kOrder y → (Tryz.prog.info? 42).map (·.size) = some y.length) := Lib.hid (fun y hy => by rw [show (Tryz.prog.info? 42).map (·.size) = some 50 from by kernel_rfl, hy.length]; rfl)
 have huO := Tryz.underlying42
 have HOO : Hid (∀ y, Fits kOrder y → (#[.string ⟨#[]⟩, .string ⟨#[]⟩, .string ⟨#[]⟩, .int .i64 0, .int .i64 0, .int .i64 0, .int .i64 0, .int .i64 0, .string ⟨#[]⟩, .int .i64 0, .int .i64 0, .int .i64 0, .int .i64 0, .int .i64 0, .string ⟨#[]⟩, .int .i64 0, .int .i64 0, .int .i64 0, .int .i64 0, .int .i64 0, .string ⟨#[]⟩, .int .i64 0, .int .i64 0, .int .i64 0, .int .i64 0, .int .i64 0, .string ⟨#[]⟩, .int .i64 0, .int .i64 0, .int .i64 0, .int .i64 0, .int .i64 0, .string ⟨#[]⟩, .int .i64 0, .int .i64 0, .int .i64 0, .int .i64 0, .int .i64 0, .string ⟨#[]⟩, .int .i64 0, .int .i64 0, .int .i64 0, .int .i64 0, .int .i64 0, .string ⟨#[]⟩, .int .i64 0, .int .i64 0, .int .i64 0, .int .i64 0, .int .i64 0] : Array Value).size = y.toArray.size) := Lib.hid (fun y hy => by rw [List.size_toArray, List.size_toArray, hy.length]; rfl)
 have HOC : Hid (∀ y, Fits kOrder y → y.toArray.all (·.oneCell') = true) := Lib.hid (fun y hy => all_oneCell_toArray (fits_one hy))
 obtain ⟨W0, hW0⟩ : ∃ W0, W0 = ((w.alloc (.cells h.cells 37)).alloc (.cells #[.slice none 0 0, .slice none 0 0, .slice none 0 0, .slice none 0 0, .slice none 0 0, .slice none 0 0, .slice none 0 0, .slice none 0 0, .slice none 0 0, .slice none 0 0, .slice none 0 0, .slice none 0 0, .slice none 0 0, .slice none 0 0, .int .i64 0] 37)) := ⟨_, rfl⟩
 have hb0 : Below w.heap.size w W0 := by rw [hW0]; exact ((Below.refl _ _).alloc (Nat.le_refl _) _).alloc (by simp <;> omega) _
 have hs0 : W0.heap.size = w.heap.size + 2 := by rw [hW0]; simp
 have HH : Hid (∀ W, Below W0.heap.size W0 W → W.heap[w.heap.size]? = some (.cells h.cells 37 (0, 0))) := Lib.hid (fun W hW => (hW.block _ (by omega)).trans (by
  rw [hW0]
  have hq := heap_alloc_new w (.cells h.cells 37)
  exact (Below.heap_alloc _ _ _ (by simp <;> omega)).trans ((by simpa using hq))))
 have HZ : Hid (∀ W, Below W0.heap.size W0 W → W.heap[w.heap.size + 1]? = some (.cells Hs.zero 37 (0, 0))) := Lib.hid (fun W hW => (hW.block _ (by omega)).trans (by
  rw [hW0]
  have hq := heap_alloc_new (w.alloc (.cells h.cells 37)) (.cells #[.slice none 0 0, .slice none 0 0, .slice none 0 0, .slice none 0 0, .slice none 0 0, .slice none 0 0, .slice none 0 0, .slice none 0 0, .slice none 0 0, .slice none 0 0, .slice none 0 0, .slice none 0 0, .slice none 0 0, .slice none 0 0, .int .i64 0] 37)
  exact (by simpa [Hs.zero] using hq)))
 have HBW : Hid (∀ W, Below W0.heap.size W0 W → Below w.heap.size w W ∧ w.heap.size + 2 ≤ W.heap.size) := Lib.hid (fun W hW => ⟨hb0.trans (hW.mono (by omega)), by have := hW.size; omega⟩)
 have huh := Tryz.underlying37
 have HSH : Hid (∀ a : Hs, (Tryz.prog.info? 37).map (·.size) = some a.cells.size) := Lib.hid (fun a => by kernel_rfl)
 have HSQ : Hid ((Tryz.prog.info? 37).map (·.size) = some Hs.zero.size) := Lib.hid (by kernel_rfl)
 have H1C : Hid (∀ a : Hs, a.cells.all (·.oneCell') = true) := Lib.hid (fun a => by simp [Hs.cells, Value.oneCell'])
 have H1Q : Hid (Hs.zero.all (·.oneCell') = true) := Lib.hid (by simp [Hs.zero, Value.oneCell'])
 have HB0 : Hid (HBox w h L W0) := Lib.hid ⟨hh.below hb0, hc, HOH.out _ (Nat.le_refl _), HH.out W0 (Below.refl _ _), hb0, by omega⟩
 have H0 := Lib.hid (Below.refl W0.heap.size W0)
 clear hb0 hs0 hh hn hc
 subst hW0
 go_enter Tryz.func20, Tryz.ntmps20
 go_wp2_with (first
  | (refine wpList_load_row rfl 37 (.tmp 2) rfl w.heap.size rfl _ _ _ _ (HH.out _ H0.out) huh rfl (HSH.out _) ?_)
  | fail)
 refine (CF.out _ (HBW.out _ H0.out).1).mono ?_
 rintro e w1 ⟨rfl, hb9⟩
 have HPH1 := Lib.hid (H0.out.trans (hb9.mono H0.out.size))
 clear hb9
 have HBXH1 : Hid ((w1.alloc (.cells #[.string ⟨#[]⟩, .string ⟨#[]⟩, .string ⟨#[]⟩, .int .i64 0, .int .i64 0, .int .i64 0, .int .i64 0, .int .i64 0, .string ⟨#[]⟩, .int .i64 0, .int .i64 0, .int .i64 0, .int .i64 0, .int .i64 0, .string ⟨#[]⟩, .int .i64 0, .int .i64 0, .int .i64 0, .int .i64 0, .int .i64 0, .string ⟨#[]⟩, .int .i64 0, .int .i64 0, .int .i64 0, .int .i64 0, .int .i64 0, .string ⟨#[]⟩, .int .i64 0, .int .i64 0, .int .i64 0, .int .i64 0, .int .i64 0, .string ⟨#[]⟩, .int .i64 0, .int .i64 0, .int .i64 0, .int .i64 0, .int .i64 0, .string ⟨#[]⟩, .int .i64 0, .int .i64 0, .int .i64 0, .int .i64 0, .int .i64 0, .string ⟨#[]⟩, .int .i64 0, .int .i64 0, .int .i64 0, .int .i64 0, .int .i64 0] 42)).heap[w1.heap.size]? = some (.cells #[.string ⟨#[]⟩, .string ⟨#[]⟩, .string ⟨#[]⟩, .int .i64 0, .int .i64 0, .int .i64 0, .int .i64 0, .int .i64 0, .string ⟨#[]⟩, .int .i64 0, .int .i64 0, .int .i64 0, .int .i64 0, .int .i64 0, .string ⟨#[]⟩, .int .i64 0, .int .i64 0, .int .i64 0, .int .i64 0, .int .i64 0, .string ⟨#[]⟩, .int .i64 0, .int .i64 0, .int .i64 0, .int .i64 0, .int .i64 0, .string ⟨#[]⟩, .int .i64 0, .int .i64 0, .int .i64 0, .int .i64 0, .int .i64 0, .string ⟨#[]⟩, .int .i64 0, .int .i64 0, .int .i64 0, .int .i64 0, .int .i64 0, .string ⟨#[]⟩, .int .i64 0, .int .i64 0, .int .i64 0, .int .i64 0, .int .i64 0, .string ⟨#[]⟩, .int .i64 0, .int .i64 0, .int .i64 0, .int .i64 0, .int .i64 0] 42 (0, 0))) := Lib.hid (heap_alloc_new _ _)
 obtain ⟨w1b, hw1b⟩ : ∃ W, W = (w1.alloc (.cells #[.string ⟨#[]⟩, .string ⟨#[]⟩, .string ⟨#[]⟩, .int .i64 0, .int .i64 0, .int .i64 0, .int .i64 0, .int .i64 0, .string ⟨#[]⟩, .int .i64 0, .int .i64 0, .int .i64 0, .int .i64 0, .int .i64 0, .string ⟨#[]⟩, .int .i64 0, .int .i64 0, .int .i64 0, .int .i64 0, .int .i64 0, .string ⟨#[]⟩, .int .i64 0, .int .i64 0, .int .i64 0, .int .i64 0, .int .i64 0, .string ⟨#[]⟩, .int .i64 0, .int .i64 0, .int .i64 0, .int .i64 0, .int .i64 0, .string ⟨#[]⟩, .int .i64 0, .int .i64 0, .int .i64 0, .int .i64 0, .int .i64 0, .string ⟨#[]⟩, .int .i64 0, .int .i64 0, .int .i64 0, .int .i64 0, .int .i64 0, .string ⟨#[]⟩, .int .i64 0, .int .i64 0, .int .i64 0, .int .i64 0, .int .i64 0] 42)).setRow w1.heap.size X.toArray := ⟨_, rfl⟩
 have H1 : Hid (Below ((w.alloc (.cells h.cells 37)).alloc (.cells #[.slice none 0 0, .slice none 0 0, .slice none 0 0, .slice none 0 0, .slice none 0 0, .slice none 0 0, .slice none 0 0, .slice none 0 0, .slice none 0 0, .slice none 0 0, .slice none 0 0, .slice none 0 0, .slice none 0 0, .slice none 0 0, .int .i64 0] 37)).heap.size ((w.alloc (.cells h.cells 37)).alloc (.cells #[.slice none 0 0, .slice none 0 0, .slice none 0 0, .slice none 0 0, .slice none 0 0, .slice none 0 0, .slice none 0 0, .slice none 0 0, .slice none 0 0, .slice none 0 0, .slice none 0 0, .slice none 0 0, .slice none 0 0, .slice none 0 0, .int .i64 0] 37)) w1b) := Lib.hid (by rw [hw1b]; exact setRow_below (HPH1.out.alloc HPH1.out.size _) HPH1.out.size _)
 have HRH1 : Hid (w1b.heap[w1.heap.size]? = some (.cells X.toArray 42 (0, 0))) := Lib.hid (by rw [hw1b]; exact setRow_heap _ _ _ _ _ _ HBXH1.out)
 have HWH1 := Lib.hid hw1b
 clear hw1b
 cases il with
 | false =>
  have HE : Hid (er = 12) := Lib.hid (by rw [HA.out]; rfl)
  go_wp2_with (first
   | (refine wpList_store_row rfl 42 (.tmp 6) (.tmp 19) rfl w1.heap.size X.toArray rfl rfl _ _ HBXH1.out (HSO.out _ HXF.out) (HOO.out _ HXF.out) (HOC.out _ HXF.out) ?_; rw [← HWH1.out])
   | (refine wpList_store_row rfl 37 (.tmp 4) (.tmp 23) rfl (w.heap.size + 1) Hs.zero rfl rfl _ _ (HZ.out _ H1.out) HSQ.out rfl H1Q.out ?_)
   | fail)
  exact bodyPost_ret (results_row_tmp rfl _ _ (w.heap.size + 1) _ _ _ _ rfl (setRow_heap _ _ _ _ _ _ (HZ.out _ H1.out)) huh rfl HSQ.out) rfl (by
   have hne : er ≠ 0 := by rw [HE.out]; decide
   rw [HE.out] at hne ⊢
   exact HouseP.bad hne (setRow_below (HBW.out _ H1.out).1 (show w.heap.size ≤ w.heap.size + 1 by omega) Hs.zero))
 | true =>
  have HA2 : Hid (er = alcE L X s 8) := Lib.hid (by rw [HA.out]; rfl)
  have HSW : Hid (w.heap.size + 2 ≤ w1.heap.size) := Lib.hid (HBW.out _ HPH1.out).2
  have HB1 : Hid (HBox w h L w1b) := Lib.hid (HB0.out.below H1.out)
  have HZ1 := Lib.hid (HZ.out _ H1.out)
  go_upto_region 4 with (first
   | (refine wpList_store_row rfl 42 (.tmp 6) (.tmp 19) rfl w1.heap.size X.toArray rfl rfl _ _ HBXH1.out (HSO.out _ HXF.out) (HOO.out _ HXF.out) (HOC.out _ HXF.out) ?_; rw [← HWH1.out])
   | fail)
  go_upto_region 5 with fail
  go_loopw [8] (fun iv wr => ∃ (k : Nat) (g : Hs), k ≤ 8 ∧ iv = .int .i64 (k : Int) ∧ Hid (alcE L X s k = 0) ∧ Hid (HBox w g (alcM L X s k) wr) ∧ Hid (g.z = h.z) ∧ Hid (wr.heap[w.heap.size + 1]? = some (.cells Hs.zero 37 (0, 0))) ∧ Hid (wr.heap[w1.heap.size]? = some (.cells (alcX L X s k).toArray 42 (0, 0))) ∧ Hid (∀ o, Off o h L → o < w1.heap.size + 1 → Off o g (alcM L X s k))) (fun iv _ => 8 - (intOf iv).toNat)
  case atStart => exact ⟨0, h, by omega, rfl, Lib.hid rfl, HB1, Lib.hid rfl, HZ1, HRH1, Lib.hid (fun o ho _ => ho)⟩
  case round =>
   obtain ⟨k, g, hk, rfl, hE0, hbx, hgz, hzb, hxb, hof⟩ := hrel
   by_cases hlt : k < 8
   · obtain ⟨⟨xi, xa, xg, xb, xp, xo⟩, hx⟩ : ∃ x, lnAt ll k = x := ⟨_, rfl⟩
     have hal := alcX_line L X s k
     rw [HLV.out, hx] at hal
     obtain ⟨G, hG⟩ : ∃ G, alcM L X s k = G := ⟨_, rfl⟩
     obtain ⟨Y, hY⟩ : ∃ Y, alcX L X s k = Y := ⟨_, rfl⟩
     have hlen := alc_len L X s k hE0.out
     have hoff : ∀ j, j ≠ 4 → j ≠ 8 → G j = L j := fun j h4 h8 => by rw [← hG]; exact alc_off L X s h4 h8 k
     have hyf : Fits kOrder Y := by rw [← hY]; exact alcX_fits HXF.out s k (by omega)
     have hys := (HSITE.out k).1
     rw [hY] at hys hxb hal
     rw [hG] at hlen hbx hof
     have HYF := Lib.hid hyf
     have HGN : Hid (∀ i, i < 14 → g.n i ≤ 1000) := Lib.hid (fun i hi => by
      rw [(hbx.out.ht i hi).1]
      by_cases h4 : i = 4
      · subst h4; exact Nat.le_trans hlen.1 (HLEN.out 4 (by decide))
      · by_cases h8 : i = 8
        · subst h8; exact Nat.le_trans hlen.2 (by have := HLEN.out 8 (by decide); omega)
        · rw [hoff i h4 h8]; exact HLEN.out i hi)
     obtain ⟨u, hu⟩ : ∃ u, emp xi = u := ⟨_, rfl⟩
     obtain ⟨cz, hcz⟩ : ∃ z, claimedZ (G 8) s (k : Int) = z := ⟨_, rfl⟩
     obtain ⟨wz, hwz⟩ : ∃ z, wrap64 (wrap64 (xa - xg) - cz) = z := ⟨_, rfl⟩
     obtain ⟨T, hT⟩ : ∃ z, pickL G si xi wz = z := ⟨_, rfl⟩
     obtain ⟨m, hm⟩ : ∃ z, T.length = z := ⟨_, rfl⟩
     obtain ⟨re, hre⟩ : ∃ z, rsvE s (k : Int) T G m = z := ⟨_, rfl⟩
     obtain ⟨RM, hRM⟩ : ∃ z, rsvM s (k : Int) T G m = z := ⟨_, rfl⟩
     have HWZ : Hid (wrap64 (wrap64 (xa - xg) - cz) = wz) := Lib.hid hwz
     have HWF : Hid (Wf wz) := Lib.hid (by rw [← hwz]; exact wrap_wf _)
     have hpk : picksA G X s k = T := by
      unfold picksA wantZ
      rw [HLV.out, HSV.out, hx]
      simp only []
      rw [hcz, hwz, hT]
     have HN1 : Hid (u = true → alcM L X s (k + 1) = G ∧ alcX L X s (k + 1) = Y ∧ alcE L X s (k + 1) = 0) := Lib.hid (fun h1 => by
      have he : emp (lnAt (oLines X) k).item = true := by rw [HLV.out, hx]; exact hu.trans h1
      refine ⟨?_, ?_, ?_⟩
      · show lineM (alcM L X s k) X s k = G; unfold lineM; rw [if_pos he, hG]
      · show (if emp (lnAt (oLines X) k).item = true then _ else _) = Y; rw [if_pos he, hY]
      · rw [show alcE L X s (k + 1) = _ from firstE_one hE0.out]; unfold lineEA; rw [if_pos he])
     have HN2 : Hid (u = false → alcM L X s (k + 1) = RM ∧ alcX L X s (k + 1) = setBack Y k (wrap64 (max wz 0 - sumT T m)) ∧ alcE L X s (k + 1) = re) := Lib.hid (fun h1 => by
      have he : ¬ emp (lnAt (oLines X) k).item = true := by rw [HLV.out, hx]; show ¬ emp xi = true; rw [hu, h1]; decide
      refine ⟨?_, ?_, ?_⟩
      · show lineM (alcM L X s k) X s k = RM; unfold lineM; rw [if_neg he, hG, hpk, hm, hRM]
      · show (if emp (lnAt (oLines X) k).item = true then _ else _) = _
        rw [if_neg he, hY, hG]
        unfold lineB wantZ
        rw [hpk, hm, HLV.out, hx]
        simp only []
        rw [hcz, hwz]
      · rw [show alcE L X s (k + 1) = _ from firstE_one hE0.out]; unfold lineEA; rw [if_neg he, hG, hpk, hm, hre])
     have HHIT : Hid (alcE L X s (k + 1) ≠ 0 → er = alcE L X s (k + 1)) := Lib.hid (fun h1 => by rw [HA2.out]; exact firstE_le _ (by omega) h1)
     have HT0 : Hid (wz ≤ 0 → re = 0 ∧ RM = G ∧ wrap64 (max wz 0 - sumT T m) = 0) := Lib.hid (fun h0 => by
      have ht : T = [] := by rw [← hT]; exact pickL_nil _ _ _ h0
      have hm0 : m = 0 := by rw [← hm, ht]; rfl
      refine ⟨by rw [← hre, hm0]; rfl, by rw [← hRM, hm0]; rfl, ?_⟩
      rw [show max wz 0 = 0 from by omega, hm0, show sumT T 0 = 0 from by simp [sumT], Int.sub_zero]
      exact IntWalk.wrap64_in 0 ⟨by omega, by omega⟩)
     have CCZ : Hid (∀ W, HT g G W → Calls Tryz.prog 17 #[.agg g.cells, .string s, .int .i64 (k : Int)] W fun e w' => e = .returned (.int .i64 cz) ∧ Below W.heap.size W w') := Lib.hid (fun W hW => by rw [← hcz]; exact rclaimed g G s (k : Int) W hW)
     have CNV : Hid (∀ W, HT g G W → Calls Tryz.prog 69 #[.agg g.cells, .string si, .string xi, .int .i64 wz] W fun e w' => Below W.heap.size W w' ∧ ∃ A ca, e = .returned (.slice A m ca) ∧ Rd w' w'.heap.size A T.flatten) := Lib.hid (fun W hW => by have := rnaive_any g G si xi wz W hW (HGN.out 4 (by decide)) HWF.out; rw [hT] at this; rw [← hm]; exact this)
     have HTT : Hid (Things kTake T ∧ m = T.length ∧ m ≤ 1000000) := Lib.hid ⟨by rw [← hT]; exact things_pick _ _ _ _, hm.symm, by rw [← hm, ← hT]; have h1 := pick_len G si xi wz; have h2 := HGN.out 4 (by decide); have h3 := (hbx.out.ht 4 (by decide)).1; omega⟩
     have HRV : Hid (rsvE s (k : Int) T G m = re ∧ rsvM s (k : Int) T G m = RM) := Lib.hid ⟨hre, hRM⟩
     have HGL : Hid ((G 4).length ≤ 1000 ∧ (G 8).length ≤ 1000) := Lib.hid ⟨by rw [← (hbx.out.ht 4 (by decide)).1]; exact HGN.out 4 (by decide), by rw [← (hbx.out.ht 8 (by decide)).1]; exact HGN.out 8 (by decide)⟩
     have HRL : Hid (wr.rangeAt w1.heap.size (2 + k * 6) [.string xi, .int .i64 xa, .int .i64 xg, .int .i64 xb, .int .i64 xp, .int .i64 xo]) := Lib.hid (by have := line_at (order_parts HYF.out).2.2.1 (corder_box hxb.out HYF.out).2.2.1 hlt; rw [hal] at this; exact this)
     have HYS := Lib.hid hys
     have HU := Lib.hid hu
     clear hx hG hY hlen hoff hyf hys hu hcz hwz hT hm hre hRM hpk hal
     obtain ⟨w3, hw3⟩ : ∃ W, W = wr.alloc (.cells #[.string xi, .int .i64 xa, .int .i64 xg, .int .i64 xb, .int .i64 xp, .int .i64 xo] 39) := ⟨_, rfl⟩
     have hb3 : Below wr.heap.size wr w3 := by rw [hw3]; exact (Below.refl _ _).alloc (Nat.le_refl _) _
     have HB3 := Lib.hid (hbx.out.below hb3)
     have HZ3 := Lib.hid ((hb3.block _ (lt_of_block hzb.out)).trans hzb.out)
     have HX3 := Lib.hid ((hb3.block _ (lt_of_block hxb.out)).trans hxb.out)
     have HL3 : Hid (w3.heap[wr.heap.size]? = some (.cells #[.string xi, .int .i64 xa, .int .i64 xg, .int .i64 xb, .int .i64 xp, .int .i64 xo] 39 (0, 0))) := Lib.hid (by rw [hw3]; exact heap_alloc_new _ _)
     have HSR : Hid (w1.heap.size + 1 ≤ wr.heap.size) := Lib.hid (lt_of_block hxb.out)
     have HW3 := Lib.hid hw3
     have h1 : (0 : Int) ≤ (k : Int) := by omega
     have h2 : (k : Int) < 8 := by omega
     clear hb3 hw3
     go_upto_region 8 with (first
      | (refine wpList_load_mid rfl 39 (.tmp 30) rfl w1.heap.size (2 + k * 6) rfl [.string xi, .int .i64 xa, .int .i64 xg, .int .i64 xb, .int .i64 xp, .int .i64 xo] _ HRL.out huLI rfl HSLI.out ?_)
      | fail)
     rw [← HW3.out]
     have y0' : w3.cell? ⟨wr.heap.size, 0, none⟩ = some (.string xi) := by rw [cell_of_block HL3.out]; rfl
     have ylt := lt_of_block HL3.out
     cases u with
     | true =>
      have he' : xi.toList.isEmpty = true := HU.out
      obtain ⟨n1, n2, n3⟩ := HN1.out rfl
      have N1 := Lib.hid n1
      have N2 := Lib.hid n2
      have N3 := Lib.hid n3
      clear n1 n2 n3
      go_wp2_with fail
      go_roundw
      case rel => exact ⟨k + 1, g, by omega, by go_num, N3, by rw [N1.out]; exact HB3, hgz, HZ3, by rw [N2.out]; exact HX3, by rw [N1.out]; exact hof⟩
      case measure => simp [intOf]; omega
     | false =>
      have he' : xi.toList.isEmpty = false := HU.out
      obtain ⟨n1, n2, n3⟩ := HN2.out rfl
      have N1 := Lib.hid n1
      have N2 := Lib.hid n2
      rw [n3] at HHIT
      have N3 := Lib.hid n3
      clear n1 n2 n3 HN1 HN2
      have RH : Hid (∀ X : BW w3, X.W.heap[w.heap.size]? = some (.cells g.cells 37 (0, 0))) := Lib.hid (fun X => (X.h.block _ (lt_of_block HB3.out.box)).trans HB3.out.box)
      have q1 : ∀ X : BW w3, X.W.cell? ⟨wr.heap.size, 1, none⟩ = some (.int .i64 xa) := fun X => by rw [cell_of_block ((X.h.block _ (lt_of_block HL3.out)).trans HL3.out)]; rfl
      have q2 : ∀ X : BW w3, X.W.cell? ⟨wr.heap.size, 2, none⟩ = some (.int .i64 xg) := fun X => by rw [cell_of_block ((X.h.block _ (lt_of_block HL3.out)).trans HL3.out)]; rfl
      have CCX : Hid (∀ X : BW w3, Calls Tryz.prog 17 #[.agg g.cells, .string s, .int .i64 (k : Int)] X.W fun e w' => e = .returned (.int .i64 cz) ∧ Below X.W.heap.size X.W w') := Lib.hid (fun X => CCZ.out _ (HB3.out.ht.below X.h))
      go_upto_region 9 with fail
      clear y0' ylt he'
      refine wp_grow w3 (by kernel_rfl) (by kernel_rfl) (Below.refl _ _) ?_
      simp only []
      iterate 5 go_big_quiet_step (fail)
      refine BigFrame.wpQuiet_want (by kernel_rfl) (fun K hK => quiet_load_mid 37 (.tmp 2) rfl w.heap.size 0 rfl g.cells.toList _ (fun W ⟨X, hX⟩ => by rw [hX]; exact range_row0 (RH.out X)) huh rfl (HSHL.out _) (hK _ ?_))
      simp only [ax]
      iterate 2 go_big_quiet_step (fail)
      go_big_quiet_step (exact grow_call _ (CCX.out _))
      iterate 2 go_big_quiet_step (fail)
      refine wpQuiet_nil ?_
      intro X
      obtain ⟨w5, hb5⟩ := X
      simp only []
      have HB5 := Lib.hid (HB3.out.below hb5)
      have HZ5 := Lib.hid ((hb5.block _ (lt_of_block HZ3.out)).trans HZ3.out)
      have HX5 := Lib.hid ((hb5.block _ (lt_of_block HX3.out)).trans HX3.out)
      have HL5 := Lib.hid ((hb5.block _ (lt_of_block HL3.out)).trans HL3.out)
      clear hb5 q1 q2 RH CCX
      have hwz := HWZ.out
      rw [hwz]
      clear hwz
      have hr7 := line_at (order_parts HYF.out).2.2.1 (corder_box HX5.out HYF.out).2.2.1 hlt
      obtain ⟨⟨yi, ya, yg, yb, yp, yo⟩, hy⟩ : ∃ z, lnAt (oLines Y) k = z := ⟨_, rfl⟩
      rw [hy] at hr7
      have g2 : w5.cell? ⟨w1.heap.size, 2 + k * 6 + 3, none⟩ = some (.int .i64 yb) := hr7 3 (.int .i64 yb) rfl
      have glt : w1.heap.size < w5.heap.size := lt_of_block HX5.out
      have gfz : w5.frozen? ⟨w1.heap.size, 2 + k * 6 + 3, none⟩ = false := frozen_of_block HX5.out
      clear hr7 hy
      obtain ⟨w6, hw6⟩ : ∃ W, W = w5.setCell ⟨w1.heap.size, 2 + k * 6 + 3, none⟩ (.int .i64 0) := ⟨_, rfl⟩
      have HX6 : Hid (w6.heap[w1.heap.size]? = some (.cells (setBack Y k 0).toArray 42 (0, 0))) := Lib.hid (by rw [hw6, block_setCell HX5.out]; unfold setBack; simp)
      have HOX6 : Hid (Off w1.heap.size g G) := Lib.hid (hof.out _ (HOH.out _ (by have := HSW.out; omega)) (by omega))
      have HB6 : Hid (HBox w g G w6) := Lib.hid (by rw [hw6]; exact ⟨HB5.out.ht.setCellOff HOX6.out _, HB5.out.caps, HB5.out.off, (block_setCell_other (by have := HSW.out; omega) _).trans HB5.out.box, HB5.out.bel.setCell (by have := HSW.out; show w.heap.size ≤ w1.heap.size; omega) _, by simpa [World.setCell] using HB5.out.sz⟩)
      have HZ6 : Hid (w6.heap[w.heap.size + 1]? = some (.cells Hs.zero 37 (0, 0))) := Lib.hid (by rw [hw6]; exact (block_setCell_other (by have := HSW.out; omega) _).trans HZ5.out)
      have HL6 : Hid (w6.heap[wr.heap.size]? = some (.cells #[.string xi, .int .i64 xa, .int .i64 xg, .int .i64 xb, .int .i64 xp, .int .i64 xo] 39 (0, 0))) := Lib.hid (by rw [hw6]; exact (block_setCell_other (by have := HSR.out; omega) _).trans HL5.out)
      have HW6 := Lib.hid hw6
      clear hw6
      go_upto_region 11 with fail
      rw [← HW6.out]
      clear g2 glt gfz
      by_cases hw0 : wz ≤ 0
      ·
       obtain ⟨m1, m2, m3⟩ := HT0.out hw0
       rw [m1] at N3
       rw [m2] at N1
       rw [m3] at N2
       clear m1 m2 m3
       go_wp2_with fail
       go_roundw
       case rel => exact ⟨k + 1, g, by omega, by go_num, N3, by rw [N1.out]; exact HB6, hgz, HZ6, by rw [N2.out]; exact HX6, by rw [N1.out]; exact hof⟩
       case measure => simp [intOf]; omega
      ·
       have HWP : Hid (max wz 0 = wz) := Lib.hid (by omega)
       rw [HWP.out] at N2
       have s1 : w6.cell? ⟨w1.heap.size, 1, none⟩ = some (.string si) := by have := (corder_box HX6.out (setBack_fits HYF.out hlt 0)).2.1; rw [(setBack_head Y k 0).1, HYS.out] at this; exact this
       have slt : w1.heap.size < w6.heap.size := lt_of_block HX6.out
       have y0' : w6.cell? ⟨wr.heap.size, 0, none⟩ = some (.string xi) := by rw [cell_of_block HL6.out]; rfl
       have ylt := lt_of_block HL6.out
       go_wp2_with (first
        | (refine wpList_load_row rfl 37 (.tmp 2) rfl w.heap.size rfl _ _ _ _ HB6.out.box huh rfl (HSH.out _) ?_)
        | fail)
       refine (CNV.out _ HB6.out.ht).mono ?_
       rintro e w7 ⟨hb7, A, ca, rfl, hrd⟩
       clear s1 slt y0' ylt hw0
       have HB7 := Lib.hid (HB6.out.below hb7)
       have HZ7 := Lib.hid ((hb7.block _ (lt_of_block HZ6.out)).trans HZ6.out)
       have HX7 := Lib.hid ((hb7.block _ (lt_of_block HX6.out)).trans HX6.out)
       have HRD := Lib.hid hrd
       have HS7 : Hid (w1.heap.size + 1 ≤ w7.heap.size) := Lib.hid (lt_of_block HX7.out)
       have hm6 : m ≤ 1000000 := HTT.out.2.2
       have HW0 : Hid (wrap64 (wz - sumT T 0) = wz) := Lib.hid (by rw [show sumT T 0 = 0 from by simp [sumT], Int.sub_zero]; exact IntWalk.wrap64_in _ ⟨HWF.out.1, HWF.out.2⟩)
       clear hb7 hrd
       go_upto_region 14 with fail
       go_loopw [10, 12] (fun tv jv w8 => ∃ (j : Nat) (q : Hs), j ≤ m ∧ tv = .int .i64 (wrap64 (wz - sumT T j)) ∧ jv = .int .i64 (j : Int) ∧ Hid (rsvE s (k : Int) T G j = 0) ∧ Hid (HBox w q (rsvM s (k : Int) T G j) w8) ∧ Hid (q.z = h.z) ∧ Hid (w7.heap.size ≤ w8.heap.size) ∧ Hid (∀ o, o < w7.heap.size → o ≠ w.heap.size → w8.heap[o]? = w7.heap[o]?) ∧ Hid (∀ o, Off o h L → o < w1.heap.size + 1 → Off o q (rsvM s (k : Int) T G j))) (fun _ jv _ => m - (intOf jv).toNat)
       case atStart => exact ⟨0, g, by omega, by rw [HW0.out], rfl, Lib.hid rfl, HB7, hgz, Lib.hid (Nat.le_refl _), Lib.hid (fun _ _ _ => rfl), hof⟩
       case round =>
        obtain ⟨j, q, hj, rfl, rfl, hR0, hbq, hqz, hsj, hkp, hofq⟩ := hrel
        obtain ⟨w8, hw8⟩ : ∃ W, W = wr := ⟨_, rfl⟩
        rw [← hw8] at hbq hsj hkp ⊢
        clear hw8
        by_cases hjm : j < m
        · have hjl : j < T.length := by rw [← HTT.out.2.1]; exact hjm
          obtain ⟨b, off, hA, hb, hcc⟩ := HRD.out.thing HTT.out.1 (by decide) hjl
          have fx := HTT.out.1 _ (List.getElem_mem hjl)
          have r1 := hcc j hjl
          rw [show kTake.length = 5 from rfl] at r1
          have hgt : T.getD j [] = T[j] := by rw [List.getD_eq_getElem?_getD, List.getElem?_eq_getElem hjl]; rfl
          obtain ⟨t, ht⟩ : ∃ t, T.getD j [] = t := ⟨_, rfl⟩
          rw [← hgt, ht] at fx r1
          have hcell := tk_cells fx
          obtain ⟨⟨kb, ki, kl, ks⟩, hky⟩ : ∃ z, tqK t = z := ⟨_, rfl⟩
          obtain ⟨tn, htn⟩ : ∃ z, tqN t = z := ⟨_, rfl⟩
          rw [hky, htn] at hcell
          simp only [] at hcell
          rw [hcell] at r1
          have hbne : b ≠ w.heap.size := fun e => by
           have h0 := r1 0 (.string kb) rfl
           rw [e, cell_of_block HB7.out.box] at h0
           exact hs_nostr _ _ _ h0
          obtain ⟨G1, hG1⟩ : ∃ z, rsvM s (k : Int) T G j = z := ⟨_, rfl⟩
          have htc : tqC s (k : Int) t = (Cl.mk s (k : Int) kb ki kl ks tn 0) := by unfold tqC; rw [hky, htn]
          have hs1 := rsvM_succ s (k : Int) T G j
          rw [hG1, ht, hky, htn, htc] at hs1
          have hlen := rsv_len s (k : Int) T G j hR0.out
          rw [hG1] at hlen hbq hofq
          have hsum := sumT_succ T hjl
          rw [ht, htn] at hsum
          obtain ⟨eh, heh⟩ : ∃ z, holdE (G1 4) (Ky.mk kb ki kl ks) tn = z := ⟨_, rfl⟩
          obtain ⟨l4, hl4⟩ : ∃ z, holdL (G1 4) (Ky.mk kb ki kl ks) tn = z := ⟨_, rfl⟩
          obtain ⟨ec, hec⟩ : ∃ z, claimE (G1 8) (Cl.mk s (k : Int) kb ki kl ks tn 0) = z := ⟨_, rfl⟩
          obtain ⟨l8, hl8⟩ : ∃ z, claimL (G1 8) (Cl.mk s (k : Int) kb ki kl ks tn 0) = z := ⟨_, rfl⟩
          have hee : rsvE s (k : Int) T G (j + 1) = if eh ≠ 0 then eh else ec := by
           rw [show rsvE s (k : Int) T G (j + 1) = rsvE1 (rsvM s (k : Int) T G j) s (k : Int) (T.getD j []) from firstE_one hR0.out, hG1, ht]
           unfold rsvE1
           rw [hky, htn, htc, heh, hec]
          have HHJ : Hid ((if eh ≠ 0 then eh else ec) ≠ 0 → er = if eh ≠ 0 then eh else ec) := Lib.hid (fun h1 => by
           have hr : re = if eh ≠ 0 then eh else ec := by rw [← HRV.out.1, ← hee]; rw [← hee] at h1; exact firstE_le _ (by omega) h1
           rw [HHIT.out (by rw [hr]; exact h1), hr])
          have HGO : Hid ((if eh ≠ 0 then eh else ec) = 0 → rsvE s (k : Int) T G (j + 1) = 0) := Lib.hid (fun h1 => by rw [hee]; exact h1)
          rw [hl4, hl8] at hs1
          have HS1 := Lib.hid hs1
          have HG4 : Hid ((G1 4).length ≤ 1000 ∧ (G1 8).length ≤ 1000) := Lib.hid ⟨Nat.le_trans hlen.1 HGL.out.1, Nat.le_trans hlen.2 (by have := HGL.out.2; omega)⟩
          have HL4 : Hid (Things (kOf 4) l4 ∧ l4.length ≤ 1000000) := Lib.hid ⟨by rw [← hl4]; exact holdL_things (hbq.out.ht 4 (by decide)).2.2.1 _ _, by rw [← hl4]; have h1 : (holdL (G1 4) (Ky.mk kb ki kl ks) tn).length ≤ (G1 4).length + 1 := upQ_len _ _; have h2 := HG4.out.1; omega⟩
          have CH : Hid (∀ W, HT q G1 W → Calls Tryz.prog 70 #[.agg q.cells, .agg #[.string kb, .string ki, .string kl, .int .i64 ks], .int .i64 tn] W (HouseP eh (setE 0 G1 4 l4) q G1 W)) := Lib.hid (fun W hW => by
           have h1 := rhold q G1 kb ki kl ks tn W hW (by rw [(hW 4 (by decide)).1]; have := HG4.out.1; omega)
           rw [heh, hl4] at h1
           exact h1.mono (fun e w' H => H.house (by decide) HL4.out.1 HL4.out.2 hW))
          have CC : Hid (∀ (v : Hs) W, HT v (setE 0 G1 4 l4) W → Calls Tryz.prog 14 #[.agg v.cells, .agg #[.string s, .int .i64 (k : Int), .string kb, .string ki, .string kl, .int .i64 ks, .int .i64 tn, .int .i64 0]] W (HouseP ec (setE 0 (setE 0 G1 4 l4) 8 l8) v (setE 0 G1 4 l4) W)) := Lib.hid (fun v W hW => by
           have h8 : setE 0 G1 4 l4 8 = G1 8 := setE_off rfl _ (by decide) _
           have h1 := rclaim v (setE 0 G1 4 l4) s (k : Int) kb ki kl ks tn 0 W hW (by rw [(hW 8 (by decide)).1, h8]; have := HG4.out.2; omega)
           rw [h8, hec, hl8] at h1
           exact h1)
          have HRT : Hid (w8.rangeAt b (off + j * 5) [.string kb, .string ki, .string kl, .int .i64 ks, .int .i64 tn]) := Lib.hid (range_eq (hkp.out b hb hbne) r1)
          have HBJ : Hid (b < w8.heap.size) := Lib.hid (Nat.lt_of_lt_of_le hb hsj.out)
          have HSUM : Hid (wrap64 (wrap64 (wz - sumT T j) - tn) = wrap64 (wz - sumT T (j + 1))) := Lib.hid (by rw [hsum, wrap_sub2])
          have HBD : Hid (b < w7.heap.size ∧ b ≠ w.heap.size) := Lib.hid ⟨hb, hbne⟩
          have j1 : (0 : Int) ≤ (j : Int) := by omega
          have j2 : (j : Int) < (m : Int) := by omega
          rw [hA]
          have HJM := Lib.hid hjm
          clear hcc r1 fx hgt ht hcell hky htn htc hs1 hlen hee heh hl4 hec hl8 hG1 hjl hA hb hbne hsum
          have HRX : Hid (∀ X, Below w8.heap.size w8 X → X.rangeAt b (off + j * 5) [.string kb, .string ki, .string kl, .int .i64 ks, .int .i64 tn]) := Lib.hid (fun X hX => rangeAt_below HRT.out HBJ.out hX)
          have B8 : Hid (Below w.heap.size w w8) := Lib.hid hbq.out.bel
          have QH8 : Hid (w8.heap[w.heap.size]? = some (.cells q.cells 37 (0, 0))) := Lib.hid hbq.out.box
          go_upto_region 16 with fail
          go_wp2_with fail
          have HST : Hid (∀ X, Below w8.heap.size w8 X → X.rangeAt w.heap.size 0 q.cells.toList ∧ X.rangeAt b (off + j * 5) [.string kb, .string ki, .string kl, .int .i64 ks] ∧ X.cell? ⟨b, off + j * 5 + 4, none⟩ = some (.int .i64 tn)) := Lib.hid (fun X hX => ⟨range_row0 ((hX.block _ (lt_of_block QH8.out)).trans QH8.out), (range_pre (m := [.int .i64 tn]) (HRX.out _ hX)), ((HRX.out _ hX) 4 _ rfl)⟩)
          apply region_two (R := fun gb (p : Hs) W => Hid (Below w8.heap.size w8 W ∧ w8.heap.size ≤ gb ∧ W.heap[gb]? = some (.cells p.cells 37 (0, 0)) ∧ (HT p (setX eh (setE 0 G1 4 l4)) W ∧ p.z = zE eh q.z ∧ Caps p ∧ Off gb p (setX eh (setE 0 G1 4 l4)) ∧ ∀ o, o < w8.heap.size → Off o q G1 → Off o p (setX eh (setE 0 G1 4 l4)))))
          · refine wp_region_held_drew (S := (fun w' => w'.rangeAt w.heap.size 0 q.cells.toList ∧ w'.rangeAt b (off + j * 5) [.string kb, .string ki, .string kl, .int .i64 ks] ∧ w'.cell? ⟨b, off + j * 5 + 4, none⟩ = some (.int .i64 tn))) (by kernel_rfl) (HST.out _ (Below.refl w8.heap.size w8).drew) (fun dd0 => ?_)
            refine tkY 0 (.agg q.cells) rfl (yieldsIf_load_mid (by kernel_rfl) 37 (.tmp 2) rfl w.heap.size 0 rfl q.cells.toList _ (fun w h => h.1) huh rfl (HSHL.out _)) ?_
            (try simp only [ax])
            refine tkN 1 (.slice (some ⟨b, off, none⟩) m ca) rfl ?_
            (try simp only [ax])
            refine tkN 2 (.int .i64 (j : Int)) rfl ?_
            (try simp only [ax])
            refine tkN 3 (.pointer (some ⟨b, off + j * 5, none⟩)) rfl ?_
            (try simp only [ax])
            refine tkN 4 (.pointer (some ⟨b, off + j * 5, none⟩)) rfl ?_
            (try simp only [ax])
            refine tkY 5 (.agg #[.string kb, .string ki, .string kl, .int .i64 ks]) rfl (yieldsIf_load_mid (by kernel_rfl) 44 (.tmp 69) rfl b (off + j * 5) rfl [.string kb, .string ki, .string kl, .int .i64 ks] _ (fun w h => h.2.1) huKey rfl HSKey.out) ?_
            (try simp only [ax])
            refine tkN 6 (.slice (some ⟨b, off, none⟩) m ca) rfl ?_
            (try simp only [ax])
            refine tkN 7 (.int .i64 (j : Int)) rfl ?_
            (try simp only [ax])
            refine tkN 8 (.pointer (some ⟨b, off + j * 5, none⟩)) rfl ?_
            (try simp only [ax])
            refine tkN 9 (.pointer (some ⟨b, off + j * 5 + 4, none⟩)) rfl ?_
            (try simp only [ax])
            refine tkY 10 (.int .i64 tn) rfl (.inl ⟨by kernel_rfl, fun w h => by have hw := h.2.2; clear h; go_simp⟩) ?_
            (try simp only [ax])
            refine wpAnyH_ready (rs := [11, 15]) (by kernel_rfl) (by simp) ?_
            refine AllReadyH.cons rfl (fun K' hK => ?_) (AllReadyH.cons rfl (fun K' hK => ?_) AllReadyH.nil)
            ·
             go_simp
             refine (CH.out _ (hbq.out.ht.below (Below.refl w8.heap.size w8).drew)).mono ?_
             rintro e y1 ⟨hb1, p, rfl, htp, hzp, hcp, hofp⟩
             have BY1 := Lib.hid ((Below.refl w8.heap.size w8).drew.trans (hb1.mono (Below.refl w8.heap.size w8).drew.size))
             have HCP := Lib.hid (hcp hbq.out.caps)
             have HOQ : Hid (∀ o, o < w8.heap.size → Off o q G1 → Off o p (setX eh (setE 0 G1 4 l4))) := Lib.hid (fun o h1 h2 => hofp o h2 (Nat.lt_of_lt_of_le h1 ((Below.refl w8.heap.size w8).drew).size))
             clear hcp
             have HTP := Lib.hid htp
             have HZP := Lib.hid hzp
             clear htp hzp hofp
             refine hK.out _ _ (HST.out _ BY1.out) (fun _ => ?_)
             clear hK K'
             (try simp only [ax])
             refine tkN 12 (.tuple #[.agg p.cells, .int .i64 (eh : Nat)]) rfl ?_
             (try simp only [ax])
             refine tkN 13 (.agg p.cells) rfl ?_
             (try simp only [ax])
             refine tkN 14 (.int .i64 (eh : Nat)) rfl ?_
             (try simp only [ax])
             refine wpAnyH_ready (rs := [15]) (by kernel_rfl) (by simp) ?_
             refine AllReadyH.cons rfl (fun K' hK => ?_) AllReadyH.nil
             go_simp
             obtain ⟨y2, hy2⟩ : ∃ W, W = (y1.alloc (.cells #[.slice none 0 0, .slice none 0 0, .slice none 0 0, .slice none 0 0, .slice none 0 0, .slice none 0 0, .slice none 0 0, .slice none 0 0, .slice none 0 0, .slice none 0 0, .slice none 0 0, .slice none 0 0, .slice none 0 0, .slice none 0 0, .int .i64 0] 37)) := ⟨_, rfl⟩
             obtain ⟨gb, hg⟩ : ∃ gb, gb = y1.heap.size := ⟨_, rfl⟩
             have HGW : Hid (w8.heap.size ≤ gb) := Lib.hid (by rw [hg]; exact BY1.out.size)
             have hb2 : Below y1.heap.size y1 y2 := by rw [hy2]; exact ((Below.refl _ _).alloc (Nat.le_refl _) _)
             have BY2 := Lib.hid (BY1.out.trans (hb2.mono BY1.out.size))
             have HGX : Hid (y2.heap[gb]? = some (.cells #[.slice none 0 0, .slice none 0 0, .slice none 0 0, .slice none 0 0, .slice none 0 0, .slice none 0 0, .slice none 0 0, .slice none 0 0, .slice none 0 0, .slice none 0 0, .slice none 0 0, .slice none 0 0, .slice none 0 0, .slice none 0 0, .int .i64 0] 37 (0, 0))) := Lib.hid (by rw [hy2, hg]; exact heap_alloc_new y1 _)
             have HGE : Hid (gb < y2.heap.size) := Lib.hid (lt_of_block HGX.out)
             rw [← hy2, ← hg]
             have HOFP := Lib.hid (HTP.out.offge (Nat.le_of_eq hg.symm))
             have HTP := Lib.hid (HTP.out.below hb2)
             refine hK.out _ _ (HST.out _ BY2.out) (fun _ => ?_)
             clear hK K' hy2 hb2 hg
             (try simp only [ax])
             refine wpAnyH_ready (rs := [16]) (by kernel_rfl) (by simp) ?_
             refine AllReadyH.cons rfl (fun K' hK => ?_) AllReadyH.nil
             rw [if_pos (by kernel_rfl)]
             refine wp_store_row 37 (.tmp 13) (.tmp 77) rfl gb p.cells rfl rfl _ _ HGX.out (HSH.out _) rfl (H1C.out _) ?_
             obtain ⟨y3, hy3⟩ : ∃ W, W = y2.setRow gb p.cells := ⟨_, rfl⟩
             have BY3 : Hid (Below w8.heap.size w8 y3) := Lib.hid (by rw [hy3]; exact setRow_below BY2.out HGW.out _)
             have HGY : Hid (y3.heap[gb]? = some (.cells p.cells 37 (0, 0))) := Lib.hid (by rw [hy3]; exact setRow_heap _ _ _ _ _ _ HGX.out)
             have HTQ := Lib.hid (HTP.out.setRowOff HOFP.out p.cells)
             rw [← hy3] at HTQ
             have HTP := HTQ
             rw [← hy3]
             have HGX := HGY
             refine hK.out _ _ (HST.out _ BY3.out) (fun _ => ?_)
             clear hK K' hy3
             (try simp only [Act.put, List.getElem_toArray, List.getElem_cons_succ, List.getElem_cons_zero])
             refine tkN 17 (.int .i64 (eh : Nat)) rfl ?_
             (try simp only [ax])
             refine wpAnyH_done (by kernel_rfl) ?_ _
             exact ⟨rfl, gb, p, rfl, Lib.hid ⟨BY3.out, HGW.out, HGX.out, ⟨HTP.out, HZP.out, HCP.out, HOFP.out, HOQ.out⟩⟩⟩
            ·
             go_simp
             obtain ⟨y4, hy4⟩ : ∃ W, W = (w8.alloc (.cells #[.slice none 0 0, .slice none 0 0, .slice none 0 0, .slice none 0 0, .slice none 0 0, .slice none 0 0, .slice none 0 0, .slice none 0 0, .slice none 0 0, .slice none 0 0, .slice none 0 0, .slice none 0 0, .slice none 0 0, .slice none 0 0, .int .i64 0] 37)).drew := ⟨_, rfl⟩
             obtain ⟨gb, hg⟩ : ∃ gb, gb = w8.heap.size := ⟨_, rfl⟩
             have HGW : Hid (w8.heap.size ≤ gb) := Lib.hid (by rw [hg]; exact Nat.le_refl _)
             have hb4 : Below w8.heap.size w8 y4 := by rw [hy4]; exact ((Below.refl _ _).alloc (Nat.le_refl _) _).drew
             have BY4 := Lib.hid (hb4)
             have HGX : Hid (y4.heap[gb]? = some (.cells #[.slice none 0 0, .slice none 0 0, .slice none 0 0, .slice none 0 0, .slice none 0 0, .slice none 0 0, .slice none 0 0, .slice none 0 0, .slice none 0 0, .slice none 0 0, .slice none 0 0, .slice none 0 0, .slice none 0 0, .slice none 0 0, .int .i64 0] 37 (0, 0))) := Lib.hid (by rw [hy4, hg]; exact heap_alloc_new w8 _)
             have HGE : Hid (gb < y4.heap.size) := Lib.hid (lt_of_block HGX.out)
             rw [← hy4, ← hg]
             refine hK.out _ _ (HST.out _ BY4.out) (fun _ => ?_)
             clear hK K' hy4 hb4 hg
             (try simp only [ax])
             refine wpAnyH_ready (rs := [11]) (by kernel_rfl) (by simp) ?_
             refine AllReadyH.cons rfl (fun K' hK => ?_) AllReadyH.nil
             go_simp
             refine (CH.out _ (hbq.out.ht.below BY4.out)).mono ?_
             rintro e y5 ⟨hb5, p, rfl, htp, hzp, hcp, hofp⟩
             have BY5 := Lib.hid (BY4.out.trans (hb5.mono BY4.out.size))
             have HCP := Lib.hid (hcp hbq.out.caps)
             have HOQ : Hid (∀ o, o < w8.heap.size → Off o q G1 → Off o p (setX eh (setE 0 G1 4 l4))) := Lib.hid (fun o h1 h2 => hofp o h2 (Nat.lt_of_lt_of_le h1 (BY4.out).size))
             clear hcp
             have HGZ := HGX
             have HGX := Lib.hid ((hb5.block _ (lt_of_block HGX.out)).trans HGX.out)
             have HTP := Lib.hid htp
             have HZP := Lib.hid hzp
             have HOFP := Lib.hid (hofp gb ((hbq.out.ht.offge HGW.out)) (by have := lt_of_block HGZ.out; exact this))
             clear htp hzp hofp
             refine hK.out _ _ (HST.out _ BY5.out) (fun _ => ?_)
             clear hK K'
             (try simp only [ax])
             refine tkN 12 (.tuple #[.agg p.cells, .int .i64 (eh : Nat)]) rfl ?_
             (try simp only [ax])
             refine tkN 13 (.agg p.cells) rfl ?_
             (try simp only [ax])
             refine tkN 14 (.int .i64 (eh : Nat)) rfl ?_
             (try simp only [ax])
             refine wpAnyH_ready (rs := [16]) (by kernel_rfl) (by simp) ?_
             refine AllReadyH.cons rfl (fun K' hK => ?_) AllReadyH.nil
             rw [if_pos (by kernel_rfl)]
             refine wp_store_row 37 (.tmp 13) (.tmp 77) rfl gb p.cells rfl rfl _ _ HGX.out (HSH.out _) rfl (H1C.out _) ?_
             obtain ⟨y6, hy6⟩ : ∃ W, W = y5.setRow gb p.cells := ⟨_, rfl⟩
             have BY6 : Hid (Below w8.heap.size w8 y6) := Lib.hid (by rw [hy6]; exact setRow_below BY5.out HGW.out _)
             have HGY : Hid (y6.heap[gb]? = some (.cells p.cells 37 (0, 0))) := Lib.hid (by rw [hy6]; exact setRow_heap _ _ _ _ _ _ HGX.out)
             have HTQ := Lib.hid (HTP.out.setRowOff HOFP.out p.cells)
             rw [← hy6] at HTQ
             have HTP := HTQ
             rw [← hy6]
             have HGX := HGY
             refine hK.out _ _ (HST.out _ BY6.out) (fun _ => ?_)
             clear hK K' hy6
             (try simp only [Act.put, List.getElem_toArray, List.getElem_cons_succ, List.getElem_cons_zero])
             refine tkN 17 (.int .i64 (eh : Nat)) rfl ?_
             (try simp only [ax])
             refine wpAnyH_done (by kernel_rfl) ?_ _
             exact ⟨rfl, gb, p, rfl, Lib.hid ⟨BY6.out, HGW.out, HGX.out, ⟨HTP.out, HZP.out, HCP.out, HOFP.out, HOQ.out⟩⟩⟩
          · intro g9 p9 w9 hR
            have QH9 := Lib.hid ((hR.out.1.block _ (lt_of_block QH8.out)).trans QH8.out)
            have B9 := Lib.hid (B8.out.trans (hR.out.1.mono B8.out.size))
            have QG9 := Lib.hid hR.out.2.2.1
            obtain ⟨hb9, hg9, _, htp, hzp, hcp, hog, hoq⟩ := hR.out
            have HB9 := Lib.hid (hbq.out.below hb9)
            have HTP := Lib.hid htp
            have HZP := Lib.hid hzp
            have HCP := Lib.hid hcp
            have HOQ := Lib.hid hoq
            have HOG := Lib.hid hog
            have HG9 := Lib.hid hg9
            have HK9 : Hid (∀ o, o < w7.heap.size → o ≠ w.heap.size → w9.heap[o]? = w7.heap[o]?) := Lib.hid (fun o h1 h2 => (hb9.block _ (Nat.lt_of_lt_of_le h1 hsj.out)).trans (hkp.out o h1 h2))
            have HS9 : Hid (w8.heap.size ≤ w9.heap.size) := Lib.hid hb9.size
            have HR9 : Hid (∀ X, Below w9.heap.size w9 X → X.rangeAt b (off + j * 5) [.string kb, .string ki, .string kl, .int .i64 ks, .int .i64 tn]) := Lib.hid (fun X hX => rangeAt_below (HRX.out _ hb9) (Nat.lt_of_lt_of_le HBJ.out hb9.size) hX)
            clear hR hb9 hg9 htp hzp hcp hog hoq
            have HZ9 : Hid (w9.heap[w.heap.size + 1]? = some (.cells Hs.zero 37 (0, 0))) := Lib.hid ((HK9.out _ (by have := HS7.out; have := HSW.out; omega) (by omega)).trans HZ7.out)
            by_cases hk0 : eh = 0
            · subst hk0
              rw [setX_ok rfl] at HTP HOQ HOG
              have HHJ2 : Hid (ec ≠ 0 → er = ec) := Lib.hid (fun h1 => by have := HHJ.out; simp only [ne_eq, not_true_eq_false, if_false] at this; exact this h1)
              have HGO2 : Hid (ec = 0 → rsvE s (k : Int) T G (j + 1) = 0) := Lib.hid (fun h1 => HGO.out (by simp [h1]))
              go_upto_region 18 with fail
              have HST : Hid (∀ W, Below w9.heap.size w9 W → W.rangeAt g9 0 p9.cells.toList ∧ W.rangeAt b (off + j * 5) [.string kb, .string ki, .string kl, .int .i64 ks] ∧ W.cell? ⟨b, off + j * 5 + 4, none⟩ = some (.int .i64 tn)) := Lib.hid (fun W hW => ⟨range_row0 ((hW.block _ (lt_of_block QG9.out)).trans QG9.out), (range_pre (m := [.int .i64 tn]) (HR9.out _ hW)), ((HR9.out _ hW) 4 _ rfl)⟩)
              have BN0 := Lib.hid (Below.refl w9.heap.size w9).drew
              refine lastN_region (S := (fun w' => w'.rangeAt g9 0 p9.cells.toList ∧ w'.rangeAt b (off + j * 5) [.string kb, .string ki, .string kl, .int .i64 ks] ∧ w'.cell? ⟨b, off + j * 5 + 4, none⟩ = some (.int .i64 tn))) (n := 18) (by kernel_rfl) ?_
              refine LastN.take (i := 0) (v := .agg p9.cells) rfl (by kernel_rfl) (by kernel_rfl) (by kernel_rfl) (by kernel_rfl) (by kernel_rfl) (by decide) (fun _ _ _ h => h.elim) (yieldsIf_load_mid (by kernel_rfl) 37 (.tmp 13) rfl g9 (0) rfl p9.cells.toList _ (fun w h => h.1) huh rfl (HSHL.out _)) (HST.out _ BN0.out) ?_
              (try simp only [ax])
              refine LastN.pure (i := 1) (v := .string s) rfl (by kernel_rfl) (by kernel_rfl) (by kernel_rfl) (by decide) (fun _ _ _ h => h.elim) (.inl ⟨by kernel_rfl, fun w hw => by clear hw; go_simp⟩) (fun _ => HST.out _ BN0.out) ?_
              (try simp only [ax])
              refine LastN.pure (i := 2) (v := .int .i64 (k : Int)) rfl (by kernel_rfl) (by kernel_rfl) (by kernel_rfl) (by decide) (fun _ _ _ h => h.elim) (.inl ⟨by kernel_rfl, fun w hw => by clear hw; go_simp⟩) (fun _ => HST.out _ BN0.out) ?_
              (try simp only [ax])
              refine LastN.pure (i := 3) (v := .slice (some ⟨b, off, none⟩) m ca) rfl (by kernel_rfl) (by kernel_rfl) (by kernel_rfl) (by decide) (fun _ _ _ h => h.elim) (.inl ⟨by kernel_rfl, fun w hw => by clear hw; go_simp⟩) (fun _ => HST.out _ BN0.out) ?_
              (try simp only [ax])
              refine LastN.pure (i := 4) (v := .int .i64 (j : Int)) rfl (by kernel_rfl) (by kernel_rfl) (by kernel_rfl) (by decide) (fun _ _ _ h => h.elim) (.inl ⟨by kernel_rfl, fun w hw => by clear hw; go_simp⟩) (fun _ => HST.out _ BN0.out) ?_
              (try simp only [ax])
              refine LastN.pure (i := 5) (v := .pointer (some ⟨b, off + j * 5, none⟩)) rfl (by kernel_rfl) (by kernel_rfl) (by kernel_rfl) (by decide) (fun _ _ _ h => h.elim) (.inl ⟨by kernel_rfl, fun w hw => by clear hw; go_simp⟩) (fun _ => HST.out _ BN0.out) ?_
              (try simp only [ax])
              refine LastN.pure (i := 6) (v := .pointer (some ⟨b, off + j * 5, none⟩)) rfl (by kernel_rfl) (by kernel_rfl) (by kernel_rfl) (by decide) (fun _ _ _ h => h.elim) (.inl ⟨by kernel_rfl, fun w hw => by clear hw; go_simp⟩) (fun _ => HST.out _ BN0.out) ?_
              (try simp only [ax])
              refine LastN.take (i := 7) (v := .agg #[.string kb, .string ki, .string kl, .int .i64 ks]) rfl (by kernel_rfl) (by kernel_rfl) (by kernel_rfl) (by kernel_rfl) (by kernel_rfl) (by decide) (fun _ _ _ h => h.elim) (yieldsIf_load_mid (by kernel_rfl) 44 (.tmp 88) rfl b ((off + j * 5)) rfl [.string kb, .string ki, .string kl, .int .i64 ks] _ (fun w h => h.2.1) huKey rfl HSKey.out) (HST.out _ BN0.out) ?_
              (try simp only [ax])
              refine LastN.pure (i := 8) (v := .slice (some ⟨b, off, none⟩) m ca) rfl (by kernel_rfl) (by kernel_rfl) (by kernel_rfl) (by decide) (fun _ _ _ h => h.elim) (.inl ⟨by kernel_rfl, fun w hw => by clear hw; go_simp⟩) (fun _ => HST.out _ BN0.out) ?_
              (try simp only [ax])
              refine LastN.pure (i := 9) (v := .int .i64 (j : Int)) rfl (by kernel_rfl) (by kernel_rfl) (by kernel_rfl) (by decide) (fun _ _ _ h => h.elim) (.inl ⟨by kernel_rfl, fun w hw => by clear hw; go_simp⟩) (fun _ => HST.out _ BN0.out) ?_
              (try simp only [ax])
              refine LastN.pure (i := 10) (v := .pointer (some ⟨b, off + j * 5, none⟩)) rfl (by kernel_rfl) (by kernel_rfl) (by kernel_rfl) (by decide) (fun _ _ _ h => h.elim) (.inl ⟨by kernel_rfl, fun w hw => by clear hw; go_simp⟩) (fun _ => HST.out _ BN0.out) ?_
              (try simp only [ax])
              refine LastN.pure (i := 11) (v := .pointer (some ⟨b, off + j * 5 + 4, none⟩)) rfl (by kernel_rfl) (by kernel_rfl) (by kernel_rfl) (by decide) (fun _ _ _ h => h.elim) (.inl ⟨by kernel_rfl, fun w hw => by clear hw; go_simp⟩) (fun _ => HST.out _ BN0.out) ?_
              (try simp only [ax])
              refine LastN.take (i := 12) (v := .int .i64 tn) rfl (by kernel_rfl) (by kernel_rfl) (by kernel_rfl) (by kernel_rfl) (by kernel_rfl) (by decide) (fun _ _ _ h => h.elim) (.inl ⟨by kernel_rfl, fun w h => by have hw := h.2.2; clear h; go_simp⟩) (HST.out _ BN0.out) ?_
              (try simp only [ax])
              refine LastN.pure (i := 13) (v := .agg #[.string s, .int .i64 (k : Int), .string kb, .string ki, .string kl, .int .i64 ks, .int .i64 tn, .int .i64 0]) rfl (by kernel_rfl) (by kernel_rfl) (by kernel_rfl) (by decide) (fun _ _ _ h => h.elim) (.inl ⟨by kernel_rfl, fun w hw => by clear hw; go_simp⟩) (fun _ => HST.out _ BN0.out) ?_
              (try simp only [ax])
              refine LastN.one (i := 14) (by kernel_rfl) rfl (fun K hK => ?_)
              go_simp
              refine (CC.out p9 _ (HTP.out.below BN0.out)).mono ?_
              rintro e w10 ⟨hbn, v, rfl, hv, hvz, hvc, hvo⟩
              have BN1 := Lib.hid (BN0.out.trans (hbn.mono BN0.out.size))
              have HTV := Lib.hid hv
              have HVZ := Lib.hid hvz
              have HVC := Lib.hid (hvc HCP.out)
              have HVO : Hid (∀ o, o < w9.heap.size → Off o p9 (setE 0 G1 4 l4) → Off o v (setX ec (setE 0 (setE 0 G1 4 l4) 8 l8))) := Lib.hid (fun o h1 h2 => hvo o h2 (Nat.lt_of_lt_of_le h1 (BN0.out).size))
              clear hv hvz hvc hvo
              clear hbn
              refine hK.out _ _ (fun _ _ => HST.out _ BN1.out) (fun _ => ?_)
              clear hK K
              (try simp only [ax])
              refine LastN.pure (i := 15) (v := .tuple #[.agg v.cells, .int .i64 (ec : Nat)]) rfl (by kernel_rfl) (by kernel_rfl) (by kernel_rfl) (by decide) (fun _ _ _ h => h.elim) (.inl ⟨by kernel_rfl, fun w hw => by clear hw; go_simp⟩) (fun _ => HST.out _ BN1.out) ?_
              (try simp only [ax])
              refine LastN.pure (i := 16) (v := .agg v.cells) rfl (by kernel_rfl) (by kernel_rfl) (by kernel_rfl) (by decide) (fun _ _ _ h => h.elim) (.inl ⟨by kernel_rfl, fun w hw => by clear hw; go_simp⟩) (fun _ => HST.out _ BN1.out) ?_
              (try simp only [ax])
              refine LastN.pure (i := 17) (v := .int .i64 (ec : Nat)) rfl (by kernel_rfl) (by kernel_rfl) (by kernel_rfl) (by decide) (fun _ _ _ h => h.elim) (.inl ⟨by kernel_rfl, fun w hw => by clear hw; go_simp⟩) (fun _ => HST.out _ BN1.out) ?_
              (try simp only [ax])
              have QG10 : Hid (w10.heap[g9]? = some (.cells p9.cells 37 (0, 0))) := Lib.hid ((BN1.out.block _ (lt_of_block QG9.out)).trans QG9.out)
              obtain ⟨w11, hw11⟩ : ∃ W, W = w10.setRow g9 v.cells := ⟨_, rfl⟩
              have HW11 := Lib.hid hw11
              clear hw11
              refine LastN.one (i := 18) (by kernel_rfl) rfl (fun K hK => ?_)
              rw [if_pos (by kernel_rfl)]
              refine wp_store_row 37 (.tmp 13) (.tmp 97) rfl g9 v.cells rfl rfl _ _ QG10.out (HSH.out _) rfl (H1C.out _) ?_
              rw [← HW11.out]
              refine hK.out _ _ (fun _ h => absurd rfl h) (fun _ => ?_)
              clear hK K
              (try simp only [Act.put, List.getElem_toArray, List.getElem_cons_succ, List.getElem_cons_zero])
              refine LastN.one (i := 19) (by kernel_rfl) rfl (fun K hK => ?_)
              go_simp
              refine hK.out _ _ (fun h => absurd h (by decide)) (fun _ => ?_)
              clear hK K
              (try simp only [ax])
              refine LastN.done (by kernel_rfl) ?_ _
              refine NoPanic.normal ?_
              clear HST
              have HB11 : Hid (HBox w q G1 w11) := Lib.hid (by rw [HW11.out]; exact (HB9.out.below BN1.out).other (by have := HG9.out; have := hsj.out; have := HS7.out; have := HSW.out; omega) (hbq.out.ht.offge HG9.out) _)
              have HQ11 : Hid (w11.heap[g9]? = some (.cells v.cells 37 (0, 0))) := Lib.hid (by rw [HW11.out]; exact setRow_heap _ _ _ _ _ _ QG10.out)
              have HOV : Hid (Off g9 v (setX ec (setE 0 (setE 0 G1 4 l4) 8 l8))) := Lib.hid (HVO.out _ (lt_of_block QG9.out) HOG.out)
              have HTV1 : Hid (HT v (setX ec (setE 0 (setE 0 G1 4 l4) 8 l8)) w11) := Lib.hid (by rw [HW11.out]; exact HTV.out.setRowOff HOV.out _)
              have HK11 : Hid (∀ o, o < w7.heap.size → o ≠ w.heap.size → w11.heap[o]? = w7.heap[o]?) := Lib.hid (fun o h1 h2 => by
               rw [HW11.out]
               exact (setRow_other _ _ _ _ (by have := HG9.out; have := hsj.out; omega)).trans ((BN1.out.block _ (by have := HS9.out; have := hsj.out; omega)).trans (HK9.out o h1 h2)))
              have HR11 : Hid (w11.rangeAt b (off + j * 5) [.string kb, .string ki, .string kl, .int .i64 ks, .int .i64 tn]) := Lib.hid (range_eq (by rw [HW11.out]; exact setRow_other _ _ _ _ (by have := HG9.out; have := HBJ.out; omega)) (HR9.out _ BN1.out))
              have HS11 : Hid (w7.heap.size ≤ w11.heap.size) := Lib.hid (by rw [HW11.out]; have := BN1.out.size; have := HS9.out; have := hsj.out; simp; omega)
              have HZ11 : Hid (w11.heap[w.heap.size + 1]? = some (.cells Hs.zero 37 (0, 0))) := Lib.hid ((HK11.out _ (by have := HS7.out; have := HSW.out; omega) (by omega)).trans HZ7.out)
              by_cases hk0 : ec = 0
              · subst hk0
                rw [setX_ok rfl] at HTV1 HVO
                have HGK : Hid (rsvE s (k : Int) T G (j + 1) = 0) := Lib.hid (HGO2.out rfl)
                have HOV1 : Hid (∀ o, o < w8.heap.size → Off o q G1 → Off o v (setE 0 (setE 0 G1 4 l4) 8 l8)) := Lib.hid (fun o h1 h2 => HVO.out o (Nat.lt_of_lt_of_le h1 HS9.out) (HOQ.out o h1 h2))
                obtain ⟨w12, hw12⟩ : ∃ W, W = w11.setRow w.heap.size v.cells := ⟨_, rfl⟩
                have HB12 : Hid (HBox w v (setE 0 (setE 0 G1 4 l4) 8 l8) w12) := Lib.hid (by rw [hw12]; exact HB11.out.store HTV1.out HVC.out (HOV1.out _ hbq.out.sz hbq.out.off))
                have HK12 : Hid (∀ o, o < w7.heap.size → o ≠ w.heap.size → w12.heap[o]? = w7.heap[o]?) := Lib.hid (fun o h1 h2 => by rw [hw12]; exact (setRow_other _ _ _ _ h2).trans (HK11.out o h1 h2))
                have HR12 : Hid (w12.rangeAt b (off + j * 5) [.string kb, .string ki, .string kl, .int .i64 ks, .int .i64 tn]) := Lib.hid (range_eq (by rw [hw12]; exact setRow_other _ _ _ _ HBD.out.2) HR11.out)
                have HS12 : Hid (w7.heap.size ≤ w12.heap.size) := Lib.hid (by rw [hw12]; simpa using HS11.out)
                have HW12 := Lib.hid hw12
                clear hw12
                go_upto_region 22 with (first
                 | (refine wpList_load_row rfl 37 (.tmp 13) rfl g9 rfl _ _ _ _ HQ11.out huh rfl (HSH.out _) ?_)
                 | (refine wpList_store_row rfl 37 (.tmp 2) (.tmp 103) rfl w.heap.size v.cells rfl rfl _ _ HB11.out.box (HSH.out _) rfl (H1C.out _) ?_; rw [← HW12.out])
                 | fail)
                have c4 : w12.cell? ⟨b, off + j * 5 + 4, none⟩ = some (.int .i64 tn) := HR12.out 4 _ rfl
                have clt : b < w12.heap.size := by have := HS12.out; have := HBD.out.1; omega
                go_wp2_with fail
                go_roundw
                case rel => exact ⟨j + 1, v, by omega, by rw [← HSUM.out], by go_num, HGK, by rw [HS1.out]; exact HB12, Lib.hid (by rw [HVZ.out]; exact HZP.out.trans hqz.out), HS12, HK12, Lib.hid (fun o h1 h2 => by rw [HS1.out]; exact HOV1.out o (Nat.lt_of_lt_of_le h2 (by have := HS7.out; have := hsj.out; omega)) (hofq.out o h1 h2))⟩
                case measure => simp [intOf]; omega
              · have bn : ((ec : Int) != 0) = true := by simpa using hk0
                have HKL := Lib.hid hk0
                clear hk0
                have HE : Hid (er = ec) := Lib.hid (HHJ2.out HKL.out)
                go_wp2_with (first
                 | (refine wpList_store_row rfl 37 (.tmp 4) (.tmp 101) rfl (w.heap.size + 1) Hs.zero rfl rfl _ _ HZ11.out HSQ.out rfl H1Q.out ?_)
                 | fail)
                exact bodyPost_ret (results_row_tmp rfl _ _ (w.heap.size + 1) _ _ _ _ rfl (setRow_heap _ _ _ _ _ _ HZ11.out) huh rfl HSQ.out) rfl (by
                 have hne : er ≠ 0 := by rw [HE.out]; exact HKL.out
                 rw [HE.out] at hne ⊢
                 exact HouseP.bad hne (setRow_below HB11.out.bel (show w.heap.size ≤ w.heap.size + 1 by omega) Hs.zero))
            · have bn : ((eh : Int) != 0) = true := by simpa using hk0
              have bm : ((eh : Int) == 0) = false := by simpa using hk0
              have HKL := Lib.hid hk0
              clear hk0
              have HE : Hid (er = eh) := Lib.hid (by rw [HHJ.out (by simp [HKL.out]), if_pos HKL.out])
              go_wp2_with (first
               | (refine wpList_store_row rfl 37 (.tmp 4) (.tmp 101) rfl (w.heap.size + 1) Hs.zero rfl rfl _ _ HZ9.out HSQ.out rfl H1Q.out ?_)
               | fail)
              exact bodyPost_ret (results_row_tmp rfl _ _ (w.heap.size + 1) _ _ _ _ rfl (setRow_heap _ _ _ _ _ _ HZ9.out) huh rfl HSQ.out) rfl (by
               have hne : er ≠ 0 := by rw [HE.out]; exact HKL.out
               rw [HE.out] at hne ⊢
               exact HouseP.bad hne (setRow_below HB9.out.bel (show w.heap.size ≤ w.heap.size + 1 by omega) Hs.zero))
        · have hjm2 : j = m := by omega
          subst hjm2
          have hre0 : re = 0 := HRV.out.1.symm.trans hR0.out
          rw [hre0] at N3
          rw [HRV.out.2] at hbq hofq
          have HX8 := Lib.hid ((hkp.out _ HS7.out (by have := HSW.out; omega)).trans HX7.out)
          have HZ8 := Lib.hid ((hkp.out (w.heap.size + 1) (by have := HS7.out; have := HSW.out; omega) (by omega)).trans HZ7.out)
          have HYB : Hid (Fits kOrder (setBack Y k 0)) := Lib.hid (setBack_fits HYF.out hlt 0)
          have hr7 := line_at (order_parts HYB.out).2.2.1 (corder_box HX8.out HYB.out).2.2.1 hlt
          obtain ⟨⟨yi, ya, yg, yb, yp, yo⟩, hy⟩ : ∃ z, lnAt (oLines (setBack Y k 0)) k = z := ⟨_, rfl⟩
          rw [hy] at hr7
          have g2 : w8.cell? ⟨w1.heap.size, 2 + k * 6 + 3, none⟩ = some (.int .i64 yb) := hr7 3 (.int .i64 yb) rfl
          have glt : w1.heap.size < w8.heap.size := lt_of_block HX8.out
          have gfz : w8.frozen? ⟨w1.heap.size, 2 + k * 6 + 3, none⟩ = false := frozen_of_block HX8.out
          clear hr7 hy
          obtain ⟨w13, hw13⟩ : ∃ W, W = w8.setCell ⟨w1.heap.size, 2 + k * 6 + 3, none⟩ (.int .i64 (wrap64 (wz - sumT T j))) := ⟨_, rfl⟩
          have HX13 : Hid (w13.heap[w1.heap.size]? = some (.cells (setBack (setBack Y k 0) k (wrap64 (wz - sumT T j))).toArray 42 (0, 0))) := Lib.hid (by rw [hw13, block_setCell HX8.out]; unfold setBack; simp)
          have HOX13 : Hid (Off w1.heap.size q RM) := Lib.hid (hofq.out _ (HOH.out _ (by have := HSW.out; omega)) (by omega))
          have HB13 : Hid (HBox w q RM w13) := Lib.hid (by rw [hw13]; exact ⟨hbq.out.ht.setCellOff HOX13.out _, hbq.out.caps, hbq.out.off, (block_setCell_other (by have := HSW.out; omega) _).trans hbq.out.box, hbq.out.bel.setCell (by have := HSW.out; show w.heap.size ≤ w1.heap.size; omega) _, by simpa [World.setCell] using hbq.out.sz⟩)
          rw [setBack_twice] at HX13
          have HZ13 : Hid (w13.heap[w.heap.size + 1]? = some (.cells Hs.zero 37 (0, 0))) := Lib.hid (by rw [hw13]; exact (block_setCell_other (by have := HSW.out; omega) _).trans HZ8.out)
          have HW13 := Lib.hid hw13
          clear hw13 hjm hj
          go_upto_region 6 with fail
          rw [← HW13.out]
          clear g2 glt gfz
          go_wp2_with fail
          go_roundw
          case rel => exact ⟨k + 1, q, by omega, by go_num, N3, by rw [N1.out]; exact HB13, hqz, HZ13, by rw [N2.out]; exact HX13, Lib.hid (fun o h1 h2 => by rw [N1.out]; exact hofq.out o h1 h2)⟩
          case measure => simp [intOf]; omega
   · have hk8 : k = 8 := by omega
     subst hk8
     have HE : Hid (er = 0) := Lib.hid (by rw [HA2.out]; exact hE0.out)
     obtain ⟨G, hG⟩ : ∃ G, alcM L X s 8 = G := ⟨_, rfl⟩
     obtain ⟨Y, hY⟩ : ∃ Y, alcX L X s 8 = Y := ⟨_, rfl⟩
     have HYF : Hid (Fits kOrder Y) := Lib.hid (by rw [← hY]; exact alcX_fits HXF.out s 8 (by omega))
     have HG7 : Hid (G 7 = L 7) := Lib.hid (by rw [← hG]; exact alc_off L X s (by decide) (by decide) 8)
     obtain ⟨l7, hl7⟩ : ∃ z, putG ordOrder (L 7) Y = z := ⟨_, rfl⟩
     rw [hG] at hbx hof
     rw [hY] at hxb
     rw [hG, hY, hl7] at HM
     have HL7 : Hid (Things (kOf 7) l7 ∧ l7.length ≤ 1000000) := Lib.hid ⟨by rw [← hl7]; exact Things.put (HHT.out 7 (by decide)).2.2.1 HYF.out, by rw [← hl7, Pl.putG_len]; have h2 := HLEN.out 7 (by decide); split <;> omega⟩
     have CP : Hid (∀ W, HT g G W → Calls Tryz.prog 46 #[.agg g.cells, .agg Y.toArray] W fun e w' => Below W.heap.size W w' ∧ ∃ A n c, n = l7.length ∧ w'.ownsRow W.heap.size 42 50 (.slice A n c) n l7.flatten ∧ e = .returned (.agg (g.set 7 A n c).cells)) := Lib.hid (fun W hW => by
      obtain ⟨a1, a2, a3, a4⟩ := hW 7 (by decide)
      rw [HG7.out] at a1 a3 a4
      have := rOrder_any g Y (L 7) W HYF.out a1 (by rw [a1]; exact HLEN.out 7 (by decide)) a3 a4
      rw [hl7] at this
      exact this)
     clear hG hY hl7
     have HSR : Hid (w1.heap.size + 1 ≤ wr.heap.size) := Lib.hid (lt_of_block hxb.out)
     go_wp2_with (first
      | (refine wpList_load_row rfl 37 (.tmp 2) rfl w.heap.size rfl _ _ _ _ hbx.out.box huh rfl (HSH.out _) ?_)
      | (refine wpList_load_row rfl 42 (.tmp 6) rfl w1.heap.size rfl _ _ _ _ hxb.out huO rfl (HSO.out _ HYF.out) ?_)
      | fail)
     refine (CP.out _ hbx.out.ht).mono ?_
     rintro e w9 ⟨hb9, A, n, cc, hl, hown, rfl⟩
     have HB9 := Lib.hid (hbx.out.below hb9)
     have HZ9 := Lib.hid ((hb9.block _ (lt_of_block hzb.out)).trans hzb.out)
     have HK9 : Hid (PutK 42 50 7 0 l7 g (g.set 7 A n cc) wr.heap.size w9) := Lib.hid (.inr ⟨rfl, A, n, cc, hl, hown, rfl⟩)
     have hz9 : (g.set 7 A n cc).z = g.z := rfl
     obtain ⟨q, hq⟩ : ∃ q, g.set 7 A n cc = q := ⟨_, rfl⟩
     rw [hq] at HK9 hz9 ⊢
     have HZQ := Lib.hid hz9
     clear hb9 hl hown hq hz9
     go_wp2_with (first
      | (refine wpList_store_row rfl 37 (.tmp 4) (.tmp 118) rfl (w.heap.size + 1) q.cells rfl rfl _ _ HZ9.out (HSH.out _) rfl (H1C.out _) ?_)
      | fail)
     exact bodyPost_ret (results_row_tmp rfl _ _ (w.heap.size + 1) _ _ _ _ rfl (setRow_heap _ _ _ _ _ _ HZ9.out) huh rfl (HSH.out _)) rfl (by
      rw [HE.out, HM.out]
      have hof9 : ∀ o, Off o h L → o < w1.heap.size + 1 → Off o q (setE 0 G 7 l7) := fun o h1 h2 => HK9.out.off (Nat.lt_of_lt_of_le h2 HSR.out) (hof.out o h1 h2)
      have ho1 := hof9 (w.heap.size + 1) (HOH.out _ (by omega)) (by have := HSW.out; omega)
      refine ⟨setRow_below HB9.out.bel (show w.heap.size ≤ w.heap.size + 1 by omega) _, q, rfl, ?_, by rw [HZQ.out]; exact hgz.out, fun _ => HK9.out.caps hbx.out.caps, fun o h1 h2 => ?_⟩
      · rw [setX_ok rfl]; exact (HK9.out.htl (by decide) HL7.out.1 HL7.out.2 HB9.out.ht).setRowOff ho1 _
      · rw [setX_ok rfl]; exact hof9 o h1 (by have := HSW.out; omega))
end Go.Proofs.YtlkmccmbpnbgbaaGreat
