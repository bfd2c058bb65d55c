/-
 CONTRACT of the reference's Drop. (By wip/tools/gen_aref.py.)
-/
import Derived.Test.YtlkmccmbpnbgbaaGreatRHold
import Derived.Test.YtlkmccmbpnbgbaaGreatKRel
import Derived.Test.YtlkmccmbpnbgbaaGreatKSum
import Derived.Test.YtlkmccmbpnbgbaaGreatAFilt
import Derived.Test.YtlkmccmbpnbgbaaGreatKOrder
import Derived.Test.YtlkmccmbpnbgbaaGreatOOrder
import Derived.Test.YtlkmccmbpnbgbaaGreatHAppK
import Derived.Test.YtlkmccmbpnbgbaaGreatJHead
import Derived.Deep.CutRange
import Derived.BigQuiet
namespace Go.Proofs.YtlkmccmbpnbgbaaGreat
set_option linter.unusedVariables false
open Go.RowKit
open Pl (firstG firstG_none firstG_some findG overG putG dropG It)

theorem begun_at {ls : List Value} {k : Nat} : ((List.range (k + 1)).any fun i => !(emp (lnAt ls i).item) && decide ((lnAt ls i).got ≠ 0)) = (((List.range k).any fun i => !(emp (lnAt ls i).item) && decide ((lnAt ls i).got ≠ 0)) || (!(emp (lnAt ls k).item) && decide ((lnAt ls k).got ≠ 0))) := any_snoc _ k
theorem task_snoc (s : ByteArray) (l : List (List Value)) {k : Nat} (hk : k < l.length) : (((l.take (k + 1)).filter (ofOrd s)).any taskB) = (((l.take k).filter (ofOrd s)).any taskB || (ofOrd s l[k] && taskB l[k])) := by
 rw [filt_snoc _ _ hk]
 cases h : ofOrd s l[k] with
 | true => rw [if_pos rfl, List.any_append]; simp
 | false => rw [if_neg (by simp)]; simp
theorem setE_same (L : HL) (i : Nat) : setE 0 L i (L i) = L := by
 funext j
 by_cases e : j = i
 · subst e; rw [setE_at rfl]
 · rw [setE_off rfl _ e]
theorem setE_twice (L : HL) (i : Nat) (a b : List (List Value)) : setE 0 (setE 0 L i a) i b = setE 0 L i b := by
 funext j
 by_cases e : j = i
 · subst e; rw [setE_at rfl, setE_at rfl]
 · rw [setE_off rfl _ e, setE_off rfl _ e, setE_off rfl _ e]
set_option maxRecDepth 100000 in
set_option maxHeartbeats 12800000 in
theorem rdrop (h : Hs) (L : HL) (s : ByteArray) (w : World) (hh : HT h L w) (hn : ∀ i, i < 14 → h.n i ≤ 1000) (hc : Caps h) :
 Calls Tryz.prog 22 #[.agg h.cells, .string s] w (HouseP (dropE L s) (dropM L s) h L w) := by
 obtain ⟨i0, z0, hi0, hz0, hz1, hz2, hz3⟩ := info_thing (P := Tryz.prog) (T := 46) (sz := 8) (by kernel_rfl)
 obtain ⟨i1, z1, hj0, hj1, hj2, hj3, hj4⟩ := info_thing (P := Tryz.prog) (T := 42) (sz := 50) (by kernel_rfl)
 have HBY : Hid (∀ m, m ≤ 200000 → m * i0.bytes ≤ 140737488355328) := Lib.hid (fun m hm => Nat.le_trans (Nat.mul_le_mul hm hz3) (by decide))
 have HBO : Hid (∀ m, m ≤ 200000 → m * i1.bytes ≤ 140737488355328) := Lib.hid (fun m hm => Nat.le_trans (Nat.mul_le_mul hm hj4) (by decide))
 clear hz3 hj4
 have HHT := Lib.hid hh
 have HOH : Hid (∀ g, w.heap.size ≤ g → Off g h L) := Lib.hid (fun g hg => hh.offge hg)
 have HLEN : Hid (∀ i, i < 14 → (L i).length ≤ 1000) := Lib.hid (fun i hi => by rw [← (hh i hi).1]; exact hn i hi)
 obtain ⟨X, hX⟩ : ∃ X, gotOrder (L 7) s = X := ⟨_, rfl⟩
 have HXF : Hid (Fits kOrder X) := Lib.hid (hX ▸ order_things hh s)
 obtain ⟨il, hil⟩ : ∃ z, (atOrder (L 7) s).isSome = z := ⟨_, rfl⟩
 have HXS : Hid (il = true → codeOf X = s) := Lib.hid (fun h1 => by rw [← hX]; exact gotOrder_code (hil.trans h1))
 obtain ⟨bg, hbg⟩ : ∃ z, begunX X = z := ⟨_, rfl⟩
 obtain ⟨CL, hCL⟩ : ∃ z, claimsL (L 8) s = z := ⟨_, rfl⟩
 obtain ⟨tk, htk⟩ : ∃ z, CL.any taskB = z := ⟨_, rfl⟩
 obtain ⟨cm, hcm⟩ : ∃ z, CL.length = z := ⟨_, rfl⟩
 obtain ⟨re, hre⟩ : ∃ z, relE CL L cm = z := ⟨_, rfl⟩
 obtain ⟨er, her⟩ : ∃ z, dropE L s = z := ⟨_, rfl⟩
 obtain ⟨M, hM⟩ : ∃ z, dropM L s = z := ⟨_, rfl⟩
 have HA : Hid (er = if il = false then 12 else if (bg || tk) = true then 13 else re) := Lib.hid (by rw [← her]; unfold dropE; rw [hil, hX, hbg, hCL, htk, hcm, hre])
 have HM : Hid (M = setE 0 (setE 0 (setE 0 L 4 (relM CL L cm 4)) 8 ((L 8).filter (fun e => !(ofOrd s e)))) 7 (dropG ordOrder (L 7) X)) := Lib.hid (by
  rw [← hM]
  unfold dropM
  rw [hX, ← rel_filter L s, hCL, hcm]
  congr 1
  funext j
  by_cases e8 : j = 8
  · subst e8; rw [setE_at rfl]
  · rw [setE_off rfl _ e8]
    by_cases e4 : j = 4
    · subst e4; rw [setE_at rfl]
    · rw [setE_off rfl _ e4]; exact rel_off _ _ e4 e8 _)
 have HCLD : Hid (CL = (L 8).filter (ofOrd s)) := Lib.hid hCL.symm
 have HREV : Hid (relE CL L cm = re ∧ CL.length = cm) := Lib.hid ⟨hre, hcm⟩
 have HTKV := Lib.hid htk
 have HCM : Hid (cm ≤ 1000) := Lib.hid (by rw [← hcm, ← hCL]; exact Nat.le_trans (List.length_filter_le _ _) (HLEN.out 8 (by decide)))
 have CF : Hid (∀ W, Below w.heap.size w W → Calls Tryz.prog 25 #[.agg h.cells, .string s] W fun e w' => e = .returned (.tuple #[.agg X.toArray, .bool il]) ∧ Below W.heap.size W w') := Lib.hid (fun W hW => by have := frOrder (hh.below hW) s; rw [hX, hil] at this; exact this)
 obtain ⟨ll, hll⟩ : ∃ z, oLines X = z := ⟨_, rfl⟩
 have HLV := Lib.hid hll
 have HLF : Hid (Fits kLine8 ll) := Lib.hid (by rw [← hll]; exact (order_parts HXF.out).2.2.1)
 have HBG : Hid (((List.range 8).any fun i => !(emp (lnAt ll i).item) && decide ((lnAt ll i).got ≠ 0)) = bg) := Lib.hid (by rw [← hbg, ← hll]; rfl)
 rw [her, hM]
 clear her hM hX hil hbg hCL htk hcm hre hll
 have huC := Tryz.underlying46
 have HSC8 : Hid ((Tryz.prog.info? 46).map (·.size) = some 8) := Lib.hid (by kernel_rfl)
 have huK := Tryz.underlying44
 have HSK4 : Hid ((Tryz.prog.info? 44).map (·.size) = some 4) := Lib.hid (by kernel_rfl)
 have HSO : Hid (∀ y, Fits kOrder y → (Tryz.prog.info? 42).map (·.size) = some y.toArray.size) := Lib.hid (fun y hy => by rw [show (Tryz.prog.info? 42).map (·.size) = some 50 from by kernel_rfl, List.size_toArray, hy.length]; rfl)
 have HSOL : Hid (∀ y, Fits kOrder y → (Tryz.prog.info? 42).map (·.size) = some y.length) := Lib.hid (fun y hy => by rw [show (Tryz.prog.info? 42).map (·.size) = some 50 from by kernel_rfl, hy.length]; rfl)
 have huO := Tryz.underlying42
 have HOO : Hid (∀ y, Fits kOrder y → (#[.string ⟨#[]⟩, .string ⟨#[]⟩, .string ⟨#[]⟩, .int .i64 0, .int .i64 0, .int .i64 0, .int .i64 0, .int .i64 0, .string ⟨#[]⟩, .int .i64 0, .int .i64 0, .int .i64 0, .int .i64 0, .int .i64 0, .string ⟨#[]⟩, .int .i64 0, .int .i64 0, .int .i64 0, .int .i64 0, .int .i64 0, .string ⟨#[]⟩, .int .i64 0, .int .i64 0, .int .i64 0, .int .i64 0, .int .i64 0, .string ⟨#[]⟩, .int .i64 0, .int .i64 0, .int .i64 0, .int .i64 0, .int .i64 0, .string ⟨#[]⟩, .int .i64 0, .int .i64 0, .int .i64 0, .int .i64 0, .int .i64 0, .string ⟨#[]⟩, .int .i64 0, .int .i64 0, .int .i64 0, .int .i64 0, .int .i64 0, .string ⟨#[]⟩, .int .i64 0, .int .i64 0, .int .i64 0, .int .i64 0, .int .i64 0] : Array Value).size = y.toArray.size) := Lib.hid (fun y hy => by rw [List.size_toArray, List.size_toArray, hy.length]; rfl)
 have HOC : Hid (∀ y, Fits kOrder y → y.toArray.all (·.oneCell') = true) := Lib.hid (fun y hy => all_oneCell_toArray (fits_one hy))
 obtain ⟨W0, hW0⟩ : ∃ W0, W0 = ((w.alloc (.cells h.cells 37)).alloc (.cells #[.slice none 0 0, .slice none 0 0, .slice none 0 0, .slice none 0 0, .slice none 0 0, .slice none 0 0, .slice none 0 0, .slice none 0 0, .slice none 0 0, .slice none 0 0, .slice none 0 0, .slice none 0 0, .slice none 0 0, .slice none 0 0, .int .i64 0] 37)) := ⟨_, rfl⟩
 have hb0 : Below w.heap.size w W0 := by rw [hW0]; exact ((Below.refl _ _).alloc (Nat.le_refl _) _).alloc (by simp <;> omega) _
 have hs0 : W0.heap.size = w.heap.size + 2 := by rw [hW0]; simp
 have HH : Hid (∀ W, Below W0.heap.size W0 W → W.heap[w.heap.size]? = some (.cells h.cells 37 (0, 0))) := Lib.hid (fun W hW => (hW.block _ (by omega)).trans (by
  rw [hW0]
  have hq := heap_alloc_new w (.cells h.cells 37)
  exact (Below.heap_alloc _ _ _ (by simp <;> omega)).trans ((by simpa using hq))))
 have HZ : Hid (∀ W, Below W0.heap.size W0 W → W.heap[w.heap.size + 1]? = some (.cells Hs.zero 37 (0, 0))) := Lib.hid (fun W hW => (hW.block _ (by omega)).trans (by
  rw [hW0]
  have hq := heap_alloc_new (w.alloc (.cells h.cells 37)) (.cells #[.slice none 0 0, .slice none 0 0, .slice none 0 0, .slice none 0 0, .slice none 0 0, .slice none 0 0, .slice none 0 0, .slice none 0 0, .slice none 0 0, .slice none 0 0, .slice none 0 0, .slice none 0 0, .slice none 0 0, .slice none 0 0, .int .i64 0] 37)
  exact (by simpa [Hs.zero] using hq)))
 have HBW : Hid (∀ W, Below W0.heap.size W0 W → Below w.heap.size w W ∧ w.heap.size + 2 ≤ W.heap.size) := Lib.hid (fun W hW => ⟨hb0.trans (hW.mono (by omega)), by have := hW.size; omega⟩)
 have huh := Tryz.underlying37
 have HSH : Hid (∀ a : Hs, (Tryz.prog.info? 37).map (·.size) = some a.cells.size) := Lib.hid (fun a => by kernel_rfl)
 have HSQ : Hid ((Tryz.prog.info? 37).map (·.size) = some Hs.zero.size) := Lib.hid (by kernel_rfl)
 have H1C : Hid (∀ a : Hs, a.cells.all (·.oneCell') = true) := Lib.hid (fun a => by simp [Hs.cells, Value.oneCell'])
 have H1Q : Hid (Hs.zero.all (·.oneCell') = true) := Lib.hid (by simp [Hs.zero, Value.oneCell'])
 have HB0 : Hid (HBox w h L W0) := Lib.hid ⟨hh.below hb0, hc, HOH.out _ (Nat.le_refl _), HH.out W0 (Below.refl _ _), hb0, by omega⟩
 have H0 := Lib.hid (Below.refl W0.heap.size W0)
 clear hb0 hs0 hh hn hc
 subst hW0
 go_enter Tryz.func22, Tryz.ntmps22
 go_wp2_with (first
  | (refine wpList_load_row rfl 37 (.tmp 2) rfl w.heap.size rfl _ _ _ _ (HH.out _ H0.out) huh rfl (HSH.out _) ?_)
  | fail)
 refine (CF.out _ (HBW.out _ H0.out).1).mono ?_
 rintro e w1 ⟨rfl, hb9⟩
 have HPH1 := Lib.hid (H0.out.trans (hb9.mono H0.out.size))
 clear hb9
 have HBXH1 : Hid ((w1.alloc (.cells #[.string ⟨#[]⟩, .string ⟨#[]⟩, .string ⟨#[]⟩, .int .i64 0, .int .i64 0, .int .i64 0, .int .i64 0, .int .i64 0, .string ⟨#[]⟩, .int .i64 0, .int .i64 0, .int .i64 0, .int .i64 0, .int .i64 0, .string ⟨#[]⟩, .int .i64 0, .int .i64 0, .int .i64 0, .int .i64 0, .int .i64 0, .string ⟨#[]⟩, .int .i64 0, .int .i64 0, .int .i64 0, .int .i64 0, .int .i64 0, .string ⟨#[]⟩, .int .i64 0, .int .i64 0, .int .i64 0, .int .i64 0, .int .i64 0, .string ⟨#[]⟩, .int .i64 0, .int .i64 0, .int .i64 0, .int .i64 0, .int .i64 0, .string ⟨#[]⟩, .int .i64 0, .int .i64 0, .int .i64 0, .int .i64 0, .int .i64 0, .string ⟨#[]⟩, .int .i64 0, .int .i64 0, .int .i64 0, .int .i64 0, .int .i64 0] 42)).heap[w1.heap.size]? = some (.cells #[.string ⟨#[]⟩, .string ⟨#[]⟩, .string ⟨#[]⟩, .int .i64 0, .int .i64 0, .int .i64 0, .int .i64 0, .int .i64 0, .string ⟨#[]⟩, .int .i64 0, .int .i64 0, .int .i64 0, .int .i64 0, .int .i64 0, .string ⟨#[]⟩, .int .i64 0, .int .i64 0, .int .i64 0, .int .i64 0, .int .i64 0, .string ⟨#[]⟩, .int .i64 0, .int .i64 0, .int .i64 0, .int .i64 0, .int .i64 0, .string ⟨#[]⟩, .int .i64 0, .int .i64 0, .int .i64 0, .int .i64 0, .int .i64 0, .string ⟨#[]⟩, .int .i64 0, .int .i64 0, .int .i64 0, .int .i64 0, .int .i64 0, .string ⟨#[]⟩, .int .i64 0, .int .i64 0, .int .i64 0, .int .i64 0, .int .i64 0, .string ⟨#[]⟩, .int .i64 0, .int .i64 0, .int .i64 0, .int .i64 0, .int .i64 0] 42 (0, 0))) := Lib.hid (heap_alloc_new _ _)
 obtain ⟨w1b, hw1b⟩ : ∃ W, W = (w1.alloc (.cells #[.string ⟨#[]⟩, .string ⟨#[]⟩, .string ⟨#[]⟩, .int .i64 0, .int .i64 0, .int .i64 0, .int .i64 0, .int .i64 0, .string ⟨#[]⟩, .int .i64 0, .int .i64 0, .int .i64 0, .int .i64 0, .int .i64 0, .string ⟨#[]⟩, .int .i64 0, .int .i64 0, .int .i64 0, .int .i64 0, .int .i64 0, .string ⟨#[]⟩, .int .i64 0, .int .i64 0, .int .i64 0, .int .i64 0, .int .i64 0, .string ⟨#[]⟩, .int .i64 0, .int .i64 0, .int .i64 0, .int .i64 0, .int .i64 0, .string ⟨#[]⟩, .int .i64 0, .int .i64 0, .int .i64 0, .int .i64 0, .int .i64 0, .string ⟨#[]⟩, .int .i64 0, .int .i64 0, .int .i64 0, .int .i64 0, .int .i64 0, .string ⟨#[]⟩, .int .i64 0, .int .i64 0, .int .i64 0, .int .i64 0, .int .i64 0] 42)).setRow w1.heap.size X.toArray := ⟨_, rfl⟩
 have H1 : Hid (Below ((w.alloc (.cells h.cells 37)).alloc (.cells #[.slice none 0 0, .slice none 0 0, .slice none 0 0, .slice none 0 0, .slice none 0 0, .slice none 0 0, .slice none 0 0, .slice none 0 0, .slice none 0 0, .slice none 0 0, .slice none 0 0, .slice none 0 0, .slice none 0 0, .slice none 0 0, .int .i64 0] 37)).heap.size ((w.alloc (.cells h.cells 37)).alloc (.cells #[.slice none 0 0, .slice none 0 0, .slice none 0 0, .slice none 0 0, .slice none 0 0, .slice none 0 0, .slice none 0 0, .slice none 0 0, .slice none 0 0, .slice none 0 0, .slice none 0 0, .slice none 0 0, .slice none 0 0, .slice none 0 0, .int .i64 0] 37)) w1b) := Lib.hid (by rw [hw1b]; exact setRow_below (HPH1.out.alloc HPH1.out.size _) HPH1.out.size _)
 have HRH1 : Hid (w1b.heap[w1.heap.size]? = some (.cells X.toArray 42 (0, 0))) := Lib.hid (by rw [hw1b]; exact setRow_heap _ _ _ _ _ _ HBXH1.out)
 have HWH1 := Lib.hid hw1b
 clear hw1b
 cases il with
 | false =>
  have HE : Hid (er = 12) := Lib.hid (by rw [HA.out]; rfl)
  go_wp2_with (first
   | (refine wpList_store_row rfl 42 (.tmp 6) (.tmp 22) rfl w1.heap.size X.toArray rfl rfl _ _ HBXH1.out (HSO.out _ HXF.out) (HOO.out _ HXF.out) (HOC.out _ HXF.out) ?_; rw [← HWH1.out])
   | (refine wpList_store_row rfl 37 (.tmp 4) (.tmp 26) rfl (w.heap.size + 1) Hs.zero rfl rfl _ _ (HZ.out _ H1.out) HSQ.out rfl H1Q.out ?_)
   | fail)
  exact bodyPost_ret (results_row_tmp rfl _ _ (w.heap.size + 1) _ _ _ _ rfl (setRow_heap _ _ _ _ _ _ (HZ.out _ H1.out)) huh rfl HSQ.out) rfl (by
   have hne : er ≠ 0 := by rw [HE.out]; decide
   rw [HE.out] at hne ⊢
   exact HouseP.bad hne (setRow_below (HBW.out _ H1.out).1 (show w.heap.size ≤ w.heap.size + 1 by omega) Hs.zero))
 | true =>
  have HA2 : Hid (er = if (bg || tk) = true then 13 else re) := Lib.hid (by rw [HA.out]; rfl)
  have HCX : Hid (codeOf X = s) := Lib.hid (HXS.out rfl)
  have HSW : Hid (w.heap.size + 2 ≤ w1.heap.size) := Lib.hid (HBW.out _ HPH1.out).2
  have HS1B : Hid (w1.heap.size + 1 ≤ w1b.heap.size) := Lib.hid (lt_of_block HRH1.out)
  have HB1 : Hid (HBox w h L w1b) := Lib.hid (HB0.out.below H1.out)
  have HZ1 := Lib.hid (HZ.out _ H1.out)
  clear HXS
  go_upto_region 4 with (first
   | (refine wpList_store_row rfl 42 (.tmp 6) (.tmp 22) rfl w1.heap.size X.toArray rfl rfl _ _ HBXH1.out (HSO.out _ HXF.out) (HOO.out _ HXF.out) (HOC.out _ HXF.out) ?_; rw [← HWH1.out])
   | fail)
  go_upto_region 5 with fail
  go_loopw [8] (fun iv wr => ∃ k : Nat, k ≤ 8 ∧ iv = .int .i64 (k : Int) ∧ Hid (((List.range k).any fun i => !(emp (lnAt ll i).item) && decide ((lnAt ll i).got ≠ 0)) = false) ∧ Hid (Below w1b.heap.size w1b wr)) (fun iv _ => 8 - (intOf iv).toNat)
  case atStart => exact ⟨0, by omega, rfl, Lib.hid rfl, Lib.hid (Below.refl _ _)⟩
  case round =>
   obtain ⟨k, hk, rfl, hno, hw⟩ := hrel
   by_cases hlt : k < 8
   · obtain ⟨⟨xi, xa, xg, xb, xp, xo⟩, hx⟩ : ∃ x, lnAt ll k = x := ⟨_, rfl⟩
     have HOB := Lib.hid ((hw.out.block _ (lt_of_block HRH1.out)).trans HRH1.out)
     have hr := (corder_box HOB.out HXF.out).2.2.1
     rw [HLV.out] at hr
     have hr2 := line_at HLF.out hr hlt
     rw [hx] at hr2
     have z0' : wr.cell? ⟨w1.heap.size, 2 + k * 6, none⟩ = some (.string xi) := by have := hr2 0 (.string xi) rfl; simpa using this
     have z2' : wr.cell? ⟨w1.heap.size, 2 + k * 6 + 2, none⟩ = some (.int .i64 xg) := hr2 2 (.int .i64 xg) rfl
     have zlt := lt_of_block HOB.out
     have hbe := begun_at (ls := ll) (k := k)
     rw [hno.out, hx, Bool.false_or] at hbe
     have HBE := Lib.hid hbe
     have HEND : Hid (((List.range (k + 1)).any fun i => !(emp (lnAt ll i).item) && decide ((lnAt ll i).got ≠ 0)) = true → bg = true) := Lib.hid (fun h1 => by
      rw [← HBG.out]
      obtain ⟨i, hi, hp⟩ := List.any_eq_true.1 h1
      exact List.any_eq_true.2 ⟨i, List.mem_range.2 (by have := List.mem_range.1 hi; omega), hp⟩)
     have h1 : (0 : Int) ≤ (k : Int) := by omega
     have h2 : (k : Int) < 8 := by omega
     clear hr hr2 hx hbe
     cases he : emp xi with
     | true =>
      have he' : xi.toList.isEmpty = true := he
      have HEE := Lib.hid he
      clear he
      have HV : Hid (((List.range (k + 1)).any fun i => !(emp (lnAt ll i).item) && decide ((lnAt ll i).got ≠ 0)) = false) := Lib.hid (by rw [HBE.out]; simp only []; rw [HEE.out]; rfl)
      go_wp2_with fail
      go_roundw
      case rel => exact ⟨k + 1, by omega, by go_num, HV, hw⟩
      case measure => simp [intOf]; omega
     | false =>
      have he' : xi.toList.isEmpty = false := he
      have HEE := Lib.hid he
      clear he
      by_cases q1 : xg = 0
      · have b1 : (xg != 0) = false := by simpa using q1
        have HQ : Hid (decide (xg ≠ 0) = false) := Lib.hid (by simpa using q1)
        clear q1
        have HV : Hid (((List.range (k + 1)).any fun i => !(emp (lnAt ll i).item) && decide ((lnAt ll i).got ≠ 0)) = false) := Lib.hid (by rw [HBE.out]; simp only []; rw [HEE.out, HQ.out]; rfl)
        go_wp2_with fail
        go_roundw
        case rel => exact ⟨k + 1, by omega, by go_num, HV, hw⟩
        case measure => simp [intOf]; omega
      · have b1 : (xg != 0) = true := by simpa using q1
        have HQ : Hid (decide (xg ≠ 0) = true) := Lib.hid (by simpa using q1)
        clear q1
        have HE : Hid (er = 13) := Lib.hid (by rw [HA2.out, HEND.out (by rw [HBE.out]; simp only []; rw [HEE.out, HQ.out]; rfl)]; rfl)
        have HZR := Lib.hid ((hw.out.block _ (lt_of_block HZ1.out)).trans HZ1.out)
        have HBR : Hid (Below w.heap.size w wr) := Lib.hid (HB1.out.bel.trans (hw.out.mono HB1.out.bel.size))
        go_wp2_with (first
         | (refine wpList_store_row rfl 37 (.tmp 4) (.tmp 45) rfl (w.heap.size + 1) Hs.zero rfl rfl _ _ HZR.out HSQ.out rfl H1Q.out ?_)
         | fail)
        exact bodyPost_ret (results_row_tmp rfl _ _ (w.heap.size + 1) _ _ _ _ rfl (setRow_heap _ _ _ _ _ _ HZR.out) huh rfl HSQ.out) rfl (by
         have hne : er ≠ 0 := by rw [HE.out]; decide
         rw [HE.out] at hne ⊢
         exact HouseP.bad hne (setRow_below HBR.out (show w.heap.size ≤ w.heap.size + 1 by omega) Hs.zero))
   · have hk8 : k = 8 := by omega
     subst hk8
     have HBG0 : Hid (bg = false) := Lib.hid (by rw [← HBG.out]; exact hno.out)
     have HA3 : Hid (er = if tk = true then 13 else re) := Lib.hid (by rw [HA2.out, HBG0.out, Bool.false_or])
     have HOB := Lib.hid ((hw.out.block _ (lt_of_block HRH1.out)).trans HRH1.out)
     have HZ2 := Lib.hid ((hw.out.block _ (lt_of_block HZ1.out)).trans HZ1.out)
     have HB2 := Lib.hid (HB1.out.below hw.out)
     obtain ⟨w2, hw2⟩ : ∃ W, W = wr := ⟨_, rfl⟩
     rw [← hw2] at HOB HZ2 HB2 ⊢
     clear hw2 hno hw hlt hk
     obtain ⟨m, hmm⟩ : ∃ m, h.n 8 = m := ⟨_, rfl⟩
     have HNM : Hid (m = (L 8).length) := Lib.hid (by rw [← hmm]; exact (HHT.out 8 (by decide)).1)
     have hm9 : m ≤ 1000 := by rw [HNM.out]; exact HLEN.out 8 (by decide)
     have HMM := Lib.hid hmm
     clear hmm
     have d8 : ∀ W, Below w2.heap.size w2 W → W.cell? ⟨w.heap.size, 8, none⟩ = some (.slice (h.A 8) m (h.c 8)) ∧ w.heap.size < W.heap.size := fun W hW => by
      have hb := (hW.block _ (lt_of_block HB2.out.box)).trans HB2.out.box
      exact ⟨by rw [cell_of_block hb, ← HMM.out]; rfl, lt_of_block hb⟩
     have HD8 := Lib.hid d8
     clear d8
     go_upto_region 11 with fail
     go_loopw [10] (fun iv wr => ∃ k : Nat, k ≤ m ∧ iv = .int .i64 (k : Int) ∧ Hid ((((L 8).take k).filter (ofOrd s)).any taskB = false) ∧ Hid (Below w2.heap.size w2 wr)) (fun iv _ => m - (intOf iv).toNat)
     case atStart => exact ⟨0, by omega, rfl, Lib.hid rfl, Lib.hid (Below.refl _ _)⟩
     case round =>
      obtain ⟨k, hk, rfl, hno, hw⟩ := hrel
      obtain ⟨d8, dlt⟩ := HD8.out _ hw.out
      by_cases hlt : k < m
      · have hkl : k < (L 8).length := by rw [← HNM.out]; exact hlt
        have HTR : HT h L wr := HB2.out.ht.below hw.out
        obtain ⟨b, off, hA, hb, r1⟩ := claim_at HTR hkl
        have htn := task_snoc s (L 8) hkl
        rw [hno.out, Bool.false_or] at htn
        obtain ⟨e8, he8⟩ : ∃ e, (L 8)[k] = e := ⟨_, rfl⟩
        rw [he8] at r1 htn
        obtain ⟨⟨yo, yn, yb, yi, yl, ys, yq, yt⟩, hq⟩ : ∃ q, clOf e8 = q := ⟨_, rfl⟩
        rw [hq] at r1
        unfold Cl.cells at r1
        have hof : ofOrd s e8 = Pl.eqv yo s := by unfold ofOrd; rw [hq]
        have hta : taskB e8 = decide (yt ≠ 0) := by unfold taskB; rw [hq]
        rw [hof, hta] at htn
        have z0' : wr.cell? ⟨b, off + k * 8, none⟩ = some (.string yo) := by have := r1 0 _ rfl; simpa using this
        have z7' : wr.cell? ⟨b, off + k * 8 + 7, none⟩ = some (.int .i64 yt) := r1 7 _ rfl
        rw [hA] at d8
        have HTN := Lib.hid htn
        have HEND : Hid ((((L 8).take (k + 1)).filter (ofOrd s)).any taskB = true → tk = true) := Lib.hid (fun h1 => by
         rw [← HTKV.out, HCLD.out]
         obtain ⟨e, he, hp⟩ := List.any_eq_true.1 h1
         obtain ⟨h3, h4⟩ := List.mem_filter.1 he
         exact List.any_eq_true.2 ⟨e, List.mem_filter.2 ⟨List.mem_of_mem_take h3, h4⟩, hp⟩)
        have h1 : (0 : Int) ≤ (k : Int) := by omega
        have h2 : (k : Int) < (m : Int) := by omega
        clear r1 htn hof hta hq he8 hkl HTR hA
        cases he : Pl.eqv yo s with
        | false =>
         have f1 : (yo.toList == s.toList) = false := he
         have HEE := Lib.hid he
         clear he
         have HV : Hid ((((L 8).take (k + 1)).filter (ofOrd s)).any taskB = false) := Lib.hid (by rw [HTN.out, HEE.out]; rfl)
         go_wp2_with fail
         go_roundw
         case rel => exact ⟨k + 1, by omega, by go_num, HV, hw⟩
         case measure => simp [intOf]; omega
        | true =>
         have f1 : (yo.toList == s.toList) = true := he
         have HEE := Lib.hid he
         clear he
         by_cases q1 : yt = 0
         · have b1 : (yt != 0) = false := by simpa using q1
           have HQ : Hid (decide (yt ≠ 0) = false) := Lib.hid (by simpa using q1)
           clear q1
           have HV : Hid ((((L 8).take (k + 1)).filter (ofOrd s)).any taskB = false) := Lib.hid (by rw [HTN.out, HEE.out, HQ.out]; rfl)
           go_wp2_with fail
           go_roundw
           case rel => exact ⟨k + 1, by omega, by go_num, HV, hw⟩
           case measure => simp [intOf]; omega
         · have b1 : (yt != 0) = true := by simpa using q1
           have HQ : Hid (decide (yt ≠ 0) = true) := Lib.hid (by simpa using q1)
           clear q1
           have HE : Hid (er = 13) := Lib.hid (by rw [HA3.out, HEND.out (by rw [HTN.out, HEE.out, HQ.out]; rfl)]; rfl)
           have HZR := Lib.hid ((hw.out.block _ (lt_of_block HZ2.out)).trans HZ2.out)
           have HBR : Hid (Below w.heap.size w wr) := Lib.hid (HB2.out.bel.trans (hw.out.mono HB2.out.bel.size))
           go_wp2_with (first
            | (refine wpList_store_row rfl 37 (.tmp 4) (.tmp 70) rfl (w.heap.size + 1) Hs.zero rfl rfl _ _ HZR.out HSQ.out rfl H1Q.out ?_)
            | fail)
           exact bodyPost_ret (results_row_tmp rfl _ _ (w.heap.size + 1) _ _ _ _ rfl (setRow_heap _ _ _ _ _ _ HZR.out) huh rfl HSQ.out) rfl (by
            have hne : er ≠ 0 := by rw [HE.out]; decide
            rw [HE.out] at hne ⊢
            exact HouseP.bad hne (setRow_below HBR.out (show w.heap.size ≤ w.heap.size + 1 by omega) Hs.zero))
      · have hkm : k = m := by omega
        have hno2 := hno.out
        rw [List.take_of_length_le (by rw [← HNM.out]; omega), ← HCLD.out, HTKV.out] at hno2
        have HA4 : Hid (er = re) := Lib.hid (by rw [HA3.out, hno2]; rfl)
        have HOB3 := Lib.hid ((hw.out.block _ (lt_of_block HOB.out)).trans HOB.out)
        have HZ3 := Lib.hid ((hw.out.block _ (lt_of_block HZ2.out)).trans HZ2.out)
        have HB3 := Lib.hid (HB2.out.below hw.out)
        clear hno2 hno hw
        go_upto_region 16 with fail
        clear d8 dlt hlt hk hkm
        obtain ⟨w3, hw3⟩ : ∃ W, W = wr := ⟨_, rfl⟩
        rw [← hw3] at HOB3 HZ3 HB3 ⊢
        clear hw3
        have HB3S : Hid (w.heap.size + 2 ≤ w3.heap.size) := Lib.hid (lt_of_block HZ3.out)
        have hst : setE 0 L 4 (relM CL L 0 4) = L := setE_same L 4
        go_loopw [9, 11] (fun rv iv wr => ∃ (k n c : Nat) (A : Option Addr) (g : Hs), k ≤ m ∧ rv = .slice A n c ∧ iv = .int .i64 (k : Int) ∧ Hid (n = (((L 8).take k).filter (fun e => !(ofOrd s e))).length) ∧ Hid (wr.ownsRow w3.heap.size 46 8 (.slice A n c) n (((L 8).take k).filter (fun e => !(ofOrd s e))).flatten) ∧ Hid (relE CL L (((L 8).take k).filter (ofOrd s)).length = 0) ∧ Hid (HBox w g (setE 0 L 4 (relM CL L (((L 8).take k).filter (ofOrd s)).length 4)) wr) ∧ Hid (g.z = h.z) ∧ Hid (wr.heap[w.heap.size + 1]? = some (.cells Hs.zero 37 (0, 0))) ∧ Hid (w3.heap.size ≤ wr.heap.size) ∧ Hid (∀ o, Off o h L → o < w3.heap.size → Off o g (setE 0 L 4 (relM CL L (((L 8).take k).filter (ofOrd s)).length 4))) ∧ Hid (∀ q, (Value.slice A n c).ownBlock = some q → Off q g (setE 0 L 4 (relM CL L (((L 8).take k).filter (ofOrd s)).length 4)))) (fun _ iv _ => m - (intOf iv).toNat)
        case atStart => exact ⟨0, 0, 0, none, h, by omega, rfl, rfl, Lib.hid rfl, Lib.hid (World.ownsRow_nil _ _ _ _), Lib.hid rfl, Lib.hid (by show HBox w h (setE 0 L 4 (relM CL L 0 4)) w3; rw [hst]; exact HB3.out), Lib.hid rfl, HZ3, Lib.hid (Nat.le_refl _), Lib.hid (fun o h1 _ => by show Off o h (setE 0 L 4 (relM CL L 0 4)); rw [hst]; exact h1), Lib.hid (fun q hq => by simp [Value.ownBlock] at hq)⟩
        case round =>
         obtain ⟨k, n, c, A, g, hk, rfl, rfl, hn, hown, hE0, hbx, hgz, hzb, hsz, hof, hra⟩ := hrel
         clear hst
         obtain ⟨G, hG⟩ : ∃ G, setE 0 L 4 (relM CL L (((L 8).take k).filter (ofOrd s)).length 4) = G := ⟨_, rfl⟩
         rw [hG] at hbx hof hra
         have HG8 : Hid (G 8 = L 8) := Lib.hid (by rw [← hG]; exact setE_off rfl _ (by decide) _)
         have HN8 : Hid (g.n 8 = m) := Lib.hid (by rw [(hbx.out.ht 8 (by decide)).1, HG8.out]; exact HNM.out.symm)
         have d8 : wr.cell? ⟨w.heap.size, 8, none⟩ = some (.slice (g.A 8) m (g.c 8)) := by rw [cell_of_block hbx.out.box, ← HN8.out]; rfl
         have dlt : w.heap.size < wr.heap.size := lt_of_block hbx.out.box
         by_cases hlt : k < m
         · have hkl : k < (L 8).length := by rw [← HNM.out]; exact hlt
           obtain ⟨b, off, hA, hb, r1⟩ := claim_at hbx.out.ht (k := k) (by rw [HG8.out]; exact hkl)
           have hfn := filt_snoc (fun e => !(ofOrd s e)) (L 8) hkl
           have hff := filt_snoc (ofOrd s) (L 8) hkl
           have hfa : ofOrd s (L 8)[k] = true → _ := filt_at (L 8) hkl
           have hge : (G 8)[k]'(by rw [HG8.out]; exact hkl) = (L 8)[k] := by simp only [HG8.out]
           rw [hge] at r1
           have fx8 : Fits kClaim (L 8)[k] := (HHT.out 8 (by decide)).2.2.1 _ (List.getElem_mem hkl)
           obtain ⟨e8, he8⟩ : ∃ e, (L 8)[k] = e := ⟨_, rfl⟩
           rw [he8] at r1 hfn hff hfa fx8
           have hcell := cl_cells fx8
           obtain ⟨⟨yo, yn, yb, yi, yl, ys, yq, yt⟩, hq⟩ : ∃ q, clOf e8 = q := ⟨_, rfl⟩
           rw [hq] at r1 hcell
           unfold Cl.cells at r1 hcell
           simp only [] at r1 hcell
           have hofo : ofOrd s e8 = Pl.eqv yo s := by unfold ofOrd; rw [hq]
           obtain ⟨j, hj⟩ : ∃ j, (((L 8).take k).filter (ofOrd s)).length = j := ⟨_, rfl⟩
           have hkf := filt_le2 (fun e => !(ofOrd s e)) (L 8) k
           rw [hj] at hE0 hG hfa
           rw [← HCLD.out] at hfa
           have HN1 : Hid (Pl.eqv yo s = false → (((L 8).take (k + 1)).filter (fun e => !(ofOrd s e))) = (((L 8).take k).filter (fun e => !(ofOrd s e))) ++ [[.string yo, .int .i64 yn, .string yb, .string yi, .string yl, .int .i64 ys, .int .i64 yq, .int .i64 yt]] ∧ (((L 8).take (k + 1)).filter (ofOrd s)).length = j) := Lib.hid (fun h0 => ⟨by rw [hfn, if_pos (by rw [hofo, h0]; rfl), hcell], by rw [hff, if_neg (by rw [hofo, h0]; simp), hj]⟩)
           have HN2 : Hid (Pl.eqv yo s = true → (((L 8).take (k + 1)).filter (fun e => !(ofOrd s e))) = (((L 8).take k).filter (fun e => !(ofOrd s e))) ∧ (((L 8).take (k + 1)).filter (ofOrd s)).length = j + 1 ∧ relE CL L (j + 1) = holdE (G 4) (Ky.mk yb yi yl ys) (wrap64 (-yq)) ∧ relM CL L (j + 1) 4 = holdL (G 4) (Ky.mk yb yi yl ys) (wrap64 (-yq)) ∧ j < CL.length) := Lib.hid (fun h0 => by
            have h1 := hfa (hofo.trans h0)
            have hq4 : G 4 = relM CL L j 4 := by rw [← hG]; exact setE_at rfl _ _ _
            refine ⟨by rw [hfn, if_neg (by rw [hofo, h0]; simp)], by rw [hff, if_pos (hofo.trans h0), List.length_append, hj]; rfl, ?_, ?_, h1.2⟩
            · rw [show relE CL L (j + 1) = _ from firstE_one hE0.out, h1.1, hq, hq4]; rfl
            · rw [relM_succ, setE_off rfl _ (by decide), setE_at rfl, h1.1, hq, hq4]; rfl)
           have HG4 : Hid ((G 4).length ≤ 1000) := Lib.hid (by rw [← hG, setE_at rfl]; exact Nat.le_trans (rel_len CL L j hE0.out).1 (HLEN.out 4 (by decide)))
           have HGD := Lib.hid hG
           have HRE : Hid (wr.rangeAt b (off + k * 8) [.string yo, .int .i64 yn, .string yb, .string yi, .string yl, .int .i64 ys, .int .i64 yq, .int .i64 yt]) := Lib.hid r1
           have HNV := Lib.hid hn.out
           have hn9 : n ≤ 1000 := by rw [hn.out]; omega
           have h1 : (0 : Int) ≤ (k : Int) := by omega
           have h2 : (k : Int) < (m : Int) := by omega
           rw [hA] at d8
           clear r1 hge hfn hff hfa fx8 hcell hq hofo hj hkf hG hkl hA he8
           obtain ⟨w4, hw4⟩ : ∃ W, W = wr.alloc (.cells #[.string yo, .int .i64 yn, .string yb, .string yi, .string yl, .int .i64 ys, .int .i64 yq, .int .i64 yt] 46) := ⟨_, rfl⟩
           have hb4 : Below wr.heap.size wr w4 := by rw [hw4]; exact (Below.refl _ _).alloc (Nat.le_refl _) _
           have HB4 := Lib.hid (hbx.out.below hb4)
           have HZ4 := Lib.hid ((hb4.block _ (lt_of_block hzb.out)).trans hzb.out)
           have HC4 : Hid (w4.heap[wr.heap.size]? = some (.cells #[.string yo, .int .i64 yn, .string yb, .string yi, .string yl, .int .i64 ys, .int .i64 yq, .int .i64 yt] 46 (0, 0))) := Lib.hid (by rw [hw4]; exact heap_alloc_new _ _)
           have HOW4 : Hid (w4.ownsRow w3.heap.size 46 8 (.slice A n c) n (((L 8).take k).filter (fun e => !(ofOrd s e))).flatten) := Lib.hid (own_below hown.out hb4)
           have HS4 : Hid (wr.heap.size < w4.heap.size) := Lib.hid (lt_of_block HC4.out)
           have HW4 := Lib.hid hw4
           clear hb4 hw4
           go_upto_region 19 with (first
            | (refine wpList_load_mid rfl 46 (.tmp 81) rfl b (off + k * 8) rfl [.string yo, .int .i64 yn, .string yb, .string yi, .string yl, .int .i64 ys, .int .i64 yq, .int .i64 yt] _ HRE.out huC rfl HSC8.out ?_)
            | fail)
           rw [← HW4.out]
           clear d8 dlt
           have y0' : w4.cell? ⟨wr.heap.size, 0, none⟩ = some (.string yo) := by rw [cell_of_block HC4.out]; rfl
           have y6' : w4.cell? ⟨wr.heap.size, 6, none⟩ = some (.int .i64 yq) := by rw [cell_of_block HC4.out]; rfl
           have ylt := lt_of_block HC4.out
           cases he : Pl.eqv yo s with
           | false =>
            have f1 : (yo.toList == s.toList) = false := he
            obtain ⟨v1, v2⟩ := HN1.out he
            have V1 := Lib.hid v1
            have V2 := Lib.hid v2
            clear he v1 v2
            have HG3 : Hid (w3.heap.size ≤ (w4.alloc (.cells #[.string yo, .int .i64 yn, .string yb, .string yi, .string yl, .int .i64 ys, .int .i64 yq, .int .i64 yt] 46)).heap.size) := Lib.hid (by have := hsz.out; have := HS4.out; simp; omega)
            have HE1 : Hid (∀ u ∈ ([.string yo, .int .i64 yn, .string yb, .string yi, .string yl, .int .i64 ys, .int .i64 yq, .int .i64 yt] : List Value), u.oneCell' = true) := Lib.hid (by simp [Value.oneCell'])
            go_wp2_with (first
             | (refine wpList_load_row rfl 46 (.tmp 12) rfl wr.heap.size rfl _ _ _ _ HC4.out huC rfl HSC8.out ?_)
             | (refine wpList_buildOne rfl _ 46 _ rfl w4.heap.size rfl _ rfl i0 z0 8 Tryz.underlying30 hi0 hz0 hz1 (by decide) (by decide) [.string yo, .int .i64 yn, .string yb, .string yi, .string yl, .int .i64 ys, .int .i64 yq, .int .i64 yt] (by rfl) rfl ?_)
             | (at_builtin; refine wpList_appO rfl (.tmp 87) (.tmp 89) _ rfl w3.heap.size 46 i0 z0 8 i0.bytes Tryz.underlying30 hi0 hz0 hz1 rfl hz2 (by decide) A n c _ rfl (HOW4.out.alloc _) (w4.heap.size + 1) ⟨w4.heap.size, 0, none⟩ 1 1 [.string yo, .int .i64 yn, .string yb, .string yi, .string yl, .int .i64 ys, .int .i64 yq, .int .i64 yt] rfl rfl (Nat.succ_pos _) (rd_one w4 [.string yo, .int .i64 yn, .string yb, .string yi, .string yl, .int .i64 ys, .int .i64 yq, .int .i64 yt] _) HE1.out (by simp only [maxLen]; omega) (HBY.out _ (by omega)) HG3.out ?_; intro A5 c5 w5 hown5 hb5 hkp5 hob5; have HO5 := Lib.hid hown5; have HB5 := Lib.hid hb5; have HK5 := Lib.hid hkp5; have HQ5 := Lib.hid hob5; clear hown5 hb5 hkp5 hob5)
             | fail)
            have HSA : Hid ((w4.alloc (.cells #[.string yo, .int .i64 yn, .string yb, .string yi, .string yl, .int .i64 ys, .int .i64 yq, .int .i64 yt] 46)).heap.size = w4.heap.size + 1) := Lib.hid (by simp)
            have HTA : Hid (HT g G (w4.alloc (.cells #[.string yo, .int .i64 yn, .string yb, .string yi, .string yl, .int .i64 ys, .int .i64 yq, .int .i64 yt] 46))) := Lib.hid (HB4.out.ht.below ((Below.refl _ _).alloc (Nat.le_refl _) _))
            have HS5 : Hid (w4.heap.size + 1 ≤ w5.heap.size) := Lib.hid (by rw [← HSA.out]; exact HB5.out.size)
            have HKP : Hid (∀ q, q < w3.heap.size → w5.heap[q]? = w4.heap[q]?) := Lib.hid (fun q hq => (HK5.out q (by have := HSA.out; have := hsz.out; have := HS4.out; omega) (fun e => by have := own_base hown.out q e; omega)).trans (Below.heap_alloc _ _ _ (by have := hsz.out; have := HS4.out; omega)))
            have HB6 : Hid (HBox w g G w5) := Lib.hid ⟨HTA.out.kept HK5.out (by have := HS5.out; have := HSA.out; omega) hra.out, HB4.out.caps, HB4.out.off, (HKP.out _ (by have := HB3S.out; omega)).trans HB4.out.box, (HB4.out.bel.alloc HB4.out.bel.size _).trans (HB5.out.mono (by have := HB3S.out; omega)), by have := HS5.out; have := HB4.out.sz; omega⟩
            refine ⟨?_, ?measure⟩
            (repeat apply Exists.intro)
            refine ⟨?rel, rfl⟩
            case rel => exact ⟨k + 1, n + 1, c5, A5, g, by omega, rfl, by go_num, Lib.hid (by rw [V1.out, List.length_append, ← HNV.out]; rfl), Lib.hid (by rw [V1.out]; simp only [List.flatten_append, List.flatten_cons, List.flatten_nil, List.append_nil]; exact HO5.out), by rw [V2.out]; exact hE0, by rw [V2.out, HGD.out]; exact HB6, hgz, Lib.hid ((HKP.out _ (by have := HB3S.out; omega)).trans HZ4.out), Lib.hid (by have := HS5.out; have := HS4.out; have := hsz.out; omega), by rw [V2.out, HGD.out]; exact hof, by rw [V2.out, HGD.out]; exact Lib.hid (fun q hq => (HQ5.out q hq).elim (fun h1 => hra.out q h1) (fun h1 => HTA.out.offge (Nat.le_of_eq h1.symm)))⟩
            case measure => simp [intOf]; omega
           | true =>
            have f1 : (yo.toList == s.toList) = true := he
            obtain ⟨v1, v2, v3, v4, v5⟩ := HN2.out he
            obtain ⟨eh, heh⟩ : ∃ z, holdE (G 4) (Ky.mk yb yi yl ys) (wrap64 (-yq)) = z := ⟨_, rfl⟩
            obtain ⟨l4, hl4⟩ : ∃ z, holdL (G 4) (Ky.mk yb yi yl ys) (wrap64 (-yq)) = z := ⟨_, rfl⟩
            rw [heh] at v3
            rw [hl4] at v4
            have V1 := Lib.hid v1
            have V2 := Lib.hid v2
            have V3 := Lib.hid v3
            have V4 := Lib.hid v4
            have HHIT : Hid (eh ≠ 0 → er = eh) := Lib.hid (fun h1 => by rw [HA4.out, ← HREV.out.1, ← v3]; rw [← v3] at h1; exact firstE_le _ (by rw [← HREV.out.2]; exact v5) h1)
            have HL4 : Hid (Things (kOf 4) l4 ∧ l4.length ≤ 1000000) := Lib.hid ⟨by rw [← hl4]; exact holdL_things (hbx.out.ht 4 (by decide)).2.2.1 _ _, by rw [← hl4]; have h1 : (holdL (G 4) (Ky.mk yb yi yl ys) (wrap64 (-yq))).length ≤ (G 4).length + 1 := upQ_len _ _; have h2 := HG4.out; omega⟩
            have CH : Hid (∀ W, HT g G W → Calls Tryz.prog 70 #[.agg g.cells, .agg #[.string yb, .string yi, .string yl, .int .i64 ys], .int .i64 (wrap64 (-yq))] W (HouseP eh (setE 0 G 4 l4) g G W)) := Lib.hid (fun W hW => by
             have h1 := rhold g G yb yi yl ys (wrap64 (-yq)) W hW (by rw [(hW 4 (by decide)).1]; have := HG4.out; omega)
             rw [heh, hl4] at h1
             exact h1.mono (fun e w' H => H.house (by decide) HL4.out.1 HL4.out.2 hW))
            clear he v1 v2 v3 v4 v5 heh hl4
            have HRK : Hid (w4.rangeAt wr.heap.size 2 [.string yb, .string yi, .string yl, .int .i64 ys]) := Lib.hid (range_part (pre := [.string yo, .int .i64 yn]) (post := [.int .i64 yq, .int .i64 yt]) HC4.out)
            go_wp2_with (first
             | (refine wpList_load_row rfl 37 (.tmp 2) rfl w.heap.size rfl _ _ _ _ HB4.out.box huh rfl (HSH.out _) ?_)
             | (refine wpList_load_mid rfl 44 (.tmp 93) rfl wr.heap.size 2 rfl [.string yb, .string yi, .string yl, .int .i64 ys] _ HRK.out huK rfl HSK4.out ?_)
             | fail)
            refine (CH.out _ HB4.out.ht).mono ?_
            rintro e w5 ⟨hb5, q, rfl, hq, hqz, hqc, hqo⟩
            clear y0' y6' ylt HRK
            have HQB : Hid (w5.alloc (.cells #[.slice none 0 0, .slice none 0 0, .slice none 0 0, .slice none 0 0, .slice none 0 0, .slice none 0 0, .slice none 0 0, .slice none 0 0, .slice none 0 0, .slice none 0 0, .slice none 0 0, .slice none 0 0, .slice none 0 0, .slice none 0 0, .int .i64 0] 37) = w5.alloc (.cells #[.slice none 0 0, .slice none 0 0, .slice none 0 0, .slice none 0 0, .slice none 0 0, .slice none 0 0, .slice none 0 0, .slice none 0 0, .slice none 0 0, .slice none 0 0, .slice none 0 0, .slice none 0 0, .slice none 0 0, .slice none 0 0, .int .i64 0] 37)) := Lib.hid rfl
            obtain ⟨w6, hw6⟩ : ∃ W, W = (w5.alloc (.cells #[.slice none 0 0, .slice none 0 0, .slice none 0 0, .slice none 0 0, .slice none 0 0, .slice none 0 0, .slice none 0 0, .slice none 0 0, .slice none 0 0, .slice none 0 0, .slice none 0 0, .slice none 0 0, .slice none 0 0, .slice none 0 0, .int .i64 0] 37)).setRow w5.heap.size q.cells := ⟨_, rfl⟩
            have HQA : Hid ((w5.alloc (.cells #[.slice none 0 0, .slice none 0 0, .slice none 0 0, .slice none 0 0, .slice none 0 0, .slice none 0 0, .slice none 0 0, .slice none 0 0, .slice none 0 0, .slice none 0 0, .slice none 0 0, .slice none 0 0, .slice none 0 0, .slice none 0 0, .int .i64 0] 37)).heap[w5.heap.size]? = some (.cells #[.slice none 0 0, .slice none 0 0, .slice none 0 0, .slice none 0 0, .slice none 0 0, .slice none 0 0, .slice none 0 0, .slice none 0 0, .slice none 0 0, .slice none 0 0, .slice none 0 0, .slice none 0 0, .slice none 0 0, .slice none 0 0, .int .i64 0] 37 (0, 0))) := Lib.hid (heap_alloc_new _ _)
            have hb6 : Below w5.heap.size w5 w6 := by rw [hw6]; exact setRow_below ((Below.refl _ _).alloc (Nat.le_refl _) _) (Nat.le_refl _) _
            have hb46 := hb5.trans (hb6.mono hb5.size)
            have HB6 := Lib.hid (HB4.out.below hb46)
            have HZ6 := Lib.hid ((hb46.block _ (lt_of_block HZ4.out)).trans HZ4.out)
            have HQ6 : Hid (w6.heap[w5.heap.size]? = some (.cells q.cells 37 (0, 0))) := Lib.hid (by rw [hw6]; exact setRow_heap _ _ _ _ _ _ HQA.out)
            have HTQ : Hid (HT q (setX eh (setE 0 G 4 l4)) w6) := Lib.hid (hq.below hb6)
            have HQZ := Lib.hid hqz
            have HQC := Lib.hid (hqc HB4.out.caps)
            have HQO := Lib.hid hqo
            have HOW6 : Hid (w6.ownsRow w3.heap.size 46 8 (.slice A n c) n (((L 8).take k).filter (fun e => !(ofOrd s e))).flatten) := Lib.hid (own_below HOW4.out hb46)
            have HS46 : Hid (w4.heap.size ≤ w6.heap.size) := Lib.hid hb46.size
            have HRAQ : Hid (∀ q, (Value.slice A n c).ownBlock = some q → q < w4.heap.size) := Lib.hid (fun q0 h0 => by
             rcases HOW4.out.2 with ⟨hv, _⟩ | ⟨gg, cap, cur, hv, _, hgr, _⟩
             · rw [hv] at h0; simp [Value.ownBlock] at h0
             · rw [hv] at h0; simp [Value.ownBlock] at h0; rw [← h0]; exact lt_of_block hgr)
            have HW6 := Lib.hid hw6
            clear hw6 hb5 hb6 hb46 hq hqz hqc hqo HQB
            by_cases hk0 : eh = 0
            · subst hk0
              rw [setX_ok rfl] at HTQ HQO
              obtain ⟨w7, hw7⟩ : ∃ W, W = w6.setRow w.heap.size q.cells := ⟨_, rfl⟩
              have HB7 : Hid (HBox w q (setE 0 G 4 l4) w7) := Lib.hid (by rw [hw7]; exact HB6.out.store HTQ.out HQC.out (HQO.out _ HB4.out.off (by have := HB3S.out; have := hsz.out; have := HS4.out; omega)))
              have HZ7 : Hid (w7.heap[w.heap.size + 1]? = some (.cells Hs.zero 37 (0, 0))) := Lib.hid (by rw [hw7]; exact (setRow_other _ _ _ _ (by omega)).trans HZ6.out)
              have HOW7 : Hid (w7.ownsRow w3.heap.size 46 8 (.slice A n c) n (((L 8).take k).filter (fun e => !(ofOrd s e))).flatten) := Lib.hid (by rw [hw7]; exact own_rowed HOW6.out (by have := HB3S.out; omega) (Nat.le_refl _))
              have HS7 : Hid (w7.heap.size = w6.heap.size) := Lib.hid (by rw [hw7]; simp)
              have HGG : Hid (setE 0 L 4 (relM CL L (j + 1) 4) = setE 0 G 4 l4) := Lib.hid (by rw [V4.out, ← HGD.out, setE_twice])
              have HW7 := Lib.hid hw7
              clear hw7
              go_wp2_with (first
               | (refine wpList_store_row rfl 37 (.tmp 13) (.tmp 99) rfl w5.heap.size q.cells rfl rfl _ _ HQA.out (HSH.out _) rfl (H1C.out _) ?_; rw [← HW6.out])
               | (refine wpList_load_row rfl 37 (.tmp 13) rfl w5.heap.size rfl _ _ _ _ HQ6.out huh rfl (HSH.out _) ?_)
               | (refine wpList_store_row rfl 37 (.tmp 2) (.tmp 105) rfl w.heap.size q.cells rfl rfl _ _ HB6.out.box (HSH.out _) rfl (H1C.out _) ?_; rw [← HW7.out])
               | fail)
              refine ⟨?_, ?measure⟩
              (repeat apply Exists.intro)
              refine ⟨?rel, rfl⟩
              case rel => exact ⟨k + 1, n, c, A, q, by omega, rfl, by go_num, Lib.hid (by rw [V1.out]; exact HNV.out), by rw [V1.out]; exact HOW7, by rw [V2.out]; exact V3, by rw [V2.out, HGG.out]; exact HB7, Lib.hid (by rw [HQZ.out]; exact hgz.out), HZ7, Lib.hid (by have := HS7.out; have := HS46.out; have := HS4.out; have := hsz.out; omega), by rw [V2.out, HGG.out]; exact Lib.hid (fun o h1 h2 => HQO.out o (hof.out o h1 h2) (by have := HS4.out; have := hsz.out; omega)), by rw [V2.out, HGG.out]; exact Lib.hid (fun q0 h0 => HQO.out q0 (hra.out q0 h0) (HRAQ.out q0 h0))⟩
              case measure => simp [intOf]; omega
            · have bn : ((eh : Int) != 0) = true := by simpa using hk0
              have HKL := Lib.hid hk0
              clear hk0
              have HE : Hid (er = eh) := Lib.hid (HHIT.out HKL.out)
              go_wp2_with (first
               | (refine wpList_store_row rfl 37 (.tmp 13) (.tmp 99) rfl w5.heap.size q.cells rfl rfl _ _ HQA.out (HSH.out _) rfl (H1C.out _) ?_; rw [← HW6.out])
               | (refine wpList_store_row rfl 37 (.tmp 4) (.tmp 103) rfl (w.heap.size + 1) Hs.zero rfl rfl _ _ HZ6.out HSQ.out rfl H1Q.out ?_)
               | fail)
              exact bodyPost_ret (results_row_tmp rfl _ _ (w.heap.size + 1) _ _ _ _ rfl (setRow_heap _ _ _ _ _ _ HZ6.out) huh rfl HSQ.out) rfl (by
               have hne : er ≠ 0 := by rw [HE.out]; exact HKL.out
               rw [HE.out] at hne ⊢
               exact HouseP.bad hne (setRow_below HB6.out.bel (show w.heap.size ≤ w.heap.size + 1 by omega) Hs.zero))
         · have hkm : k = m := by omega
           subst hkm
           have htk : (L 8).take k = L 8 := List.take_of_length_le (by rw [← HNM.out]; exact Nat.le_refl _)
           rw [htk] at hn hown hE0 hG
           rw [← HCLD.out, HREV.out.2] at hE0 hG
           have HE : Hid (er = 0) := Lib.hid (by rw [HA4.out, ← HREV.out.1]; exact hE0.out)
           obtain ⟨l8, hl8⟩ : ∃ z, (L 8).filter (fun e => !(ofOrd s e)) = z := ⟨_, rfl⟩
           rw [hl8] at hn hown HM
           rw [hG] at HM
           have HL8 : Hid (Things (kOf 8) l8 ∧ l8.length ≤ 1000000) := Lib.hid ⟨by rw [← hl8]; exact fun e he => (HHT.out 8 (by decide)).2.2.1 e (List.mem_filter.1 he).1, by rw [← hl8]; exact Nat.le_trans (List.length_filter_le _ _) (Nat.le_trans (HLEN.out 8 (by decide)) (by decide))⟩
           have HG7 : Hid (G 7 = L 7) := Lib.hid (by rw [← hG]; exact setE_off rfl _ (by decide) _)
           clear htk hl8 hG
           obtain ⟨w8, hw8⟩ : ∃ W, W = wr.setCell ⟨w.heap.size, 8, none⟩ (.slice A n c) := ⟨_, rfl⟩
           have HB8 : Hid (HBox w (g.set 8 A n c) (setE 0 G 8 l8) w8) := Lib.hid (by rw [hw8]; exact hbx.out.setList (by decide) HL8.out.1 hn.out (by rw [hn.out]; exact HL8.out.2) hown.out (by have := HB3S.out; omega))
           have HZ8 : Hid (w8.heap[w.heap.size + 1]? = some (.cells Hs.zero 37 (0, 0))) := Lib.hid (by rw [hw8]; exact (block_setCell_other (by omega) _).trans hzb.out)
           have HOF8 : Hid (∀ o, Off o h L → o < w3.heap.size → Off o (g.set 8 A n c) (setE 0 G 8 l8)) := Lib.hid (fun o h1 h2 => off_set hown.out h2 (hof.out o h1 h2))
           have HS8 : Hid (w3.heap.size ≤ w8.heap.size) := Lib.hid (by rw [hw8]; simpa [World.setCell] using hsz.out)
           have f8 : wr.frozen? ⟨w.heap.size, 8, none⟩ = false := frozen_of_block hbx.out.box
           obtain ⟨q, hq⟩ : ∃ q, g.set 8 A n c = q := ⟨_, rfl⟩
           have HQZ : Hid (q.z = h.z) := Lib.hid (by rw [← hq]; exact hgz.out)
           rw [hq] at HB8 HOF8
           have HW8 := Lib.hid hw8
           obtain ⟨G8, hG8⟩ : ∃ z, setE 0 G 8 l8 = z := ⟨_, rfl⟩
           rw [hG8] at HB8 HOF8 HM
           have HG87 : Hid (G8 7 = L 7) := Lib.hid (by rw [← hG8, setE_off rfl _ (by decide)]; exact HG7.out)
           clear hw8 hq hG8 hra hof hsz hzb hgz hbx hE0 hown hn
           go_upto_region 26 with fail
           rw [← HW8.out]
           clear d8 dlt f8
           obtain ⟨mo, hmo⟩ : ∃ m, q.n 7 = m := ⟨_, rfl⟩
           have HNO : Hid (mo = (L 7).length) := Lib.hid (by rw [← hmo, (HB8.out.ht 7 (by decide)).1, HG87.out])
           have hm7 : mo ≤ 1000 := by rw [HNO.out]; exact HLEN.out 7 (by decide)
           have HMO := Lib.hid hmo
           clear hmo
           have HD7 : Hid (∀ W, Below w8.heap.size w8 W → W.cell? ⟨w.heap.size, 7, none⟩ = some (.slice (q.A 7) mo (q.c 7)) ∧ w.heap.size < W.heap.size) := Lib.hid (fun W hW => by
            have hb := (hW.block _ (lt_of_block HB8.out.box)).trans HB8.out.box
            exact ⟨by rw [cell_of_block hb, ← HMO.out]; rfl, lt_of_block hb⟩)
           go_upto_region 29 with fail
           go_loopw [15, 16, 17] (fun rv dv iv wr => ∃ (k m' c' : Nat) (A' : Option Addr) (acc : List (List Value)) (dn : Bool), k ≤ mo ∧ iv = .int .i64 (k : Int) ∧ rv = .slice A' m' c' ∧ dv = .bool dn ∧ Hid (Pl.dropK ordOrder X (L 7) k = (acc, dn)) ∧ Hid (m' = acc.length) ∧ Hid (wr.ownsRow w8.heap.size 42 50 (.slice A' m' c') m' acc.flatten) ∧ Hid (Below w8.heap.size w8 wr)) (fun _ _ iv _ => mo - (intOf iv).toNat)
           case atStart => exact ⟨0, 0, 0, none, [], false, by omega, rfl, rfl, rfl, Lib.hid rfl, Lib.hid rfl, Lib.hid (World.ownsRow_nil _ _ _ _), Lib.hid (Below.refl _ _)⟩
           case round =>
            obtain ⟨k, m', c', A', acc, dn, hk, rfl, rfl, rfl, hdk, hm', hown, hbel⟩ := hrel
            obtain ⟨d7, dlt⟩ := HD7.out _ hbel.out
            by_cases hlt : k < mo
            · have hkl : k < (L 7).length := by rw [← HNO.out]; exact hlt
              have hml := Pl.dropK_len ordOrder X (L 7) k (by omega)
              rw [hdk.out] at hml
              simp only [] at hml
              rw [← hm'.out] at hml
              obtain ⟨a1, a2, a3, a4⟩ := (HB8.out.ht.below hbel.out) 7 (by decide)
              rw [HG87.out] at a3 a4
              obtain ⟨b, off, hA, hb, hc⟩ := a4.thing a3 (by decide) hkl
              have fe := a3 _ (List.getElem_mem hkl)
              have r0 := hc k hkl
              rw [show (kOf 7).length = 50 from rfl] at r0
              have hsk := Pl.dropK_succ ordOrder X (L 7) k hkl
              obtain ⟨e, he⟩ : ∃ e, (L 7)[k] = e := ⟨_, rfl⟩
              rw [he] at fe r0 hsk
              rw [hdk.out] at hsk
              have HSK := Lib.hid hsk
              have HF := Lib.hid fe
              have he0 := (order_parts fe).1
              obtain ⟨ce, hce⟩ : ∃ z, codeOf e = z := ⟨_, rfl⟩
              rw [hce] at he0
              have z0' : wr.cell? ⟨b, off + k * 50, none⟩ = some (.string ce) := by have := r0 0 _ he0; simpa using this
              have HOR : Hid ((ordOrder e X == 0) = Pl.eqv ce s) := Lib.hid (by
               rw [← HCX.out, ← hce]
               refine Bool.eq_iff_iff.2 ?_
               rw [beq_iff_eq, Pl.eqv_iff]
               exact pcmp_zero _ _)
              have HRE : Hid (wr.rangeAt b (off + k * 50) e) := Lib.hid r0
              have HIE : Hid ((Tryz.prog.info? 42).map (·.size) = some e.length) := Lib.hid (HSOL.out e fe)
              have HEL : Hid (e.length = 50) := Lib.hid (by rw [fe.length]; rfl)
              have HE1 := Lib.hid (fits_one fe)
              have HG3 : Hid (w8.heap.size ≤ (wr.alloc (.cells e.toArray 42)).heap.size) := Lib.hid (by have := hbel.out.size; simp; omega)
              have h1 : (0 : Int) ≤ (k : Int) := by omega
              have h2 : (k : Int) < (mo : Int) := by omega
              rw [hA] at d7
              have HLT := Lib.hid hlt
              clear a1 a2 a3 a4 hc fe r0 hsk he he0 hce hkl hA
              cases dn with
              | true =>
               have HNX : Hid (Pl.dropK ordOrder X (L 7) (k + 1) = (acc ++ [e], true)) := Lib.hid (by rw [HSK.out]; unfold Pl.dropS; rw [HOR.out]; rfl)
               go_upto_region 33 with fail
               go_upto_region 30 with (first
                | (refine wpList_load_mid rfl 42 (.tmp 131) rfl b (off + k * 50) rfl e _ HRE.out huO rfl HIE.out ?_)
                | (refine wpList_buildOne rfl _ 42 _ rfl wr.heap.size rfl _ rfl i1 z1 50 Tryz.underlying29 hj0 hj1 hj2 (by decide) (by decide) e (by rfl) HEL.out ?_)
                | (at_builtin; refine wpList_app rfl (.tmp 127) (.tmp 133) _ rfl w8.heap.size 42 i1 z1 50 i1.bytes Tryz.underlying29 hj0 hj1 hj2 rfl hj3 (by decide) _ _ _ _ rfl (hown.out.alloc _) (wr.heap.size + 1) (some ⟨wr.heap.size, 0, none⟩) 1 1 e rfl HEL.out (rd_one wr e _) HE1.out (by simp only [maxLen]; omega) (HBO.out _ (by omega)) HG3.out ?_; intro A6 c6 w6 hown6 hb6; have HO6 := Lib.hid hown6; have HB6 := Lib.hid ((hbel.out.alloc hbel.out.size _).trans (hb6.mono (Nat.le_refl _))); clear hown6 hb6)
                | fail)
               clear hk hlt h1 h2 d7 dlt z0' hml
               go_wp2_with fail
               have hw1 : wrap64 ((k : Int) + 1) = (k : Int) + 1 := IntWalk.wrap64_in _ ⟨by have := HLT.out; omega, by have := HLT.out; omega⟩
               refine ⟨?_, ?measure⟩
               (repeat apply Exists.intro)
               refine ⟨?rel, rfl⟩
               case rel => exact ⟨k + 1, m' + 1, c6, A6, acc ++ [e], true, by have := HLT.out; omega, by rw [hw1]; rfl, rfl, rfl, HNX, Lib.hid (by simp only [List.length_append, List.length_cons, List.length_nil]; have := hm'.out; omega), Lib.hid (by simp only [List.flatten_append, List.flatten_cons, List.flatten_nil, List.append_nil]; exact HO6.out), HB6⟩
               case measure => rw [hw1]; have := HLT.out; simp [intOf]; omega
              | false =>
               cases hq : Pl.eqv ce s with
               | true =>
                have f1 : (ce.toList == s.toList) = true := hq
                have EQ := Lib.hid hq
                clear hq
                have HNX : Hid (Pl.dropK ordOrder X (L 7) (k + 1) = (acc, true)) := Lib.hid (by rw [HSK.out]; unfold Pl.dropS; rw [HOR.out, EQ.out]; rfl)
                go_upto_region 30 with fail
                clear hk hlt h1 h2 d7 dlt z0' hml
                go_wp2_with fail
                have hw1 : wrap64 ((k : Int) + 1) = (k : Int) + 1 := IntWalk.wrap64_in _ ⟨by have := HLT.out; omega, by have := HLT.out; omega⟩
                refine ⟨?rel, ?measure⟩
                case rel => exact ⟨k + 1, m', c', A', acc, true, by have := HLT.out; omega, by rw [hw1]; rfl, rfl, rfl, HNX, hm', hown, hbel⟩
                case measure => rw [hw1]; have := HLT.out; simp [intOf]; omega
               | false =>
                have f1 : (ce.toList == s.toList) = false := hq
                have EQ := Lib.hid hq
                clear hq
                have HNX : Hid (Pl.dropK ordOrder X (L 7) (k + 1) = (acc ++ [e], false)) := Lib.hid (by rw [HSK.out]; unfold Pl.dropS; rw [HOR.out, EQ.out]; rfl)
                go_upto_region 33 with fail
                go_upto_region 30 with (first
                 | (refine wpList_load_mid rfl 42 (.tmp 131) rfl b (off + k * 50) rfl e _ HRE.out huO rfl HIE.out ?_)
                 | (refine wpList_buildOne rfl _ 42 _ rfl wr.heap.size rfl _ rfl i1 z1 50 Tryz.underlying29 hj0 hj1 hj2 (by decide) (by decide) e (by rfl) HEL.out ?_)
                 | (at_builtin; refine wpList_app rfl (.tmp 127) (.tmp 133) _ rfl w8.heap.size 42 i1 z1 50 i1.bytes Tryz.underlying29 hj0 hj1 hj2 rfl hj3 (by decide) _ _ _ _ rfl (hown.out.alloc _) (wr.heap.size + 1) (some ⟨wr.heap.size, 0, none⟩) 1 1 e rfl HEL.out (rd_one wr e _) HE1.out (by simp only [maxLen]; omega) (HBO.out _ (by omega)) HG3.out ?_; intro A6 c6 w6 hown6 hb6; have HO6 := Lib.hid hown6; have HB6 := Lib.hid ((hbel.out.alloc hbel.out.size _).trans (hb6.mono (Nat.le_refl _))); clear hown6 hb6)
                 | fail)
                clear hk hlt h1 h2 d7 dlt z0' hml
                go_wp2_with fail
                have hw1 : wrap64 ((k : Int) + 1) = (k : Int) + 1 := IntWalk.wrap64_in _ ⟨by have := HLT.out; omega, by have := HLT.out; omega⟩
                refine ⟨?_, ?measure⟩
                (repeat apply Exists.intro)
                refine ⟨?rel, rfl⟩
                case rel => exact ⟨k + 1, m' + 1, c6, A6, acc ++ [e], false, by have := HLT.out; omega, by rw [hw1]; rfl, rfl, rfl, HNX, Lib.hid (by simp only [List.length_append, List.length_cons, List.length_nil]; have := hm'.out; omega), Lib.hid (by simp only [List.flatten_append, List.flatten_cons, List.flatten_nil, List.append_nil]; exact HO6.out), HB6⟩
                case measure => rw [hw1]; have := HLT.out; simp [intOf]; omega
            · have hkm : k = mo := by omega
              have hall : acc = dropG ordOrder (L 7) X := by have h9 := Pl.dropK_all ordOrder X (L 7); rw [← HNO.out, ← hkm, hdk.out] at h9; exact h9
              rw [hall] at hm' hown
              obtain ⟨l7, hl7⟩ : ∃ z, dropG ordOrder (L 7) X = z := ⟨_, rfl⟩
              rw [hl7] at hm' hown HM
              have HL7 : Hid (Things (kOf 7) l7 ∧ l7.length ≤ 1000000) := Lib.hid ⟨by rw [← hl7]; exact dropG_things (HHT.out 7 (by decide)).2.2.1 _, by rw [← hl7]; exact Nat.le_trans (dropG_len _ _ _) (Nat.le_trans (HLEN.out 7 (by decide)) (by decide))⟩
              clear hall hl7
              have HB9 := Lib.hid (HB8.out.below hbel.out)
              have HZ9 := Lib.hid ((hbel.out.block _ (lt_of_block HZ8.out)).trans HZ8.out)
              have HS39 : Hid (w.heap.size + 2 ≤ w8.heap.size) := Lib.hid (Nat.le_trans HB3S.out HS8.out)
              obtain ⟨w10, hw10⟩ : ∃ W, W = wr.setCell ⟨w.heap.size, 7, none⟩ (.slice A' m' c') := ⟨_, rfl⟩
              have HB10 : Hid (HBox w (q.set 7 A' m' c') (setE 0 G8 7 l7) w10) := Lib.hid (by rw [hw10]; exact HB9.out.setList (by decide) HL7.out.1 hm'.out (by rw [hm'.out]; exact HL7.out.2) hown.out (by have := HS39.out; omega))
              have HZ10 : Hid (w10.heap[w.heap.size + 1]? = some (.cells Hs.zero 37 (0, 0))) := Lib.hid (by rw [hw10]; exact (block_setCell_other (by omega) _).trans HZ9.out)
              have HOF10 : Hid (∀ o, Off o h L → o < w3.heap.size → Off o (q.set 7 A' m' c') (setE 0 G8 7 l7)) := Lib.hid (fun o h1 h2 => off_set hown.out (Nat.lt_of_lt_of_le h2 HS8.out) (HOF8.out o h1 h2))
              have f7 : wr.frozen? ⟨w.heap.size, 7, none⟩ = false := frozen_of_block HB9.out.box
              obtain ⟨v, hv⟩ : ∃ v, q.set 7 A' m' c' = v := ⟨_, rfl⟩
              have HVZ : Hid (v.z = h.z) := Lib.hid (by rw [← hv]; exact HQZ.out)
              rw [hv] at HB10 HOF10
              have HW10 := Lib.hid hw10
              clear hw10 hv
              go_upto_region 35 with fail
              rw [← HW10.out]
              clear d7 dlt f7
              go_wp2_with (first
               | (refine wpList_load_row rfl 37 (.tmp 2) rfl w.heap.size rfl _ _ _ _ HB10.out.box huh rfl (HSH.out _) ?_)
               | (refine wpList_store_row rfl 37 (.tmp 4) (.tmp 137) rfl (w.heap.size + 1) v.cells rfl rfl _ _ HZ10.out (HSH.out _) rfl (H1C.out _) ?_)
               | fail)
              exact bodyPost_ret (results_row_tmp rfl _ _ (w.heap.size + 1) _ _ _ _ rfl (setRow_heap _ _ _ _ _ _ HZ10.out) huh rfl (HSH.out _)) rfl (by
               rw [HE.out, HM.out]
               have ho1 := HOF10.out (w.heap.size + 1) (HOH.out _ (by omega)) (by have := HB3S.out; omega)
               refine ⟨setRow_below HB10.out.bel (show w.heap.size ≤ w.heap.size + 1 by omega) _, v, rfl, ?_, HVZ.out, fun _ => HB10.out.caps, fun o h1 h2 => ?_⟩
               · rw [setX_ok rfl]; exact HB10.out.ht.setRowOff ho1 _
               · rw [setX_ok rfl]; exact HOF10.out o h1 (by have := HB3S.out; omega))
end Go.Proofs.YtlkmccmbpnbgbaaGreat
