/-
 CONTRACTS of the code's withOrder, checkOrder, Order. (By wip/tools/gen_acode.py.)
-/
import Derived.Test.YtlkmccmbpnbgbaaGreatAFacts
import Derived.Test.YtlkmccmbpnbgbaaGreatKO
import Derived.Test.YtlkmccmbpnbgbaaGreatKLines
import Derived.Test.YtlkmccmbpnbgbaaGreatIName
import Derived.Test.YtlkmccmbpnbgbaaGreatJHead
import Derived.Test.YtlkmccmbpnbgbaaGreatGT
import Derived.Deep.CutRange
namespace Go.Proofs.YtlkmccmbpnbgbaaGreat
set_option linter.unusedVariables false
open Go.RowKit
open Pl (firstG firstG_none firstG_some findG overG putG dropG It)

theorem corder_box {w : World} {b : Nat} {cs : List Value} {t : TypeId} (h : w.heap[b]? = some (.cells cs.toArray t (0, 0))) (hf : Fits kOrder cs) : w.cell? ⟨b, 0, none⟩ = some (.string (codeOf cs)) ∧ w.cell? ⟨b, 1, none⟩ = some (.string (nsite cs)) ∧ w.rangeAt b 2 (oLines cs) ∧ b < w.heap.size := by
 obtain ⟨h0, h1, h2, hl, ho⟩ := order_parts hf
 refine ⟨by rw [cell_of_block h, List.getElem?_toArray]; exact h0, by rw [cell_of_block h, List.getElem?_toArray]; exact h1, fun i v hv => ?_, lt_of_block h⟩
 rw [ho, List.getElem?_drop] at hv
 rw [cell_of_block h, List.getElem?_toArray]; exact hv
set_option maxRecDepth 100000 in
set_option maxHeartbeats 3200000 in
theorem cwithO (h : Hs) (L : Nat → List (List Value)) (cs : List Value) (w : World) (hh : HT h L w) (hf : Fits kOrder cs) (hn6 : h.n 7 ≤ 1100) (hc1 : h.n 7 ≤ h.c 7 ∧ h.c 7 ≤ 9223372036854775807) :
 Calls Tryz.prog 42 #[.agg h.cells, .agg cs.toArray] w fun e w' => Below w.heap.size w w' ∧ ∃ A n c, n = (putG ordOrder (L 7) cs).length ∧ w'.ownsRow w.heap.size 42 50 (.slice A n c) n (putG ordOrder (L 7) cs).flatten ∧ e = .returned (.agg (h.set 7 A n c).cells) := by
 have HXF := Lib.hid hf
 obtain ⟨lx, hlx2⟩ : ∃ l, putG ordOrder (L 7) cs = l := ⟨_, rfl⟩
 obtain ⟨m, hmm⟩ : ∃ m, h.n 7 = m := ⟨_, rfl⟩
 have HPU : Hid (∀ W, Below w.heap.size w W → Calls Tryz.prog 82 #[.agg #[.func (.func 111) #[] #[]], .slice (h.A 7) m (h.c 7), .agg (cs).toArray] W (NewOrder W lx)) := Lib.hid (fun W hW => by have h9 := putOrder (h.A 7) (h.n 7) (h.c 7) 111 #[] ordOrder (cs) (L 7) W (hh 7 (by decide)).1 hc1.1 hc1.2 (by omega) (hh 7 (by decide)).2.2.1 (hf) ((hh.below hW) 7 (by decide)).2.2.2 (tellsOrder W); rw [hmm, hlx2] at h9; exact h9)
 have HSS : Hid ((Tryz.prog.info? 42).map (·.size) = some cs.length) := Lib.hid (by rw [HXF.out.length]; kernel_rfl)
 have HMM := Lib.hid hmm
 rw [hmm] at hn6
 rw [hlx2]
 clear hlx2 hmm hf
 have HSNO : Hid (∀ y, Fits kOrder y → (Tryz.prog.info? 42).map (·.size) = some y.toArray.size) := Lib.hid (fun y hy => by rw [show (Tryz.prog.info? 42).map (·.size) = some 50 from by kernel_rfl, List.size_toArray, hy.length]; rfl)
 have huNO := Tryz.underlying42
 have HOO : Hid (∀ y, Fits kOrder y → (#[.string ⟨#[]⟩, .string ⟨#[]⟩, .string ⟨#[]⟩, .int .i64 0, .int .i64 0, .int .i64 0, .int .i64 0, .int .i64 0, .string ⟨#[]⟩, .int .i64 0, .int .i64 0, .int .i64 0, .int .i64 0, .int .i64 0, .string ⟨#[]⟩, .int .i64 0, .int .i64 0, .int .i64 0, .int .i64 0, .int .i64 0, .string ⟨#[]⟩, .int .i64 0, .int .i64 0, .int .i64 0, .int .i64 0, .int .i64 0, .string ⟨#[]⟩, .int .i64 0, .int .i64 0, .int .i64 0, .int .i64 0, .int .i64 0, .string ⟨#[]⟩, .int .i64 0, .int .i64 0, .int .i64 0, .int .i64 0, .int .i64 0, .string ⟨#[]⟩, .int .i64 0, .int .i64 0, .int .i64 0, .int .i64 0, .int .i64 0, .string ⟨#[]⟩, .int .i64 0, .int .i64 0, .int .i64 0, .int .i64 0, .int .i64 0] : Array Value).size = y.toArray.size) := Lib.hid (fun y hy => by rw [List.size_toArray, List.size_toArray, hy.length]; rfl)
 have HOC : Hid (∀ y, Fits kOrder y → y.toArray.all (·.oneCell') = true) := Lib.hid (fun y hy => all_oneCell_toArray (fits_one hy))
 obtain ⟨W0, hW0⟩ : ∃ W0, W0 = (((w.alloc (.cells h.cells 37)).alloc (.cells cs.toArray 42)).alloc (.cells #[.slice none 0 0, .slice none 0 0, .slice none 0 0, .slice none 0 0, .slice none 0 0, .slice none 0 0, .slice none 0 0, .slice none 0 0, .slice none 0 0, .slice none 0 0, .slice none 0 0, .slice none 0 0, .slice none 0 0, .slice none 0 0, .int .i64 0] 37)) := ⟨_, rfl⟩
 have hb0 : Below w.heap.size w W0 := by rw [hW0]; exact (((Below.refl _ _).alloc (Nat.le_refl _) _).alloc (by simp <;> omega) _).alloc (by simp <;> omega) _
 have hs0 : W0.heap.size = w.heap.size + 3 := by rw [hW0]; simp
 have HH : Hid (∀ W, Below W0.heap.size W0 W → W.heap[w.heap.size]? = some (.cells h.cells 37 (0, 0))) := Lib.hid (fun W hW => (hW.block _ (by omega)).trans (by
  rw [hW0]
  have hq := heap_alloc_new w (.cells h.cells 37)
  exact (Below.heap_alloc _ _ _ (by simp <;> omega)).trans ((Below.heap_alloc _ _ _ (by simp <;> omega)).trans ((by simpa using hq)))))
 have HX : Hid (∀ W, Below W0.heap.size W0 W → W.heap[w.heap.size + 1]? = some (.cells cs.toArray 42 (0, 0))) := Lib.hid (fun W hW => (hW.block _ (by omega)).trans (by
  rw [hW0]
  have hq := heap_alloc_new (w.alloc (.cells h.cells 37)) (.cells cs.toArray 42)
  exact (Below.heap_alloc _ _ _ (by simp <;> omega)).trans ((by simpa using hq))))
 have HZ : Hid (∀ W, Below W0.heap.size W0 W → W.heap[w.heap.size + 2]? = some (.cells Hs.zero 37 (0, 0))) := Lib.hid (fun W hW => (hW.block _ (by omega)).trans (by
  rw [hW0]
  have hq := heap_alloc_new ((w.alloc (.cells h.cells 37)).alloc (.cells cs.toArray 42)) (.cells #[.slice none 0 0, .slice none 0 0, .slice none 0 0, .slice none 0 0, .slice none 0 0, .slice none 0 0, .slice none 0 0, .slice none 0 0, .slice none 0 0, .slice none 0 0, .slice none 0 0, .slice none 0 0, .slice none 0 0, .slice none 0 0, .int .i64 0] 37)
  exact (by simpa [Hs.zero] using hq)))
 have HBW : Hid (∀ W, Below W0.heap.size W0 W → Below w.heap.size w W ∧ w.heap.size + 3 ≤ W.heap.size) := Lib.hid (fun W hW => ⟨hb0.trans (hW.mono (by omega)), by have := hW.size; omega⟩)
 have huh := Tryz.underlying37
 have HSH : Hid (∀ a : Hs, (Tryz.prog.info? 37).map (·.size) = some a.cells.size) := Lib.hid (fun a => by kernel_rfl)
 have HSQ : Hid ((Tryz.prog.info? 37).map (·.size) = some Hs.zero.size) := Lib.hid (by kernel_rfl)
 have H1C : Hid (∀ a : Hs, a.cells.all (·.oneCell') = true) := Lib.hid (fun a => by simp [Hs.cells, Value.oneCell'])
 have H1Q : Hid (Hs.zero.all (·.oneCell') = true) := Lib.hid (by simp [Hs.zero, Value.oneCell'])
 have huHX := Tryz.underlying42
 have HLI : Hid (∀ W, Below W0.heap.size W0 W → W.cell? ⟨w.heap.size, 7, none⟩ = some (.slice (h.A 7) m (h.c 7)) ∧ w.heap.size < W.heap.size) := Lib.hid (fun W hW => ⟨by rw [cell_of_block (HH.out W hW), ← HMM.out]; rfl, by have := hW.size; omega⟩)
 have H0 := Lib.hid (Below.refl W0.heap.size W0)
 clear hb0 hs0 hh hn6 hc1
 subst hW0
 go_enter Tryz.func42, Tryz.ntmps42
 obtain ⟨wB, hwB⟩ : ∃ W, W = (((w.alloc (.cells h.cells 37)).alloc (.cells cs.toArray 42)).alloc (.cells #[.slice none 0 0, .slice none 0 0, .slice none 0 0, .slice none 0 0, .slice none 0 0, .slice none 0 0, .slice none 0 0, .slice none 0 0, .slice none 0 0, .slice none 0 0, .slice none 0 0, .slice none 0 0, .slice none 0 0, .slice none 0 0, .int .i64 0] 37)) := ⟨_, rfl⟩
 have HWB0 := Lib.hid hwB
 have hob : Below (((w.alloc (.cells h.cells 37)).alloc (.cells cs.toArray 42)).alloc (.cells #[.slice none 0 0, .slice none 0 0, .slice none 0 0, .slice none 0 0, .slice none 0 0, .slice none 0 0, .slice none 0 0, .slice none 0 0, .slice none 0 0, .slice none 0 0, .slice none 0 0, .slice none 0 0, .slice none 0 0, .slice none 0 0, .int .i64 0] 37)).heap.size (((w.alloc (.cells h.cells 37)).alloc (.cells cs.toArray 42)).alloc (.cells #[.slice none 0 0, .slice none 0 0, .slice none 0 0, .slice none 0 0, .slice none 0 0, .slice none 0 0, .slice none 0 0, .slice none 0 0, .slice none 0 0, .slice none 0 0, .slice none 0 0, .slice none 0 0, .slice none 0 0, .slice none 0 0, .int .i64 0] 37)) wB := by rw [hwB]; exact Below.refl _ _
 have HOB := Lib.hid hob
 clear hob
 have HXB : Hid (∀ W, Below wB.heap.size wB W → W.heap[w.heap.size + 1]? = some (.cells (cs).toArray 42 (0, 0))) := Lib.hid (fun W hW => by have hq := hW; rw [HWB0.out] at hq; exact HX.out W hq)
 have HST : Hid (∀ W, Below wB.heap.size wB W → W.cell? ⟨w.heap.size, 7, none⟩ = some (.slice (h.A 7) m (h.c 7)) ∧ W.rangeAt (w.heap.size + 1) 0 (cs)) := Lib.hid (fun W hW => ⟨(HLI.out W (HOB.out.trans (hW.mono HOB.out.size))).1, range_cells (HXB.out W hW)⟩)
 have HWB := Lib.hid hwB
 clear hwB
 go_upto_region 1 with fail
 rw [← HWB.out]
 go_wp2_with fail
 refine lastW_region (S := (fun w' => w'.cell? ⟨w.heap.size, 7, none⟩ = some (.slice (h.A 7) (m) (h.c 7)) ∧ w'.rangeAt (w.heap.size + 1) 0 (cs))) (n := 6) (by kernel_rfl) ?_
 have ST5 := HST.out _ (Below.refl wB.heap.size wB).drew
 refine LastW.take (i := 1) (v := .pointer (some ⟨w.heap.size, 7, none⟩)) rfl (by kernel_rfl) (by kernel_rfl) (by kernel_rfl) (by kernel_rfl) (by decide) (fun _ _ _ h => h.elim) (.inl ⟨by kernel_rfl, fun w hw => by clear hw; go_simp⟩) ST5 ?_
 (try simp only [ax])
 refine LastW.take (i := 2) (v := .slice (h.A 7) (m) (h.c 7)) rfl (by kernel_rfl) (by kernel_rfl) (by kernel_rfl) (by kernel_rfl) (by decide) (fun _ _ _ h => h.elim) (.inl ⟨by kernel_rfl, fun w hw => by have hw := hw.1; go_simp⟩) ST5 ?_
 (try simp only [ax])
 refine LastW.take (i := 3) (v := .agg (cs).toArray) rfl (by kernel_rfl) (by kernel_rfl) (by kernel_rfl) (by kernel_rfl) (by decide) (fun _ _ _ h => h.elim) (yieldsIf_load_mid (by kernel_rfl) 42 (.tmp 3) rfl (w.heap.size + 1) 0 rfl (cs) _ (fun w h => h.2) huNO rfl HSS.out) ST5 ?_
 (try simp only [ax])
 refine LastW.one (i := 0) (by kernel_rfl) rfl (fun K hK => ?_)
 go_simp
 refine (tabOrder_any _).mono ?_
 rintro e w7 ⟨rfl, hb7⟩
 have H7 := Lib.hid ((Below.refl wB.heap.size wB).drew.trans (hb7.mono (Below.refl wB.heap.size wB).drew.size))
 clear hb7
 refine hK.out _ _ (fun _ => HST.out _ H7.out) (fun _ => ?_)
 clear hK K
 (try simp only [ax])
 have H7W := Lib.hid (HOB.out.trans (H7.out.mono HOB.out.size))
 refine LastW.one (i := 4) (by kernel_rfl) rfl (fun K hK => ?_)
 go_simp
 refine (HPU.out _ (HBW.out _ H7W.out).1).mono ?_
 rintro e w8 ⟨A5, n5, p5, hl5, rfl, hown5, hb8⟩
 have H8 := Lib.hid (H7.out.trans (hb8.mono H7.out.size))
 have H8W := Lib.hid (HOB.out.trans (H8.out.mono HOB.out.size))
 have HO5 := Lib.hid hown5
 have HLE := Lib.hid hl5
 clear hb8 hown5 hl5
 refine hK.out _ _ (fun _ => HST.out _ H8.out) (fun _ => ?_)
 clear hK K
 (try simp only [ax])
 refine LastW.take (i := 5) (v := .pointer (some ⟨w.heap.size, 7, none⟩)) rfl (by kernel_rfl) (by kernel_rfl) (by kernel_rfl) (by kernel_rfl) (by decide) (fun _ _ _ h => h.elim) (.inl ⟨by kernel_rfl, fun w hw => by clear hw; go_simp⟩) (HST.out _ H8.out) ?_
 (try simp only [ax])
 refine LastW.one (i := 6) (by kernel_rfl) rfl (fun K hK => ?_)
 have c5 := (HLI.out _ H8W.out).1
 have f5 : w8.frozen? ⟨w.heap.size, 7, none⟩ = false := frozen_of_block (HH.out _ H8W.out)
 have HZ5 := Lib.hid (HZ.out _ H8W.out)
 have HH5 := Lib.hid (HH.out _ H8W.out)
 have HB5 := Lib.hid (HBW.out _ H8W.out)
 go_simp
 refine hK.out _ _ (fun h => absurd rfl h) (fun _ => ?_)
 clear hK K
 (try simp only [ax])
 refine LastW.done (by kernel_rfl) ?_ _
 refine NoPanic.normal ?_
 have H9 : Hid ((w8.setCell ⟨w.heap.size, 7, none⟩ (.slice A5 n5 p5)).heap[w.heap.size]? = some (.cells (h.set 7 A5 n5 p5).cells 37 (0, 0))) := Lib.hid (by rw [block_setCell HH5.out, h.set_cells _ _ _ 7 (by decide)])
 have HZ6 : Hid ((w8.setCell ⟨w.heap.size, 7, none⟩ (.slice A5 n5 p5)).heap[w.heap.size + 2]? = some (.cells Hs.zero 37 (0, 0))) := Lib.hid ((block_setCell_other (by omega) _).trans HZ5.out)
 have HB6 : Hid (Below w.heap.size w (w8.setCell ⟨w.heap.size, 7, none⟩ (.slice A5 n5 p5))) := Lib.hid (HB5.out.1.setCell (Nat.le_refl _) _)
 have HS4 : Hid (w.heap.size + 2 < w7.heap.size) := Lib.hid (by have := (HBW.out _ H7W.out).2; omega)
 have HO6 : Hid ((w8.setCell ⟨w.heap.size, 7, none⟩ (.slice A5 n5 p5)).ownsRow w7.heap.size 42 50 (.slice A5 n5 p5) n5 lx.flatten) := Lib.hid (own_far HO5.out (by have := HS4.out; simp; omega) (Nat.le_refl _))
 generalize w8.setCell ⟨w.heap.size, 7, none⟩ (.slice A5 n5 p5) = w6 at *
 go_wp2_with (first
  | (refine wpList_load_row rfl 37 (.tmp 2) rfl w.heap.size rfl _ _ _ _ H9.out huh rfl (HSH.out _) ?_)
  | (refine wpList_store_row rfl 37 (.tmp 4) (.tmp 11) rfl (w.heap.size + 2) (h.set 7 A5 n5 p5).cells rfl rfl _ _ HZ6.out (HSH.out _) rfl (H1C.out _) ?_)
  | fail)
 exact bodyPost_ret (results_cell_row rfl _ _ (w.heap.size + 2) _ _ _ _ rfl (setRow_heap _ _ _ _ _ _ HZ6.out) huh rfl (HSH.out _)) rfl ⟨setRow_below HB6.out (by omega) _, A5, n5, p5, HLE.out, own_rowed HO6.out HS4.out (by have := HS4.out; omega), rfl⟩
set_option maxRecDepth 100000 in
set_option maxHeartbeats 3200000 in
theorem ccheckO (h : Hs) (L : Nat → List (List Value)) (cs : List Value) (w : World) (hh : HT h L w) (hf : Fits kOrder cs) (hm : (codeOf cs).size ≤ maxLen)
 (hz : ∀ W, Below w.heap.size w W → Calls Tryz.prog 80 #[.agg h.cells, .string (nsite cs)] W fun e w' => e = .returned (.bool (zonedB (L 2) (nsite cs))) ∧ Below W.heap.size W w')
 (hl : ∀ W, Below w.heap.size w W → Calls Tryz.prog 81 #[.agg h.cells, .agg (oLines cs).toArray] W fun e w' => e = .returned (.int .i64 (linesE (L 0) (oLines cs) : Nat)) ∧ Below W.heap.size W w') :
 Calls Tryz.prog 41 #[.agg h.cells, .agg cs.toArray] w fun e w' => e = .returned (.int .i64 (ordE L cs : Nat)) ∧ Below w.heap.size w w' := by
 have HCF := Lib.hid hf
 have hn9 := (hh 7 (by decide)).2.1
 obtain ⟨cd, hcd⟩ : ∃ z, codeOf cs = z := ⟨_, rfl⟩
 obtain ⟨si, hsi⟩ : ∃ z, nsite cs = z := ⟨_, rfl⟩
 obtain ⟨ll, hll⟩ : ∃ z, oLines cs = z := ⟨_, rfl⟩
 have HLF : Hid (Fits kLine8 ll) := Lib.hid (by rw [← hll]; exact (order_parts hf).2.2.1)
 obtain ⟨X, hX⟩ : ∃ X, gotOrder (L 7) cd = X := ⟨_, rfl⟩
 have HXF : Hid (Fits kOrder X) := Lib.hid (hX ▸ gotOrder_fits (hh 7 (by decide)).2.2.1 cd)
 obtain ⟨il, hil⟩ : ∃ q, (atOrder (L 7) cd).isSome = q := ⟨_, rfl⟩
 obtain ⟨nm, hnm⟩ : ∃ q, Pl.nmE cd = q := ⟨_, rfl⟩
 obtain ⟨zb, hzb⟩ : ∃ q, zonedB (L 2) si = q := ⟨_, rfl⟩
 obtain ⟨le, hle⟩ : ∃ q, linesE (L 0) ll = q := ⟨_, rfl⟩
 obtain ⟨er, her⟩ : ∃ r, ordE L cs = r := ⟨_, rfl⟩
 obtain ⟨m, hmm⟩ : ∃ m, h.n 7 = m := ⟨_, rfl⟩
 have HA : Hid (er = if nm ≠ 0 then nm else if zb = false then 12 else if le ≠ 0 then le else if il = true then 11 else if 32 ≤ m then 14 else 0) := Lib.hid (by rw [← her]; unfold ordE; rw [hcd, hsi, hll, hnm, hzb, hle, hil, ← (hh 7 (by decide)).1, hmm])
 have CN : Hid (∀ W, Calls Tryz.prog 79 #[.string cd] W fun e w' => e = .returned (.int .i64 (nm : Nat)) ∧ Below W.heap.size W w') := Lib.hid (fun W => (name_any cd W (by rw [← hcd]; exact hm)).mono fun e w' ⟨h1, h2⟩ => ⟨by rw [show Pl.nameE cd.data.toList = nm from hnm] at h1; exact h1, by rw [h2]; exact Below.refl _ _⟩)
 rw [hsi, hzb] at hz
 rw [hll, hle] at hl
 have CZ := Lib.hid hz
 have CL := Lib.hid hl
 have CF : Hid (∀ W, Below w.heap.size w W → Calls Tryz.prog 65 #[.agg h.cells, .string cd] W fun e w' => e = .returned (.tuple #[.agg X.toArray, .bool il]) ∧ Below W.heap.size W w') := Lib.hid (fun W hW => by have := fcOrder (hh.below hW) cd; rw [hX, hil] at this; exact this)
 rw [hmm] at hn9
 have HMM := Lib.hid hmm
 have HCD := Lib.hid hcd
 have HSI := Lib.hid hsi
 have HLV := Lib.hid hll
 have HLL : Hid ((Tryz.prog.info? 40).map (·.size) = some ll.length) := Lib.hid (by rw [HLF.out.length]; kernel_rfl)
 have huL8 := Tryz.underlying40
 rw [her]
 clear her hcd hsi hll hX hil hnm hzb hle hmm hz hl
 have HSNO : Hid (∀ y, Fits kOrder y → (Tryz.prog.info? 42).map (·.size) = some y.toArray.size) := Lib.hid (fun y hy => by rw [show (Tryz.prog.info? 42).map (·.size) = some 50 from by kernel_rfl, List.size_toArray, hy.length]; rfl)
 have huNO := Tryz.underlying42
 have HOO : Hid (∀ y, Fits kOrder y → (#[.string ⟨#[]⟩, .string ⟨#[]⟩, .string ⟨#[]⟩, .int .i64 0, .int .i64 0, .int .i64 0, .int .i64 0, .int .i64 0, .string ⟨#[]⟩, .int .i64 0, .int .i64 0, .int .i64 0, .int .i64 0, .int .i64 0, .string ⟨#[]⟩, .int .i64 0, .int .i64 0, .int .i64 0, .int .i64 0, .int .i64 0, .string ⟨#[]⟩, .int .i64 0, .int .i64 0, .int .i64 0, .int .i64 0, .int .i64 0, .string ⟨#[]⟩, .int .i64 0, .int .i64 0, .int .i64 0, .int .i64 0, .int .i64 0, .string ⟨#[]⟩, .int .i64 0, .int .i64 0, .int .i64 0, .int .i64 0, .int .i64 0, .string ⟨#[]⟩, .int .i64 0, .int .i64 0, .int .i64 0, .int .i64 0, .int .i64 0, .string ⟨#[]⟩, .int .i64 0, .int .i64 0, .int .i64 0, .int .i64 0, .int .i64 0] : Array Value).size = y.toArray.size) := Lib.hid (fun y hy => by rw [List.size_toArray, List.size_toArray, hy.length]; rfl)
 have HOC : Hid (∀ y, Fits kOrder y → y.toArray.all (·.oneCell') = true) := Lib.hid (fun y hy => all_oneCell_toArray (fits_one hy))
 obtain ⟨W0, hW0⟩ : ∃ W0, W0 = ((w.alloc (.cells h.cells 37)).alloc (.cells cs.toArray 42)) := ⟨_, rfl⟩
 have hb0 : Below w.heap.size w W0 := by rw [hW0]; exact ((Below.refl _ _).alloc (Nat.le_refl _) _).alloc (by simp <;> omega) _
 have hs0 : W0.heap.size = w.heap.size + 2 := by rw [hW0]; simp
 have HH : Hid (∀ W, Below W0.heap.size W0 W → W.heap[w.heap.size]? = some (.cells h.cells 37 (0, 0))) := Lib.hid (fun W hW => (hW.block _ (by omega)).trans (by
  rw [hW0]
  have hq := heap_alloc_new w (.cells h.cells 37)
  exact (Below.heap_alloc _ _ _ (by simp <;> omega)).trans ((by simpa using hq))))
 have HX : Hid (∀ W, Below W0.heap.size W0 W → W.heap[w.heap.size + 1]? = some (.cells cs.toArray 42 (0, 0))) := Lib.hid (fun W hW => (hW.block _ (by omega)).trans (by
  rw [hW0]
  have hq := heap_alloc_new (w.alloc (.cells h.cells 37)) (.cells cs.toArray 42)
  exact (by simpa using hq)))
 have HBW : Hid (∀ W, Below W0.heap.size W0 W → Below w.heap.size w W ∧ w.heap.size + 2 ≤ W.heap.size) := Lib.hid (fun W hW => ⟨hb0.trans (hW.mono (by omega)), by have := hW.size; omega⟩)
 have huh := Tryz.underlying37
 have HSH : Hid (∀ a : Hs, (Tryz.prog.info? 37).map (·.size) = some a.cells.size) := Lib.hid (fun a => by kernel_rfl)
 have huHX := Tryz.underlying42
 have HL7 : Hid (∀ W, Below W0.heap.size W0 W → W.cell? ⟨w.heap.size, 7, none⟩ = some (.slice (h.A 7) m (h.c 7)) ∧ w.heap.size < W.heap.size) := Lib.hid (fun W hW => ⟨by rw [cell_of_block (HH.out W hW), ← HMM.out]; rfl, by have := hW.size; omega⟩)
 have HCX : Hid (∀ W, Below W0.heap.size W0 W → W.cell? ⟨w.heap.size + 1, 0, none⟩ = some (.string cd) ∧ W.cell? ⟨w.heap.size + 1, 1, none⟩ = some (.string si) ∧ W.rangeAt (w.heap.size + 1) 2 ll ∧ w.heap.size + 1 < W.heap.size) := Lib.hid (fun W hW => by have := corder_box (HX.out W hW) HCF.out; rwa [HCD.out, HSI.out, HLV.out] at this)
 have HSHL : Hid (∀ a : Hs, (Tryz.prog.info? 37).map (·.size) = some a.cells.toList.length) := Lib.hid (fun a => by kernel_rfl)
 have H0 := Lib.hid (Below.refl W0.heap.size W0)
 clear hb0 hs0 hh hf hm
 subst hW0
 go_enter Tryz.func41, Tryz.ntmps41
 obtain ⟨x0, x1, x2, xlt⟩ := HCX.out _ H0.out
 go_wp2_with fail
 refine (CN.out _).mono ?_
 rintro e w1 ⟨rfl, hb1⟩
 have H1 := Lib.hid (H0.out.trans (hb1.mono H0.out.size))
 clear hb1
 clear x0 x1 x2 xlt
 by_cases hk : nm = 0
 · subst hk
   obtain ⟨x0, x1, x2, xlt⟩ := HCX.out _ H1.out
   go_wp2_with (first
    | (refine wpList_load_row rfl 37 (.tmp 2) rfl w.heap.size rfl _ _ _ _ (HH.out _ H1.out) huh rfl (HSH.out _) ?_)
    | fail)
   refine (CZ.out _ (HBW.out _ H1.out).1).mono ?_
   rintro e w2 ⟨rfl, hb2⟩
   have H2 := Lib.hid (H1.out.trans (hb2.mono H1.out.size))
   clear hb2
   clear x0 x1 x2 xlt
   cases zb with
   | false =>
    have HE : Hid (er = 12) := Lib.hid (by rw [HA.out]; rfl)
    go_wp2_with fail
    go_ret
    exact ⟨by rw [HE.out]; rfl, (HBW.out _ H2.out).1⟩
   | true =>
    obtain ⟨x0, x1, x2, xlt⟩ := HCX.out _ H2.out
    go_wp2_with (first
     | (refine wpList_load_row rfl 37 (.tmp 2) rfl w.heap.size rfl _ _ _ _ (HH.out _ H2.out) huh rfl (HSH.out _) ?_)
     | (refine wpList_load_mid rfl 40 (.tmp 21) rfl (w.heap.size + 1) 2 rfl ll _ x2 huL8 rfl HLL.out ?_)
     | fail)
    refine (CL.out _ (HBW.out _ H2.out).1).mono ?_
    rintro e w3 ⟨rfl, hb3⟩
    have H3 := Lib.hid (H2.out.trans (hb3.mono H2.out.size))
    clear hb3
    clear x0 x1 x2 xlt
    by_cases hl : le = 0
    · subst hl
      obtain ⟨x0, x1, x2, xlt⟩ := HCX.out _ H3.out
      go_wp2_with (first
       | (refine wpList_load_row rfl 37 (.tmp 2) rfl w.heap.size rfl _ _ _ _ (HH.out _ H3.out) huh rfl (HSH.out _) ?_)
       | fail)
      refine (CF.out _ (HBW.out _ H3.out).1).mono ?_
      rintro e v1 ⟨rfl, hb9⟩
      have HPHQ1 := Lib.hid (H3.out.trans (hb9.mono H3.out.size))
      clear hb9
      have HBXHQ1 : Hid ((v1.alloc (.cells #[.string ⟨#[]⟩, .string ⟨#[]⟩, .string ⟨#[]⟩, .int .i64 0, .int .i64 0, .int .i64 0, .int .i64 0, .int .i64 0, .string ⟨#[]⟩, .int .i64 0, .int .i64 0, .int .i64 0, .int .i64 0, .int .i64 0, .string ⟨#[]⟩, .int .i64 0, .int .i64 0, .int .i64 0, .int .i64 0, .int .i64 0, .string ⟨#[]⟩, .int .i64 0, .int .i64 0, .int .i64 0, .int .i64 0, .int .i64 0, .string ⟨#[]⟩, .int .i64 0, .int .i64 0, .int .i64 0, .int .i64 0, .int .i64 0, .string ⟨#[]⟩, .int .i64 0, .int .i64 0, .int .i64 0, .int .i64 0, .int .i64 0, .string ⟨#[]⟩, .int .i64 0, .int .i64 0, .int .i64 0, .int .i64 0, .int .i64 0, .string ⟨#[]⟩, .int .i64 0, .int .i64 0, .int .i64 0, .int .i64 0, .int .i64 0] 42)).heap[v1.heap.size]? = some (.cells #[.string ⟨#[]⟩, .string ⟨#[]⟩, .string ⟨#[]⟩, .int .i64 0, .int .i64 0, .int .i64 0, .int .i64 0, .int .i64 0, .string ⟨#[]⟩, .int .i64 0, .int .i64 0, .int .i64 0, .int .i64 0, .int .i64 0, .string ⟨#[]⟩, .int .i64 0, .int .i64 0, .int .i64 0, .int .i64 0, .int .i64 0, .string ⟨#[]⟩, .int .i64 0, .int .i64 0, .int .i64 0, .int .i64 0, .int .i64 0, .string ⟨#[]⟩, .int .i64 0, .int .i64 0, .int .i64 0, .int .i64 0, .int .i64 0, .string ⟨#[]⟩, .int .i64 0, .int .i64 0, .int .i64 0, .int .i64 0, .int .i64 0, .string ⟨#[]⟩, .int .i64 0, .int .i64 0, .int .i64 0, .int .i64 0, .int .i64 0, .string ⟨#[]⟩, .int .i64 0, .int .i64 0, .int .i64 0, .int .i64 0, .int .i64 0] 42 (0, 0))) := Lib.hid (heap_alloc_new _ _)
      obtain ⟨v1b, hv1b⟩ : ∃ W, W = (v1.alloc (.cells #[.string ⟨#[]⟩, .string ⟨#[]⟩, .string ⟨#[]⟩, .int .i64 0, .int .i64 0, .int .i64 0, .int .i64 0, .int .i64 0, .string ⟨#[]⟩, .int .i64 0, .int .i64 0, .int .i64 0, .int .i64 0, .int .i64 0, .string ⟨#[]⟩, .int .i64 0, .int .i64 0, .int .i64 0, .int .i64 0, .int .i64 0, .string ⟨#[]⟩, .int .i64 0, .int .i64 0, .int .i64 0, .int .i64 0, .int .i64 0, .string ⟨#[]⟩, .int .i64 0, .int .i64 0, .int .i64 0, .int .i64 0, .int .i64 0, .string ⟨#[]⟩, .int .i64 0, .int .i64 0, .int .i64 0, .int .i64 0, .int .i64 0, .string ⟨#[]⟩, .int .i64 0, .int .i64 0, .int .i64 0, .int .i64 0, .int .i64 0, .string ⟨#[]⟩, .int .i64 0, .int .i64 0, .int .i64 0, .int .i64 0, .int .i64 0] 42)).setRow v1.heap.size X.toArray := ⟨_, rfl⟩
      have HQ1 : Hid (Below ((w.alloc (.cells h.cells 37)).alloc (.cells cs.toArray 42)).heap.size ((w.alloc (.cells h.cells 37)).alloc (.cells cs.toArray 42)) v1b) := Lib.hid (by rw [hv1b]; exact setRow_below (HPHQ1.out.alloc HPHQ1.out.size _) HPHQ1.out.size _)
      have HRHQ1 : Hid (v1b.heap[v1.heap.size]? = some (.cells X.toArray 42 (0, 0))) := Lib.hid (by rw [hv1b]; exact setRow_heap _ _ _ _ _ _ HBXHQ1.out)
      have HWHQ1 := Lib.hid hv1b
      clear hv1b
      clear x0 x1 x2 xlt
      cases il with
      | true =>
       have HE : Hid (er = 11) := Lib.hid (by rw [HA.out]; rfl)
       go_wp2_with (first
        | (refine wpList_store_row rfl 42 (.tmp 7) (.tmp 32) rfl v1.heap.size X.toArray rfl rfl _ _ HBXHQ1.out (HSNO.out _ HXF.out) (HOO.out _ HXF.out) (HOC.out _ HXF.out) ?_; rw [← HWHQ1.out])
        | fail)
       go_ret
       exact ⟨by rw [HE.out]; rfl, (HBW.out _ HQ1.out).1⟩
      | false =>
       obtain ⟨d6, dlt⟩ := HL7.out _ HQ1.out
       by_cases q1 : 32 ≤ m
       ·
        have HE : Hid (er = 14) := Lib.hid (by rw [HA.out]; simp [q1])
        go_wp2_with (first
         | (refine wpList_store_row rfl 42 (.tmp 7) (.tmp 32) rfl v1.heap.size X.toArray rfl rfl _ _ HBXHQ1.out (HSNO.out _ HXF.out) (HOO.out _ HXF.out) (HOC.out _ HXF.out) ?_; rw [← HWHQ1.out])
         | fail)
        go_ret
        exact ⟨by rw [HE.out]; rfl, (HBW.out _ HQ1.out).1⟩
       ·
        have HE : Hid (er = 0) := Lib.hid (by rw [HA.out]; simp [q1])
        go_wp2_with (first
         | (refine wpList_store_row rfl 42 (.tmp 7) (.tmp 32) rfl v1.heap.size X.toArray rfl rfl _ _ HBXHQ1.out (HSNO.out _ HXF.out) (HOO.out _ HXF.out) (HOC.out _ HXF.out) ?_; rw [← HWHQ1.out])
         | fail)
        go_ret
        exact ⟨by rw [HE.out]; rfl, (HBW.out _ HQ1.out).1⟩
    · have bn : ((le : Int) != 0) = true := by simpa using hl
      have HKL := Lib.hid hl
      clear hl
      have HE : Hid (er = le) := Lib.hid (by rw [HA.out]; simp [HKL.out])
      go_wp2_with fail
      go_ret
      exact ⟨by rw [HE.out]; rfl, (HBW.out _ H3.out).1⟩
 · have bn : ((nm : Int) != 0) = true := by simpa using hk
   have HKL := Lib.hid hk
   clear hk
   have HE : Hid (er = nm) := Lib.hid (by rw [HA.out]; simp [HKL.out])
   go_wp2_with fail
   go_ret
   exact ⟨by rw [HE.out]; rfl, (HBW.out _ H1.out).1⟩

set_option maxRecDepth 100000 in
set_option maxHeartbeats 3200000 in
theorem corder (h : Hs) (L : Nat → List (List Value)) (cs : List Value) (w : World) (hh : HT h L w) (hf : Fits kOrder cs) (hm : (codeOf cs).size ≤ maxLen) (hn6 : h.n 7 ≤ 1100) (hc1 : h.n 7 ≤ h.c 7 ∧ h.c 7 ≤ 9223372036854775807) :
 Calls Tryz.prog 11 #[.agg h.cells, .agg cs.toArray] w (PutP 42 50 7 (ordE L cs) (putG ordOrder (L 7) cs) h w) := by
 have HXF := Lib.hid hf
 obtain ⟨k, hk⟩ : ∃ k, ordE L cs = k := ⟨_, rfl⟩
 obtain ⟨lx, hlx⟩ : ∃ l, putG ordOrder (L 7) cs = l := ⟨_, rfl⟩
 have HCK : Hid (∀ W, Below w.heap.size w W → Calls Tryz.prog 41 #[.agg h.cells, .agg cs.toArray] W fun e w' => e = .returned (.int .i64 (k : Nat)) ∧ Below W.heap.size W w') := Lib.hid (fun W hW => by
  rw [← hk]
  have h0 := hh.below hW
  exact ccheckO h L cs W h0 hf hm (fun W2 h2 => cisSite h L (nsite cs) W2 (h0.below h2)) (fun W2 h2 => clines h L (oLines cs) W2 (h0.below h2) (order_parts hf).2.2.1))
 have HP2 : Hid (∀ W, Below w.heap.size w W → Calls Tryz.prog 42 #[.agg h.cells, .agg cs.toArray] W fun e w' => Below W.heap.size W w' ∧ ∃ A n c, n = lx.length ∧ w'.ownsRow W.heap.size 42 50 (.slice A n c) n lx.flatten ∧ e = .returned (.agg (h.set 7 A n c).cells)) := Lib.hid (fun W hW => by rw [← hlx]; exact cwithO h L cs W (hh.below hW) hf hn6 hc1)
 rw [hk, hlx]
 clear hk hlx hm hf
 have HSNO : Hid (∀ y, Fits kOrder y → (Tryz.prog.info? 42).map (·.size) = some y.toArray.size) := Lib.hid (fun y hy => by rw [show (Tryz.prog.info? 42).map (·.size) = some 50 from by kernel_rfl, List.size_toArray, hy.length]; rfl)
 have huNO := Tryz.underlying42
 have HOO : Hid (∀ y, Fits kOrder y → (#[.string ⟨#[]⟩, .string ⟨#[]⟩, .string ⟨#[]⟩, .int .i64 0, .int .i64 0, .int .i64 0, .int .i64 0, .int .i64 0, .string ⟨#[]⟩, .int .i64 0, .int .i64 0, .int .i64 0, .int .i64 0, .int .i64 0, .string ⟨#[]⟩, .int .i64 0, .int .i64 0, .int .i64 0, .int .i64 0, .int .i64 0, .string ⟨#[]⟩, .int .i64 0, .int .i64 0, .int .i64 0, .int .i64 0, .int .i64 0, .string ⟨#[]⟩, .int .i64 0, .int .i64 0, .int .i64 0, .int .i64 0, .int .i64 0, .string ⟨#[]⟩, .int .i64 0, .int .i64 0, .int .i64 0, .int .i64 0, .int .i64 0, .string ⟨#[]⟩, .int .i64 0, .int .i64 0, .int .i64 0, .int .i64 0, .int .i64 0, .string ⟨#[]⟩, .int .i64 0, .int .i64 0, .int .i64 0, .int .i64 0, .int .i64 0] : Array Value).size = y.toArray.size) := Lib.hid (fun y hy => by rw [List.size_toArray, List.size_toArray, hy.length]; rfl)
 have HOC : Hid (∀ y, Fits kOrder y → y.toArray.all (·.oneCell') = true) := Lib.hid (fun y hy => all_oneCell_toArray (fits_one hy))
 obtain ⟨W0, hW0⟩ : ∃ W0, W0 = (((w.alloc (.cells h.cells 37)).alloc (.cells cs.toArray 42)).alloc (.cells #[.slice none 0 0, .slice none 0 0, .slice none 0 0, .slice none 0 0, .slice none 0 0, .slice none 0 0, .slice none 0 0, .slice none 0 0, .slice none 0 0, .slice none 0 0, .slice none 0 0, .slice none 0 0, .slice none 0 0, .slice none 0 0, .int .i64 0] 37)) := ⟨_, rfl⟩
 have hb0 : Below w.heap.size w W0 := by rw [hW0]; exact (((Below.refl _ _).alloc (Nat.le_refl _) _).alloc (by simp <;> omega) _).alloc (by simp <;> omega) _
 have hs0 : W0.heap.size = w.heap.size + 3 := by rw [hW0]; simp
 have HH : Hid (∀ W, Below W0.heap.size W0 W → W.heap[w.heap.size]? = some (.cells h.cells 37 (0, 0))) := Lib.hid (fun W hW => (hW.block _ (by omega)).trans (by
  rw [hW0]
  have hq := heap_alloc_new w (.cells h.cells 37)
  exact (Below.heap_alloc _ _ _ (by simp <;> omega)).trans ((Below.heap_alloc _ _ _ (by simp <;> omega)).trans ((by simpa using hq)))))
 have HX : Hid (∀ W, Below W0.heap.size W0 W → W.heap[w.heap.size + 1]? = some (.cells cs.toArray 42 (0, 0))) := Lib.hid (fun W hW => (hW.block _ (by omega)).trans (by
  rw [hW0]
  have hq := heap_alloc_new (w.alloc (.cells h.cells 37)) (.cells cs.toArray 42)
  exact (Below.heap_alloc _ _ _ (by simp <;> omega)).trans ((by simpa using hq))))
 have HZ : Hid (∀ W, Below W0.heap.size W0 W → W.heap[w.heap.size + 2]? = some (.cells Hs.zero 37 (0, 0))) := Lib.hid (fun W hW => (hW.block _ (by omega)).trans (by
  rw [hW0]
  have hq := heap_alloc_new ((w.alloc (.cells h.cells 37)).alloc (.cells cs.toArray 42)) (.cells #[.slice none 0 0, .slice none 0 0, .slice none 0 0, .slice none 0 0, .slice none 0 0, .slice none 0 0, .slice none 0 0, .slice none 0 0, .slice none 0 0, .slice none 0 0, .slice none 0 0, .slice none 0 0, .slice none 0 0, .slice none 0 0, .int .i64 0] 37)
  exact (by simpa [Hs.zero] using hq)))
 have HBW : Hid (∀ W, Below W0.heap.size W0 W → Below w.heap.size w W ∧ w.heap.size + 3 ≤ W.heap.size) := Lib.hid (fun W hW => ⟨hb0.trans (hW.mono (by omega)), by have := hW.size; omega⟩)
 have huh := Tryz.underlying37
 have HSH : Hid (∀ a : Hs, (Tryz.prog.info? 37).map (·.size) = some a.cells.size) := Lib.hid (fun a => by kernel_rfl)
 have HSQ : Hid ((Tryz.prog.info? 37).map (·.size) = some Hs.zero.size) := Lib.hid (by kernel_rfl)
 have H1C : Hid (∀ a : Hs, a.cells.all (·.oneCell') = true) := Lib.hid (fun a => by simp [Hs.cells, Value.oneCell'])
 have H1Q : Hid (Hs.zero.all (·.oneCell') = true) := Lib.hid (by simp [Hs.zero, Value.oneCell'])
 have huHX := Tryz.underlying42
 have H0 := Lib.hid (Below.refl W0.heap.size W0)
 clear hb0 hs0 hh hn6 hc1
 subst hW0
 go_enter Tryz.func11, Tryz.ntmps11
 go_wp2_with (first
  | (refine wpList_load_row rfl 37 (.tmp 2) rfl w.heap.size rfl _ _ _ _ (HH.out _ H0.out) huh rfl (HSH.out _) ?_)
  | (refine wpList_load_row rfl 42 (.tmp 3) rfl (w.heap.size + 1) rfl _ _ _ _ (HX.out _ H0.out) huNO rfl (HSNO.out _ HXF.out) ?_)
  | fail)
 refine (HCK.out _ (HBW.out _ H0.out).1).mono ?_
 rintro e w1 ⟨rfl, hb1⟩
 have H1 := Lib.hid (H0.out.trans (hb1.mono H0.out.size))
 clear hb1
 by_cases hk : k = 0
 · have HE := Lib.hid hk
   have bn : ((k : Int) != 0) = false := by simpa using hk
   clear hk
   go_wp2_with (first
    | (refine wpList_load_row rfl 37 (.tmp 2) rfl w.heap.size rfl _ _ _ _ (HH.out _ H1.out) huh rfl (HSH.out _) ?_)
    | (refine wpList_load_row rfl 42 (.tmp 3) rfl (w.heap.size + 1) rfl _ _ _ _ (HX.out _ H1.out) huNO rfl (HSNO.out _ HXF.out) ?_)
    | fail)
   refine (HP2.out _ (HBW.out _ H1.out).1).mono ?_
   rintro e w5 ⟨hb9, A, n, cc, hl, hown, rfl⟩
   have H9 := Lib.hid (H1.out.trans (hb9.mono H1.out.size))
   have HO9 := Lib.hid hown
   have HLE := Lib.hid hl
   have HSZ9 := Lib.hid (HBW.out _ H1.out).2
   clear hb9 hown hl
   go_wp2_with (first
    | (refine wpList_store_row rfl 37 (.tmp 4) (.tmp 16) rfl (w.heap.size + 2) (h.set 7 A n cc).cells rfl rfl _ _ (HZ.out _ H9.out) (HSH.out _) rfl (H1C.out _) ?_)
    | fail)
   exact bodyPost_ret (results_row_tmp rfl _ _ (w.heap.size + 2) _ _ _ _ rfl (setRow_heap _ _ _ _ _ _ (HZ.out _ H9.out)) huh rfl (HSH.out _)) rfl ⟨setRow_below (HBW.out _ H9.out).1 (by omega) _, .inr ⟨HE.out, A, n, cc, HLE.out, own_rowed HO9.out (by have := HSZ9.out; omega) (by have := HSZ9.out; omega), rfl⟩⟩
 · have hk0 : ((k : Int) != 0) = true := by simpa using hk
   have HK := Lib.hid hk
   clear hk
   go_wp2_with (first
    | (refine wpList_store_row rfl 37 (.tmp 4) (.tmp 12) rfl (w.heap.size + 2) Hs.zero rfl rfl _ _ (HZ.out _ H1.out) HSQ.out rfl H1Q.out ?_)
    | fail)
   exact bodyPost_ret (results_row_tmp rfl _ _ (w.heap.size + 2) _ _ _ _ rfl (setRow_heap _ _ _ _ _ _ (HZ.out _ H1.out)) huh rfl HSQ.out) rfl ⟨setRow_below (HBW.out _ H1.out).1 (by omega) _, .inl ⟨HK.out, rfl⟩⟩
end Go.Proofs.YtlkmccmbpnbgbaaGreat
