/-
  CONTRACTS of nums.Name and the reference's Name.
  CONTRACTS of the code's withOrder, checkOrder, Order. (By wip/tools/gen_acode.py.)
  (By wip/tools/merge.py.)
-/
import Derived.Test.YtlkmccmbpnbgbaaGreatRows
import Derived.Test.YtlkmccmbpnbgbaaGreatOPl
import Derived.WalkKit
import Derived.Lib.Hide
import Derived.ProofKit
import Derived.Test.YtlkmccmbpnbgbaaGreatAFacts
import Derived.Test.YtlkmccmbpnbgbaaGreatKO
import Derived.Test.YtlkmccmbpnbgbaaGreatKLines
import Derived.Test.YtlkmccmbpnbgbaaGreatJHead
import Derived.Test.YtlkmccmbpnbgbaaGreatGT
import Derived.Deep.CutRange
namespace Go.Proofs.YtlkmccmbpnbgbaaGreat
set_option linter.unusedVariables false
open Go.RowKit

end Go.Proofs.YtlkmccmbpnbgbaaGreat

namespace Go.Proofs.YtlkmccmbpnbgbaaGreat
set_option linter.unusedVariables false
open Go.RowKit
open Pl (firstG firstG_none firstG_some findG overG putG dropG It)

theorem corder_box {w : World} {b : Nat} {cs : List Value} {t : TypeId} (h : w.heap[b]? = some (.cells cs.toArray t (0, 0))) (hf : Fits kOrder cs) : w.cell? ⟨b, 0, none⟩ = some (.string (codeOf cs)) ∧ w.cell? ⟨b, 1, none⟩ = some (.string (nsite cs)) ∧ w.rangeAt b 2 (oLines cs) ∧ b < w.heap.size := by
 obtain ⟨h0, h1, h2, hl, ho⟩ := order_parts hf
 refine ⟨by rw [cell_of_block h, List.getElem?_toArray]; exact h0, by rw [cell_of_block h, List.getElem?_toArray]; exact h1, fun i v hv => ?_, lt_of_block h⟩
 rw [ho, List.getElem?_drop] at hv
 rw [cell_of_block h, List.getElem?_toArray]; exact hv
set_option maxRecDepth 100000 in
set_option maxHeartbeats 3200000 in
theorem cwithO (h : Hs) (L : Nat → List (List Value)) (cs : List Value) (w : World) (hh : HT h L w) (hf : Fits kOrder cs) (hn6 : h.n 7 ≤ 1100) (hc1 : h.n 7 ≤ h.c 7 ∧ h.c 7 ≤ 9223372036854775807) :
 Calls Tryz.prog 42 #[.agg h.cells, .agg cs.toArray] w fun e w' => Below w.heap.size w w' ∧ ∃ A n c, n = (putG ordOrder (L 7) cs).length ∧ w'.ownsRow w.heap.size 42 50 (.slice A n c) n (putG ordOrder (L 7) cs).flatten ∧ e = .returned (.agg (h.set 7 A n c).cells) := by
 have HXF := Lib.hid hf
 obtain ⟨lx, hlx2⟩ : ∃ l, putG ordOrder (L 7) cs = l := ⟨_, rfl⟩
 obtain ⟨m, hmm⟩ : ∃ m, h.n 7 = m := ⟨_, rfl⟩
 have HPU : Hid (∀ W, Below w.heap.size w W → Calls Tryz.prog 82 #[.agg #[.func (.func 111) #[] #[]], .slice (h.A 7) m (h.c 7), .agg (cs).toArray] W (NewOrder W lx)) := Lib.hid (fun W hW => by have h9 := putOrder (h.A 7) (h.n 7) (h.c 7) 111 #[] ordOrder (cs) (L 7) W (hh 7 (by decide)).1 hc1.1 hc1.2 (by omega) (hh 7 (by decide)).2.2.1 (hf) ((hh.below hW) 7 (by decide)).2.2.2 (tellsOrder W); rw [hmm, hlx2] at h9; exact h9)
 have HSS : Hid ((Tryz.prog.info? 42).map (·.size) = some cs.length) := Lib.hid (by rw [HXF.out.length]; kernel_rfl)
 have HMM := Lib.hid hmm
 rw [hmm] at hn6
 rw [hlx2]
 clear hlx2 hmm hf
 have HSNO : Hid (∀ y, Fits kOrder y → (Tryz.prog.info? 42).map (·.size) = some y.toArray.size) := Lib.hid (fun y hy => by rw [show (Tryz.prog.info? 42).map (·.size) = some 50 from by kernel_rfl, List.size_toArray, hy.length]; rfl)
 have huNO := Tryz.underlying42
 have HOO : Hid (∀ y, Fits kOrder y → (#[.string ⟨#[]⟩, .string ⟨#[]⟩, .string ⟨#[]⟩, .int .i64 0, .int .i64 0, .int .i64 0, .int .i64 0, .int .i64 0, .string ⟨#[]⟩, .int .i64 0, .int .i64 0, .int .i64 0, .int .i64 0, .int .i64 0, .string ⟨#[]⟩, .int .i64 0, .int .i64 0, .int .i64 0, .int .i64 0, .int .i64 0, .string ⟨#[]⟩, .int .i64 0, .int .i64 0, .int .i64 0, .int .i64 0, .int .i64 0, .string ⟨#[]⟩, .int .i64 0, .int .i64 0, .int .i64 0, .int .i64 0, .int .i64 0, .string ⟨#[]⟩, .int .i64 0, .int .i64 0, .int .i64 0, .int .i64 0, .int .i64 0, .string ⟨#[]⟩, .int .i64 0, .int .i64 0, .int .i64 0, .int .i64 0, .int .i64 0, .string ⟨#[]⟩, .int .i64 0, .int .i64 0, .int .i64 0, .int .i64 0, .int .i64 0] : Array Value).size = y.toArray.size) := Lib.hid (fun y hy => by rw [List.size_toArray, List.size_toArray, hy.length]; rfl)
 have HOC : Hid (∀ y, Fits kOrder y → y.toArray.all (·.oneCell') = true) := Lib.hid (fun y hy => all_oneCell_toArray (fits_one hy))
 obtain ⟨W0, hW0⟩ : ∃ W0, W0 = (((w.alloc (.cells h.cells 37)).alloc (.cells cs.toArray 42)).alloc (.cells #[.slice none 0 0, .slice none 0 0, .slice none 0 0, .slice none 0 0, .slice none 0 0, .slice none 0 0, .slice none 0 0, .slice none 0 0, .slice none 0 0, .slice none 0 0, .slice none 0 0, .slice none 0 0, .slice none 0 0, .slice none 0 0, .int .i64 0] 37)) := ⟨_, rfl⟩
 have hb0 : Below w.heap.size w W0 := by rw [hW0]; exact (((Below.refl _ _).alloc (Nat.le_refl _) _).alloc (by simp <;> omega) _).alloc (by simp <;> omega) _
 have hs0 : W0.heap.size = w.heap.size + 3 := by rw [hW0]; simp
 have HH : Hid (∀ W, Below W0.heap.size W0 W → W.heap[w.heap.size]? = some (.cells h.cells 37 (0, 0))) := Lib.hid (fun W hW => (hW.block _ (by omega)).trans (by
  rw [hW0]
  have hq := heap_alloc_new w (.cells h.cells 37)
  exact (Below.heap_alloc _ _ _ (by simp <;> omega)).trans ((Below.heap_alloc _ _ _ (by simp <;> omega)).trans ((by simpa using hq)))))
 have HX : Hid (∀ W, Below W0.heap.size W0 W → W.heap[w.heap.size + 1]? = some (.cells cs.toArray 42 (0, 0))) := Lib.hid (fun W hW => (hW.block _ (by omega)).trans (by
  rw [hW0]
  have hq := heap_alloc_new (w.alloc (.cells h.cells 37)) (.cells cs.toArray 42)
  exact (Below.heap_alloc _ _ _ (by simp <;> omega)).trans ((by simpa using hq))))
 have HZ : Hid (∀ W, Below W0.heap.size W0 W → W.heap[w.heap.size + 2]? = some (.cells Hs.zero 37 (0, 0))) := Lib.hid (fun W hW => (hW.block _ (by omega)).trans (by
  rw [hW0]
  have hq := heap_alloc_new ((w.alloc (.cells h.cells 37)).alloc (.cells cs.toArray 42)) (.cells #[.slice none 0 0, .slice none 0 0, .slice none 0 0, .slice none 0 0, .slice none 0 0, .slice none 0 0, .slice none 0 0, .slice none 0 0, .slice none 0 0, .slice none 0 0, .slice none 0 0, .slice none 0 0, .slice none 0 0, .slice none 0 0, .int .i64 0] 37)
  exact (by simpa [Hs.zero] using hq)))
 have HBW : Hid (∀ W, Below W0.heap.size W0 W → Below w.heap.size w W ∧ w.heap.size + 3 ≤ W.heap.size) := Lib.hid (fun W hW => ⟨hb0.trans (hW.mono (by omega)), by have := hW.size; omega⟩)
 have huh := Tryz.underlying37
 have HSH : Hid (∀ a : Hs, (Tryz.prog.info? 37).map (·.size) = some a.cells.size) := Lib.hid (fun a => by kernel_rfl)
 have HSQ : Hid ((Tryz.prog.info? 37).map (·.size) = some Hs.zero.size) := Lib.hid (by kernel_rfl)
 have H1C : Hid (∀ a : Hs, a.cells.all (·.oneCell') = true) := Lib.hid (fun a => by simp [Hs.cells, Value.oneCell'])
 have H1Q : Hid (Hs.zero.all (·.oneCell') = true) := Lib.hid (by simp [Hs.zero, Value.oneCell'])
 have huHX := Tryz.underlying42
 have HLI : Hid (∀ W, Below W0.heap.size W0 W → W.cell? ⟨w.heap.size, 7, none⟩ = some (.slice (h.A 7) m (h.c 7)) ∧ w.heap.size < W.heap.size) := Lib.hid (fun W hW => ⟨by rw [cell_of_block (HH.out W hW), ← HMM.out]; rfl, by have := hW.size; omega⟩)
 have H0 := Lib.hid (Below.refl W0.heap.size W0)
 clear hb0 hs0 hh hn6 hc1
 subst hW0
 go_enter Tryz.func42, Tryz.ntmps42
 obtain ⟨wB, hwB⟩ : ∃ W, W = (((w.alloc (.cells h.cells 37)).alloc (.cells cs.toArray 42)).alloc (.cells #[.slice none 0 0, .slice none 0 0, .slice none 0 0, .slice none 0 0, .slice none 0 0, .slice none 0 0, .slice none 0 0, .slice none 0 0, .slice none 0 0, .slice none 0 0, .slice none 0 0, .slice none 0 0, .slice none 0 0, .slice none 0 0, .int .i64 0] 37)) := ⟨_, rfl⟩
 have HWB0 := Lib.hid hwB
 have hob : Below (((w.alloc (.cells h.cells 37)).alloc (.cells cs.toArray 42)).alloc (.cells #[.slice none 0 0, .slice none 0 0, .slice none 0 0, .slice none 0 0, .slice none 0 0, .slice none 0 0, .slice none 0 0, .slice none 0 0, .slice none 0 0, .slice none 0 0, .slice none 0 0, .slice none 0 0, .slice none 0 0, .slice none 0 0, .int .i64 0] 37)).heap.size (((w.alloc (.cells h.cells 37)).alloc (.cells cs.toArray 42)).alloc (.cells #[.slice none 0 0, .slice none 0 0, .slice none 0 0, .slice none 0 0, .slice none 0 0, .slice none 0 0, .slice none 0 0, .slice none 0 0, .slice none 0 0, .slice none 0 0, .slice none 0 0, .slice none 0 0, .slice none 0 0, .slice none 0 0, .int .i64 0] 37)) wB := by rw [hwB]; exact Below.refl _ _
 have HOB := Lib.hid hob
 clear hob
 have HXB : Hid (∀ W, Below wB.heap.size wB W → W.heap[w.heap.size + 1]? = some (.cells (cs).toArray 42 (0, 0))) := Lib.hid (fun W hW => by have hq := hW; rw [HWB0.out] at hq; exact HX.out W hq)
 have HST : Hid (∀ W, Below wB.heap.size wB W → W.cell? ⟨w.heap.size, 7, none⟩ = some (.slice (h.A 7) m (h.c 7)) ∧ W.rangeAt (w.heap.size + 1) 0 (cs)) := Lib.hid (fun W hW => ⟨(HLI.out W (HOB.out.trans (hW.mono HOB.out.size))).1, range_cells (HXB.out W hW)⟩)
 have HWB := Lib.hid hwB
 clear hwB
 go_upto_region 1 with fail
 rw [← HWB.out]
 go_wp2_with fail
 refine lastW_region (S := (fun w' => w'.cell? ⟨w.heap.size, 7, none⟩ = some (.slice (h.A 7) (m) (h.c 7)) ∧ w'.rangeAt (w.heap.size + 1) 0 (cs))) (n := 6) (by kernel_rfl) ?_
 have ST5 := HST.out _ (Below.refl wB.heap.size wB).drew
 refine LastW.take (i := 1) (v := .pointer (some ⟨w.heap.size, 7, none⟩)) rfl (by kernel_rfl) (by kernel_rfl) (by kernel_rfl) (by kernel_rfl) (by decide) (fun _ _ _ h => h.elim) (.inl ⟨by kernel_rfl, fun w hw => by clear hw; go_simp⟩) ST5 ?_
 (try simp only [ax])
 refine LastW.take (i := 2) (v := .slice (h.A 7) (m) (h.c 7)) rfl (by kernel_rfl) (by kernel_rfl) (by kernel_rfl) (by kernel_rfl) (by decide) (fun _ _ _ h => h.elim) (.inl ⟨by kernel_rfl, fun w hw => by have hw := hw.1; go_simp⟩) ST5 ?_
 (try simp only [ax])
 refine LastW.take (i := 3) (v := .agg (cs).toArray) rfl (by kernel_rfl) (by kernel_rfl) (by kernel_rfl) (by kernel_rfl) (by decide) (fun _ _ _ h => h.elim) (yieldsIf_load_mid (by kernel_rfl) 42 (.tmp 3) rfl (w.heap.size + 1) 0 rfl (cs) _ (fun w h => h.2) huNO rfl HSS.out) ST5 ?_
 (try simp only [ax])
 refine LastW.one (i := 0) (by kernel_rfl) rfl (fun K hK => ?_)
 go_simp
 refine (tabOrder_any _).mono ?_
 rintro e w7 ⟨rfl, hb7⟩
 have H7 := Lib.hid ((Below.refl wB.heap.size wB).drew.trans (hb7.mono (Below.refl wB.heap.size wB).drew.size))
 clear hb7
 refine hK.out _ _ (fun _ => HST.out _ H7.out) (fun _ => ?_)
 clear hK K
 (try simp only [ax])
 have H7W := Lib.hid (HOB.out.trans (H7.out.mono HOB.out.size))
 refine LastW.one (i := 4) (by kernel_rfl) rfl (fun K hK => ?_)
 go_simp
 refine (HPU.out _ (HBW.out _ H7W.out).1).mono ?_
 rintro e w8 ⟨A5, n5, p5, hl5, rfl, hown5, hb8⟩
 have H8 := Lib.hid (H7.out.trans (hb8.mono H7.out.size))
 have H8W := Lib.hid (HOB.out.trans (H8.out.mono HOB.out.size))
 have HO5 := Lib.hid hown5
 have HLE := Lib.hid hl5
 clear hb8 hown5 hl5
 refine hK.out _ _ (fun _ => HST.out _ H8.out) (fun _ => ?_)
 clear hK K
 (try simp only [ax])
 refine LastW.take (i := 5) (v := .pointer (some ⟨w.heap.size, 7, none⟩)) rfl (by kernel_rfl) (by kernel_rfl) (by kernel_rfl) (by kernel_rfl) (by decide) (fun _ _ _ h => h.elim) (.inl ⟨by kernel_rfl, fun w hw => by clear hw; go_simp⟩) (HST.out _ H8.out) ?_
 (try simp only [ax])
 refine LastW.one (i := 6) (by kernel_rfl) rfl (fun K hK => ?_)
 have c5 := (HLI.out _ H8W.out).1
 have f5 : w8.frozen? ⟨w.heap.size, 7, none⟩ = false := frozen_of_block (HH.out _ H8W.out)
 have HZ5 := Lib.hid (HZ.out _ H8W.out)
 have HH5 := Lib.hid (HH.out _ H8W.out)
 have HB5 := Lib.hid (HBW.out _ H8W.out)
 go_simp
 refine hK.out _ _ (fun h => absurd rfl h) (fun _ => ?_)
 clear hK K
 (try simp only [ax])
 refine LastW.done (by kernel_rfl) ?_ _
 refine NoPanic.normal ?_
 have H9 : Hid ((w8.setCell ⟨w.heap.size, 7, none⟩ (.slice A5 n5 p5)).heap[w.heap.size]? = some (.cells (h.set 7 A5 n5 p5).cells 37 (0, 0))) := Lib.hid (by rw [block_setCell HH5.out, h.set_cells _ _ _ 7 (by decide)])
 have HZ6 : Hid ((w8.setCell ⟨w.heap.size, 7, none⟩ (.slice A5 n5 p5)).heap[w.heap.size + 2]? = some (.cells Hs.zero 37 (0, 0))) := Lib.hid ((block_setCell_other (by omega) _).trans HZ5.out)
 have HB6 : Hid (Below w.heap.size w (w8.setCell ⟨w.heap.size, 7, none⟩ (.slice A5 n5 p5))) := Lib.hid (HB5.out.1.setCell (Nat.le_refl _) _)
 have HS4 : Hid (w.heap.size + 2 < w7.heap.size) := Lib.hid (by have := (HBW.out _ H7W.out).2; omega)
 have HO6 : Hid ((w8.setCell ⟨w.heap.size, 7, none⟩ (.slice A5 n5 p5)).ownsRow w7.heap.size 42 50 (.slice A5 n5 p5) n5 lx.flatten) := Lib.hid (own_far HO5.out (by have := HS4.out; simp; omega) (Nat.le_refl _))
 generalize w8.setCell ⟨w.heap.size, 7, none⟩ (.slice A5 n5 p5) = w6 at *
 go_wp2_with (first
  | (refine wpList_load_row rfl 37 (.tmp 2) rfl w.heap.size rfl _ _ _ _ H9.out huh rfl (HSH.out _) ?_)
  | (refine wpList_store_row rfl 37 (.tmp 4) (.tmp 11) rfl (w.heap.size + 2) (h.set 7 A5 n5 p5).cells rfl rfl _ _ HZ6.out (HSH.out _) rfl (H1C.out _) ?_)
  | fail)
 exact bodyPost_ret (results_cell_row rfl _ _ (w.heap.size + 2) _ _ _ _ rfl (setRow_heap _ _ _ _ _ _ HZ6.out) huh rfl (HSH.out _)) rfl ⟨setRow_below HB6.out (by omega) _, A5, n5, p5, HLE.out, own_rowed HO6.out HS4.out (by have := HS4.out; omega), rfl⟩
end Go.Proofs.YtlkmccmbpnbgbaaGreat
