/-
 CONTRACT of the reference's Order. (By wip/tools/gen_aref.py.)
-/
import Derived.Test.YtlkmccmbpnbgbaaGreatKOrder
import Derived.Test.YtlkmccmbpnbgbaaGreatOOrder
import Derived.Test.YtlkmccmbpnbgbaaGreatJRef
import Derived.Test.YtlkmccmbpnbgbaaGreatIName
import Derived.Test.YtlkmccmbpnbgbaaGreatHKept
import Derived.Deep.CutRange
import Derived.BigQuiet
namespace Go.Proofs.YtlkmccmbpnbgbaaGreat
set_option linter.unusedVariables false
open Go.RowKit
open Pl (firstG firstG_none firstG_some findG overG putG dropG It)

theorem rname_below (s : ByteArray) (hs : s.size ≤ maxLen) (W : World) : Calls Tryz.prog 43 #[.string s] W fun e w' => e = .returned (.int .i64 (Pl.nmE s : Nat)) ∧ Below W.heap.size W w' := (rname_any s W hs).mono fun e w' ⟨h1, h2⟩ => ⟨h1, by rw [h2]; exact Below.refl _ _⟩
set_option maxRecDepth 100000 in
set_option maxHeartbeats 6400000 in
theorem rorder (h : Hs) (L : Nat → List (List Value)) (cs : List Value) (w : World) (hh : HT h L w) (hf : Fits kOrder cs) (hm : (codeOf cs).size ≤ maxLen) (hn6 : h.n 7 ≤ 1000) :
 Calls Tryz.prog 12 #[.agg h.cells, .agg cs.toArray] w (PutP 42 50 7 (ordE L cs) (putG ordOrder (L 7) cs) h w) := by
 have HF := Lib.hid hf
 have HCF := Lib.hid hf
 obtain ⟨cd, hcd⟩ : ∃ z, codeOf cs = z := ⟨_, rfl⟩
 obtain ⟨si, hsi⟩ : ∃ z, nsite cs = z := ⟨_, rfl⟩
 obtain ⟨ll, hll⟩ : ∃ z, oLines cs = z := ⟨_, rfl⟩
 have HLF : Hid (Fits kLine8 ll) := Lib.hid (by rw [← hll]; exact (order_parts hf).2.2.1)
 obtain ⟨X, hX⟩ : ∃ X, gotOrder (L 7) cd = X := ⟨_, rfl⟩
 have HXF : Hid (Fits kOrder X) := Lib.hid (hX ▸ gotOrder_fits (hh 7 (by decide)).2.2.1 cd)
 obtain ⟨il, hil⟩ : ∃ q, (atOrder (L 7) cd).isSome = q := ⟨_, rfl⟩
 obtain ⟨nm, hnm⟩ : ∃ q, Pl.nmE cd = q := ⟨_, rfl⟩
 obtain ⟨zb, hzb⟩ : ∃ q, zonedB (L 2) si = q := ⟨_, rfl⟩
 obtain ⟨le, hle⟩ : ∃ q, linesE (L 0) ll = q := ⟨_, rfl⟩
 obtain ⟨er, her⟩ : ∃ r, ordE L cs = r := ⟨_, rfl⟩
 obtain ⟨m, hmm⟩ : ∃ m, h.n 7 = m := ⟨_, rfl⟩
 have HA : Hid (er = if nm ≠ 0 then nm else if zb = false then 12 else if le ≠ 0 then le else if il = true then 11 else if 32 ≤ m then 14 else 0) := Lib.hid (by rw [← her]; unfold ordE; rw [hcd, hsi, hll, hnm, hzb, hle, hil, ← (hh 7 (by decide)).1, hmm])
 obtain ⟨lx, hlx⟩ : ∃ l, putG ordOrder (L 7) cs = l := ⟨_, rfl⟩
 have CN : Hid (∀ W, Calls Tryz.prog 43 #[.string cd] W fun e w' => e = .returned (.int .i64 (nm : Nat)) ∧ Below W.heap.size W w') := Lib.hid (fun W => by have := rname_below cd (by rw [← hcd]; exact hm) W; rwa [hnm] at this)
 have CZ : Hid (∀ W, Below w.heap.size w W → Calls Tryz.prog 44 #[.agg h.cells, .string si] W fun e w' => e = .returned (.bool zb) ∧ Below W.heap.size W w') := Lib.hid (fun W hW => by have := rzoned_any h L si W (hh.below hW); rwa [hzb] at this)
 have CL : Hid (∀ W, Below w.heap.size w W → Calls Tryz.prog 45 #[.agg h.cells, .agg ll.toArray] W fun e w' => e = .returned (.int .i64 (le : Nat)) ∧ Below W.heap.size W w') := Lib.hid (fun W hW => by have := rlines_any h L ll W (hh.below hW) HLF.out; rwa [hle] at this)
 have CF : Hid (∀ W, Below w.heap.size w W → Calls Tryz.prog 25 #[.agg h.cells, .string cd] W fun e w' => e = .returned (.tuple #[.agg X.toArray, .bool il]) ∧ Below W.heap.size W w') := Lib.hid (fun W hW => by have := frOrder (hh.below hW) cd; rw [hX, hil] at this; exact this)
 have HPU : Hid (∀ W, Below w.heap.size w W → Calls Tryz.prog 46 #[.agg h.cells, .agg cs.toArray] W fun e w' => Below W.heap.size W w' ∧ ∃ A n c, n = lx.length ∧ w'.ownsRow W.heap.size 42 50 (.slice A n c) n lx.flatten ∧ e = .returned (.agg (h.set 7 A n c).cells)) := Lib.hid (fun W hW => by rw [← hlx]; exact rOrder_any h cs (L 7) W HF.out (hh 7 (by decide)).1 hn6 (hh 7 (by decide)).2.2.1 ((hh.below hW) 7 (by decide)).2.2.2)
 have hn9 := (hh 7 (by decide)).2.1
 rw [hmm] at hn9
 have HMM := Lib.hid hmm
 have HCD := Lib.hid hcd
 have HSI := Lib.hid hsi
 have HLV := Lib.hid hll
 have HLL : Hid ((Tryz.prog.info? 40).map (·.size) = some ll.length) := Lib.hid (by rw [HLF.out.length]; kernel_rfl)
 have huL8 := Tryz.underlying40
 rw [her, hlx]
 clear her hcd hsi hll hX hil hnm hzb hle hmm hlx
 have HSNO : Hid (∀ y, Fits kOrder y → (Tryz.prog.info? 42).map (·.size) = some y.toArray.size) := Lib.hid (fun y hy => by rw [show (Tryz.prog.info? 42).map (·.size) = some 50 from by kernel_rfl, List.size_toArray, hy.length]; rfl)
 have huNO := Tryz.underlying42
 have HOO : Hid (∀ y, Fits kOrder y → (#[.string ⟨#[]⟩, .string ⟨#[]⟩, .string ⟨#[]⟩, .int .i64 0, .int .i64 0, .int .i64 0, .int .i64 0, .int .i64 0, .string ⟨#[]⟩, .int .i64 0, .int .i64 0, .int .i64 0, .int .i64 0, .int .i64 0, .string ⟨#[]⟩, .int .i64 0, .int .i64 0, .int .i64 0, .int .i64 0, .int .i64 0, .string ⟨#[]⟩, .int .i64 0, .int .i64 0, .int .i64 0, .int .i64 0, .int .i64 0, .string ⟨#[]⟩, .int .i64 0, .int .i64 0, .int .i64 0, .int .i64 0, .int .i64 0, .string ⟨#[]⟩, .int .i64 0, .int .i64 0, .int .i64 0, .int .i64 0, .int .i64 0, .string ⟨#[]⟩, .int .i64 0, .int .i64 0, .int .i64 0, .int .i64 0, .int .i64 0, .string ⟨#[]⟩, .int .i64 0, .int .i64 0, .int .i64 0, .int .i64 0, .int .i64 0] : Array Value).size = y.toArray.size) := Lib.hid (fun y hy => by rw [List.size_toArray, List.size_toArray, hy.length]; rfl)
 have HOC : Hid (∀ y, Fits kOrder y → y.toArray.all (·.oneCell') = true) := Lib.hid (fun y hy => all_oneCell_toArray (fits_one hy))
 obtain ⟨W0, hW0⟩ : ∃ W0, W0 = (((w.alloc (.cells h.cells 37)).alloc (.cells cs.toArray 42)).alloc (.cells #[.slice none 0 0, .slice none 0 0, .slice none 0 0, .slice none 0 0, .slice none 0 0, .slice none 0 0, .slice none 0 0, .slice none 0 0, .slice none 0 0, .slice none 0 0, .slice none 0 0, .slice none 0 0, .slice none 0 0, .slice none 0 0, .int .i64 0] 37)) := ⟨_, rfl⟩
 have hb0 : Below w.heap.size w W0 := by rw [hW0]; exact (((Below.refl _ _).alloc (Nat.le_refl _) _).alloc (by simp <;> omega) _).alloc (by simp <;> omega) _
 have hs0 : W0.heap.size = w.heap.size + 3 := by rw [hW0]; simp
 have HH : Hid (∀ W, Below W0.heap.size W0 W → W.heap[w.heap.size]? = some (.cells h.cells 37 (0, 0))) := Lib.hid (fun W hW => (hW.block _ (by omega)).trans (by
  rw [hW0]
  have hq := heap_alloc_new w (.cells h.cells 37)
  exact (Below.heap_alloc _ _ _ (by simp <;> omega)).trans ((Below.heap_alloc _ _ _ (by simp <;> omega)).trans ((by simpa using hq)))))
 have HX : Hid (∀ W, Below W0.heap.size W0 W → W.heap[w.heap.size + 1]? = some (.cells cs.toArray 42 (0, 0))) := Lib.hid (fun W hW => (hW.block _ (by omega)).trans (by
  rw [hW0]
  have hq := heap_alloc_new (w.alloc (.cells h.cells 37)) (.cells cs.toArray 42)
  exact (Below.heap_alloc _ _ _ (by simp <;> omega)).trans ((by simpa using hq))))
 have HZ : Hid (∀ W, Below W0.heap.size W0 W → W.heap[w.heap.size + 2]? = some (.cells Hs.zero 37 (0, 0))) := Lib.hid (fun W hW => (hW.block _ (by omega)).trans (by
  rw [hW0]
  have hq := heap_alloc_new ((w.alloc (.cells h.cells 37)).alloc (.cells cs.toArray 42)) (.cells #[.slice none 0 0, .slice none 0 0, .slice none 0 0, .slice none 0 0, .slice none 0 0, .slice none 0 0, .slice none 0 0, .slice none 0 0, .slice none 0 0, .slice none 0 0, .slice none 0 0, .slice none 0 0, .slice none 0 0, .slice none 0 0, .int .i64 0] 37)
  exact (by simpa [Hs.zero] using hq)))
 have HBW : Hid (∀ W, Below W0.heap.size W0 W → Below w.heap.size w W ∧ w.heap.size + 3 ≤ W.heap.size) := Lib.hid (fun W hW => ⟨hb0.trans (hW.mono (by omega)), by have := hW.size; omega⟩)
 have huh := Tryz.underlying37
 have HSH : Hid (∀ a : Hs, (Tryz.prog.info? 37).map (·.size) = some a.cells.size) := Lib.hid (fun a => by kernel_rfl)
 have HSQ : Hid ((Tryz.prog.info? 37).map (·.size) = some Hs.zero.size) := Lib.hid (by kernel_rfl)
 have H1C : Hid (∀ a : Hs, a.cells.all (·.oneCell') = true) := Lib.hid (fun a => by simp [Hs.cells, Value.oneCell'])
 have H1Q : Hid (Hs.zero.all (·.oneCell') = true) := Lib.hid (by simp [Hs.zero, Value.oneCell'])
 have huHX := Tryz.underlying42
 have HL7 : Hid (∀ W, Below W0.heap.size W0 W → W.cell? ⟨w.heap.size, 7, none⟩ = some (.slice (h.A 7) m (h.c 7)) ∧ w.heap.size < W.heap.size) := Lib.hid (fun W hW => ⟨by rw [cell_of_block (HH.out W hW), ← HMM.out]; rfl, by have := hW.size; omega⟩)
 have HCX : Hid (∀ W, Below W0.heap.size W0 W → W.cell? ⟨w.heap.size + 1, 0, none⟩ = some (.string cd) ∧ W.cell? ⟨w.heap.size + 1, 1, none⟩ = some (.string si) ∧ W.rangeAt (w.heap.size + 1) 2 ll ∧ w.heap.size + 1 < W.heap.size) := Lib.hid (fun W hW => by have := corder_box (HX.out W hW) HF.out; rwa [HCD.out, HSI.out, HLV.out] at this)
 have HSHL : Hid (∀ a : Hs, (Tryz.prog.info? 37).map (·.size) = some a.cells.toList.length) := Lib.hid (fun a => by kernel_rfl)
 have H0 := Lib.hid (Below.refl W0.heap.size W0)
 clear hb0 hs0 hh hn6 hf hm
 subst hW0
 go_enter Tryz.func12, Tryz.ntmps12
 obtain ⟨x0, x1, x2, xlt⟩ := HCX.out _ H0.out
 go_wp2_with fail
 refine (CN.out _).mono ?_
 rintro e w1 ⟨rfl, hb1⟩
 have H1 := Lib.hid (H0.out.trans (hb1.mono H0.out.size))
 clear hb1
 clear x0 x1 x2 xlt
 by_cases hk : nm = 0
 · subst hk
   obtain ⟨x0, x1, x2, xlt⟩ := HCX.out _ H1.out
   go_wp2_with (first
    | (refine BigFrame.wpList_want (by kernel_rfl) (fun K hK => Go.wp_load_mid 37 (.tmp 2) rfl w.heap.size 0 rfl h.cells.toList _ (range_row0 (HH.out _ H1.out)) huh rfl (HSHL.out _) (hK _ _ ?_)); clear hK K)
    | fail)
   refine (CZ.out _ (HBW.out _ H1.out).1).mono ?_
   rintro e w2 ⟨rfl, hb2⟩
   have H2 := Lib.hid (H1.out.trans (hb2.mono H1.out.size))
   clear hb2
   clear x0 x1 x2 xlt
   cases zb with
   | false =>
    obtain ⟨x0, x1, x2, xlt⟩ := HCX.out _ H2.out
    go_wp2_with (first
     | (refine wpList_load_row rfl 37 (.tmp 2) rfl w.heap.size rfl _ _ _ _ (HH.out _ H2.out) huh rfl (HSH.out _) ?_)
     | fail)
    refine (CF.out _ (HBW.out _ H2.out).1).mono ?_
    rintro e v1 ⟨rfl, hb9⟩
    have HPHQ1 := Lib.hid (H2.out.trans (hb9.mono H2.out.size))
    clear hb9
    have HBXHQ1 : Hid ((v1.alloc (.cells #[.string ⟨#[]⟩, .string ⟨#[]⟩, .string ⟨#[]⟩, .int .i64 0, .int .i64 0, .int .i64 0, .int .i64 0, .int .i64 0, .string ⟨#[]⟩, .int .i64 0, .int .i64 0, .int .i64 0, .int .i64 0, .int .i64 0, .string ⟨#[]⟩, .int .i64 0, .int .i64 0, .int .i64 0, .int .i64 0, .int .i64 0, .string ⟨#[]⟩, .int .i64 0, .int .i64 0, .int .i64 0, .int .i64 0, .int .i64 0, .string ⟨#[]⟩, .int .i64 0, .int .i64 0, .int .i64 0, .int .i64 0, .int .i64 0, .string ⟨#[]⟩, .int .i64 0, .int .i64 0, .int .i64 0, .int .i64 0, .int .i64 0, .string ⟨#[]⟩, .int .i64 0, .int .i64 0, .int .i64 0, .int .i64 0, .int .i64 0, .string ⟨#[]⟩, .int .i64 0, .int .i64 0, .int .i64 0, .int .i64 0, .int .i64 0] 42)).heap[v1.heap.size]? = some (.cells #[.string ⟨#[]⟩, .string ⟨#[]⟩, .string ⟨#[]⟩, .int .i64 0, .int .i64 0, .int .i64 0, .int .i64 0, .int .i64 0, .string ⟨#[]⟩, .int .i64 0, .int .i64 0, .int .i64 0, .int .i64 0, .int .i64 0, .string ⟨#[]⟩, .int .i64 0, .int .i64 0, .int .i64 0, .int .i64 0, .int .i64 0, .string ⟨#[]⟩, .int .i64 0, .int .i64 0, .int .i64 0, .int .i64 0, .int .i64 0, .string ⟨#[]⟩, .int .i64 0, .int .i64 0, .int .i64 0, .int .i64 0, .int .i64 0, .string ⟨#[]⟩, .int .i64 0, .int .i64 0, .int .i64 0, .int .i64 0, .int .i64 0, .string ⟨#[]⟩, .int .i64 0, .int .i64 0, .int .i64 0, .int .i64 0, .int .i64 0, .string ⟨#[]⟩, .int .i64 0, .int .i64 0, .int .i64 0, .int .i64 0, .int .i64 0] 42 (0, 0))) := Lib.hid (heap_alloc_new _ _)
    obtain ⟨v1b, hv1b⟩ : ∃ W, W = (v1.alloc (.cells #[.string ⟨#[]⟩, .string ⟨#[]⟩, .string ⟨#[]⟩, .int .i64 0, .int .i64 0, .int .i64 0, .int .i64 0, .int .i64 0, .string ⟨#[]⟩, .int .i64 0, .int .i64 0, .int .i64 0, .int .i64 0, .int .i64 0, .string ⟨#[]⟩, .int .i64 0, .int .i64 0, .int .i64 0, .int .i64 0, .int .i64 0, .string ⟨#[]⟩, .int .i64 0, .int .i64 0, .int .i64 0, .int .i64 0, .int .i64 0, .string ⟨#[]⟩, .int .i64 0, .int .i64 0, .int .i64 0, .int .i64 0, .int .i64 0, .string ⟨#[]⟩, .int .i64 0, .int .i64 0, .int .i64 0, .int .i64 0, .int .i64 0, .string ⟨#[]⟩, .int .i64 0, .int .i64 0, .int .i64 0, .int .i64 0, .int .i64 0, .string ⟨#[]⟩, .int .i64 0, .int .i64 0, .int .i64 0, .int .i64 0, .int .i64 0] 42)).setRow v1.heap.size X.toArray := ⟨_, rfl⟩
    have HQ1 : Hid (Below (((w.alloc (.cells h.cells 37)).alloc (.cells cs.toArray 42)).alloc (.cells #[.slice none 0 0, .slice none 0 0, .slice none 0 0, .slice none 0 0, .slice none 0 0, .slice none 0 0, .slice none 0 0, .slice none 0 0, .slice none 0 0, .slice none 0 0, .slice none 0 0, .slice none 0 0, .slice none 0 0, .slice none 0 0, .int .i64 0] 37)).heap.size (((w.alloc (.cells h.cells 37)).alloc (.cells cs.toArray 42)).alloc (.cells #[.slice none 0 0, .slice none 0 0, .slice none 0 0, .slice none 0 0, .slice none 0 0, .slice none 0 0, .slice none 0 0, .slice none 0 0, .slice none 0 0, .slice none 0 0, .slice none 0 0, .slice none 0 0, .slice none 0 0, .slice none 0 0, .int .i64 0] 37)) v1b) := Lib.hid (by rw [hv1b]; exact setRow_below (HPHQ1.out.alloc HPHQ1.out.size _) HPHQ1.out.size _)
    have HRHQ1 : Hid (v1b.heap[v1.heap.size]? = some (.cells X.toArray 42 (0, 0))) := Lib.hid (by rw [hv1b]; exact setRow_heap _ _ _ _ _ _ HBXHQ1.out)
    have HWHQ1 := Lib.hid hv1b
    clear hv1b
    clear x0 x1 x2 xlt
    have HE : Hid (er = 12) := Lib.hid (by rw [HA.out]; rfl)
    go_wp2_with (first
     | (refine wpList_store_row rfl 42 (.tmp 7) (.tmp 32) rfl v1.heap.size X.toArray rfl rfl _ _ HBXHQ1.out (HSNO.out _ HXF.out) (HOO.out _ HXF.out) (HOC.out _ HXF.out) ?_; rw [← HWHQ1.out])
     | (refine wpList_store_row rfl 37 (.tmp 4) (.tmp 49) rfl (w.heap.size + 2) Hs.zero rfl rfl _ _ (HZ.out _ HQ1.out) HSQ.out rfl H1Q.out ?_)
     | fail)
    exact bodyPost_ret (results_row_tmp rfl _ _ (w.heap.size + 2) _ _ _ _ rfl (setRow_heap _ _ _ _ _ _ (HZ.out _ HQ1.out)) huh rfl HSQ.out) rfl ⟨setRow_below (HBW.out _ HQ1.out).1 (by omega) _, .inl ⟨by rw [HE.out]; decide, by rw [HE.out]; rfl⟩⟩
   | true =>
    obtain ⟨x0, x1, x2, xlt⟩ := HCX.out _ H2.out
    go_wp2_with (first
     | (refine wpList_load_row rfl 37 (.tmp 2) rfl w.heap.size rfl _ _ _ _ (HH.out _ H2.out) huh rfl (HSH.out _) ?_)
     | (refine wpList_load_mid rfl 40 (.tmp 24) rfl (w.heap.size + 1) 2 rfl ll _ x2 huL8 rfl HLL.out ?_)
     | fail)
    refine (CL.out _ (HBW.out _ H2.out).1).mono ?_
    rintro e w3 ⟨rfl, hb3⟩
    have H3 := Lib.hid (H2.out.trans (hb3.mono H2.out.size))
    clear hb3
    clear x0 x1 x2 xlt
    by_cases hl : le = 0
    · subst hl
      obtain ⟨x0, x1, x2, xlt⟩ := HCX.out _ H3.out
      go_wp2_with (first
       | (refine wpList_load_row rfl 37 (.tmp 2) rfl w.heap.size rfl _ _ _ _ (HH.out _ H3.out) huh rfl (HSH.out _) ?_)
       | fail)
      refine (CF.out _ (HBW.out _ H3.out).1).mono ?_
      rintro e v3 ⟨rfl, hb9⟩
      have HPHQ3 := Lib.hid (H3.out.trans (hb9.mono H3.out.size))
      clear hb9
      have HBXHQ3 : Hid ((v3.alloc (.cells #[.string ⟨#[]⟩, .string ⟨#[]⟩, .string ⟨#[]⟩, .int .i64 0, .int .i64 0, .int .i64 0, .int .i64 0, .int .i64 0, .string ⟨#[]⟩, .int .i64 0, .int .i64 0, .int .i64 0, .int .i64 0, .int .i64 0, .string ⟨#[]⟩, .int .i64 0, .int .i64 0, .int .i64 0, .int .i64 0, .int .i64 0, .string ⟨#[]⟩, .int .i64 0, .int .i64 0, .int .i64 0, .int .i64 0, .int .i64 0, .string ⟨#[]⟩, .int .i64 0, .int .i64 0, .int .i64 0, .int .i64 0, .int .i64 0, .string ⟨#[]⟩, .int .i64 0, .int .i64 0, .int .i64 0, .int .i64 0, .int .i64 0, .string ⟨#[]⟩, .int .i64 0, .int .i64 0, .int .i64 0, .int .i64 0, .int .i64 0, .string ⟨#[]⟩, .int .i64 0, .int .i64 0, .int .i64 0, .int .i64 0, .int .i64 0] 42)).heap[v3.heap.size]? = some (.cells #[.string ⟨#[]⟩, .string ⟨#[]⟩, .string ⟨#[]⟩, .int .i64 0, .int .i64 0, .int .i64 0, .int .i64 0, .int .i64 0, .string ⟨#[]⟩, .int .i64 0, .int .i64 0, .int .i64 0, .int .i64 0, .int .i64 0, .string ⟨#[]⟩, .int .i64 0, .int .i64 0, .int .i64 0, .int .i64 0, .int .i64 0, .string ⟨#[]⟩, .int .i64 0, .int .i64 0, .int .i64 0, .int .i64 0, .int .i64 0, .string ⟨#[]⟩, .int .i64 0, .int .i64 0, .int .i64 0, .int .i64 0, .int .i64 0, .string ⟨#[]⟩, .int .i64 0, .int .i64 0, .int .i64 0, .int .i64 0, .int .i64 0, .string ⟨#[]⟩, .int .i64 0, .int .i64 0, .int .i64 0, .int .i64 0, .int .i64 0, .string ⟨#[]⟩, .int .i64 0, .int .i64 0, .int .i64 0, .int .i64 0, .int .i64 0] 42 (0, 0))) := Lib.hid (heap_alloc_new _ _)
      obtain ⟨v3b, hv3b⟩ : ∃ W, W = (v3.alloc (.cells #[.string ⟨#[]⟩, .string ⟨#[]⟩, .string ⟨#[]⟩, .int .i64 0, .int .i64 0, .int .i64 0, .int .i64 0, .int .i64 0, .string ⟨#[]⟩, .int .i64 0, .int .i64 0, .int .i64 0, .int .i64 0, .int .i64 0, .string ⟨#[]⟩, .int .i64 0, .int .i64 0, .int .i64 0, .int .i64 0, .int .i64 0, .string ⟨#[]⟩, .int .i64 0, .int .i64 0, .int .i64 0, .int .i64 0, .int .i64 0, .string ⟨#[]⟩, .int .i64 0, .int .i64 0, .int .i64 0, .int .i64 0, .int .i64 0, .string ⟨#[]⟩, .int .i64 0, .int .i64 0, .int .i64 0, .int .i64 0, .int .i64 0, .string ⟨#[]⟩, .int .i64 0, .int .i64 0, .int .i64 0, .int .i64 0, .int .i64 0, .string ⟨#[]⟩, .int .i64 0, .int .i64 0, .int .i64 0, .int .i64 0, .int .i64 0] 42)).setRow v3.heap.size X.toArray := ⟨_, rfl⟩
      have HQ3 : Hid (Below (((w.alloc (.cells h.cells 37)).alloc (.cells cs.toArray 42)).alloc (.cells #[.slice none 0 0, .slice none 0 0, .slice none 0 0, .slice none 0 0, .slice none 0 0, .slice none 0 0, .slice none 0 0, .slice none 0 0, .slice none 0 0, .slice none 0 0, .slice none 0 0, .slice none 0 0, .slice none 0 0, .slice none 0 0, .int .i64 0] 37)).heap.size (((w.alloc (.cells h.cells 37)).alloc (.cells cs.toArray 42)).alloc (.cells #[.slice none 0 0, .slice none 0 0, .slice none 0 0, .slice none 0 0, .slice none 0 0, .slice none 0 0, .slice none 0 0, .slice none 0 0, .slice none 0 0, .slice none 0 0, .slice none 0 0, .slice none 0 0, .slice none 0 0, .slice none 0 0, .int .i64 0] 37)) v3b) := Lib.hid (by rw [hv3b]; exact setRow_below (HPHQ3.out.alloc HPHQ3.out.size _) HPHQ3.out.size _)
      have HRHQ3 : Hid (v3b.heap[v3.heap.size]? = some (.cells X.toArray 42 (0, 0))) := Lib.hid (by rw [hv3b]; exact setRow_heap _ _ _ _ _ _ HBXHQ3.out)
      have HWHQ3 := Lib.hid hv3b
      clear hv3b
      clear x0 x1 x2 xlt
      cases il with
      | true =>
       have HE : Hid (er = 11) := Lib.hid (by rw [HA.out]; rfl)
       go_wp2_with (first
        | (refine wpList_store_row rfl 42 (.tmp 7) (.tmp 32) rfl v3.heap.size X.toArray rfl rfl _ _ HBXHQ3.out (HSNO.out _ HXF.out) (HOO.out _ HXF.out) (HOC.out _ HXF.out) ?_; rw [← HWHQ3.out])
        | (refine wpList_store_row rfl 37 (.tmp 4) (.tmp 49) rfl (w.heap.size + 2) Hs.zero rfl rfl _ _ (HZ.out _ HQ3.out) HSQ.out rfl H1Q.out ?_)
        | fail)
       exact bodyPost_ret (results_row_tmp rfl _ _ (w.heap.size + 2) _ _ _ _ rfl (setRow_heap _ _ _ _ _ _ (HZ.out _ HQ3.out)) huh rfl HSQ.out) rfl ⟨setRow_below (HBW.out _ HQ3.out).1 (by omega) _, .inl ⟨by rw [HE.out]; decide, by rw [HE.out]; rfl⟩⟩
      | false =>
       obtain ⟨d6, dlt⟩ := HL7.out _ HQ3.out
       by_cases q1 : 32 ≤ m
       · have HE : Hid (er = 14) := Lib.hid (by rw [HA.out]; simp [q1])
         go_wp2_with (first
          | (refine wpList_store_row rfl 42 (.tmp 7) (.tmp 32) rfl v3.heap.size X.toArray rfl rfl _ _ HBXHQ3.out (HSNO.out _ HXF.out) (HOO.out _ HXF.out) (HOC.out _ HXF.out) ?_; rw [← HWHQ3.out])
          | (refine wpList_store_row rfl 37 (.tmp 4) (.tmp 49) rfl (w.heap.size + 2) Hs.zero rfl rfl _ _ (HZ.out _ HQ3.out) HSQ.out rfl H1Q.out ?_)
          | fail)
         exact bodyPost_ret (results_row_tmp rfl _ _ (w.heap.size + 2) _ _ _ _ rfl (setRow_heap _ _ _ _ _ _ (HZ.out _ HQ3.out)) huh rfl HSQ.out) rfl ⟨setRow_below (HBW.out _ HQ3.out).1 (by omega) _, .inl ⟨by rw [HE.out]; decide, by rw [HE.out]; rfl⟩⟩
       · have HE : Hid (er = 0) := Lib.hid (by rw [HA.out]; simp [q1])
         go_wp2_with (first
          | (refine wpList_store_row rfl 42 (.tmp 7) (.tmp 32) rfl v3.heap.size X.toArray rfl rfl _ _ HBXHQ3.out (HSNO.out _ HXF.out) (HOO.out _ HXF.out) (HOC.out _ HXF.out) ?_; rw [← HWHQ3.out])
          | (refine wpList_load_row rfl 37 (.tmp 2) rfl w.heap.size rfl _ _ _ _ (HH.out _ HQ3.out) huh rfl (HSH.out _) ?_)
          | (refine wpList_load_row rfl 42 (.tmp 3) rfl (w.heap.size + 1) rfl _ _ _ _ (HX.out _ HQ3.out) huNO rfl (HSNO.out _ HF.out) ?_)
          | fail)
         refine (HPU.out _ (HBW.out _ HQ3.out).1).mono ?_
         rintro e w5 ⟨hb9, A, n, cc, hl, hown, rfl⟩
         have H9 := Lib.hid (HQ3.out.trans (hb9.mono HQ3.out.size))
         have HO9 := Lib.hid hown
         have HLE := Lib.hid hl
         have HSZ9 := Lib.hid (HBW.out _ HQ3.out).2
         clear hb9 hown hl
         go_wp2_with (first
          | (refine wpList_store_row rfl 37 (.tmp 4) (.tmp 53) rfl (w.heap.size + 2) (h.set 7 A n cc).cells rfl rfl _ _ (HZ.out _ H9.out) (HSH.out _) rfl (H1C.out _) ?_)
          | fail)
         exact bodyPost_ret (results_row_tmp rfl _ _ (w.heap.size + 2) _ _ _ _ rfl (setRow_heap _ _ _ _ _ _ (HZ.out _ H9.out)) huh rfl (HSH.out _)) rfl ⟨setRow_below (HBW.out _ H9.out).1 (by omega) _, .inr ⟨HE.out, A, n, cc, HLE.out, own_rowed HO9.out (by have := HSZ9.out; omega) (by have := HSZ9.out; omega), rfl⟩⟩
    · have bk : ((le : Int) == 0) = false := by simpa using hl
      have bn : ((le : Int) != 0) = true := by simpa using hl
      have HKL := Lib.hid hl
      clear hl
      obtain ⟨x0, x1, x2, xlt⟩ := HCX.out _ H3.out
      go_wp2_with (first
       | (refine wpList_load_row rfl 37 (.tmp 2) rfl w.heap.size rfl _ _ _ _ (HH.out _ H3.out) huh rfl (HSH.out _) ?_)
       | fail)
      refine (CF.out _ (HBW.out _ H3.out).1).mono ?_
      rintro e v4 ⟨rfl, hb9⟩
      have HPHQ4 := Lib.hid (H3.out.trans (hb9.mono H3.out.size))
      clear hb9
      have HBXHQ4 : Hid ((v4.alloc (.cells #[.string ⟨#[]⟩, .string ⟨#[]⟩, .string ⟨#[]⟩, .int .i64 0, .int .i64 0, .int .i64 0, .int .i64 0, .int .i64 0, .string ⟨#[]⟩, .int .i64 0, .int .i64 0, .int .i64 0, .int .i64 0, .int .i64 0, .string ⟨#[]⟩, .int .i64 0, .int .i64 0, .int .i64 0, .int .i64 0, .int .i64 0, .string ⟨#[]⟩, .int .i64 0, .int .i64 0, .int .i64 0, .int .i64 0, .int .i64 0, .string ⟨#[]⟩, .int .i64 0, .int .i64 0, .int .i64 0, .int .i64 0, .int .i64 0, .string ⟨#[]⟩, .int .i64 0, .int .i64 0, .int .i64 0, .int .i64 0, .int .i64 0, .string ⟨#[]⟩, .int .i64 0, .int .i64 0, .int .i64 0, .int .i64 0, .int .i64 0, .string ⟨#[]⟩, .int .i64 0, .int .i64 0, .int .i64 0, .int .i64 0, .int .i64 0] 42)).heap[v4.heap.size]? = some (.cells #[.string ⟨#[]⟩, .string ⟨#[]⟩, .string ⟨#[]⟩, .int .i64 0, .int .i64 0, .int .i64 0, .int .i64 0, .int .i64 0, .string ⟨#[]⟩, .int .i64 0, .int .i64 0, .int .i64 0, .int .i64 0, .int .i64 0, .string ⟨#[]⟩, .int .i64 0, .int .i64 0, .int .i64 0, .int .i64 0, .int .i64 0, .string ⟨#[]⟩, .int .i64 0, .int .i64 0, .int .i64 0, .int .i64 0, .int .i64 0, .string ⟨#[]⟩, .int .i64 0, .int .i64 0, .int .i64 0, .int .i64 0, .int .i64 0, .string ⟨#[]⟩, .int .i64 0, .int .i64 0, .int .i64 0, .int .i64 0, .int .i64 0, .string ⟨#[]⟩, .int .i64 0, .int .i64 0, .int .i64 0, .int .i64 0, .int .i64 0, .string ⟨#[]⟩, .int .i64 0, .int .i64 0, .int .i64 0, .int .i64 0, .int .i64 0] 42 (0, 0))) := Lib.hid (heap_alloc_new _ _)
      obtain ⟨v4b, hv4b⟩ : ∃ W, W = (v4.alloc (.cells #[.string ⟨#[]⟩, .string ⟨#[]⟩, .string ⟨#[]⟩, .int .i64 0, .int .i64 0, .int .i64 0, .int .i64 0, .int .i64 0, .string ⟨#[]⟩, .int .i64 0, .int .i64 0, .int .i64 0, .int .i64 0, .int .i64 0, .string ⟨#[]⟩, .int .i64 0, .int .i64 0, .int .i64 0, .int .i64 0, .int .i64 0, .string ⟨#[]⟩, .int .i64 0, .int .i64 0, .int .i64 0, .int .i64 0, .int .i64 0, .string ⟨#[]⟩, .int .i64 0, .int .i64 0, .int .i64 0, .int .i64 0, .int .i64 0, .string ⟨#[]⟩, .int .i64 0, .int .i64 0, .int .i64 0, .int .i64 0, .int .i64 0, .string ⟨#[]⟩, .int .i64 0, .int .i64 0, .int .i64 0, .int .i64 0, .int .i64 0, .string ⟨#[]⟩, .int .i64 0, .int .i64 0, .int .i64 0, .int .i64 0, .int .i64 0] 42)).setRow v4.heap.size X.toArray := ⟨_, rfl⟩
      have HQ4 : Hid (Below (((w.alloc (.cells h.cells 37)).alloc (.cells cs.toArray 42)).alloc (.cells #[.slice none 0 0, .slice none 0 0, .slice none 0 0, .slice none 0 0, .slice none 0 0, .slice none 0 0, .slice none 0 0, .slice none 0 0, .slice none 0 0, .slice none 0 0, .slice none 0 0, .slice none 0 0, .slice none 0 0, .slice none 0 0, .int .i64 0] 37)).heap.size (((w.alloc (.cells h.cells 37)).alloc (.cells cs.toArray 42)).alloc (.cells #[.slice none 0 0, .slice none 0 0, .slice none 0 0, .slice none 0 0, .slice none 0 0, .slice none 0 0, .slice none 0 0, .slice none 0 0, .slice none 0 0, .slice none 0 0, .slice none 0 0, .slice none 0 0, .slice none 0 0, .slice none 0 0, .int .i64 0] 37)) v4b) := Lib.hid (by rw [hv4b]; exact setRow_below (HPHQ4.out.alloc HPHQ4.out.size _) HPHQ4.out.size _)
      have HRHQ4 : Hid (v4b.heap[v4.heap.size]? = some (.cells X.toArray 42 (0, 0))) := Lib.hid (by rw [hv4b]; exact setRow_heap _ _ _ _ _ _ HBXHQ4.out)
      have HWHQ4 := Lib.hid hv4b
      clear hv4b
      clear x0 x1 x2 xlt
      have HE : Hid (er = le) := Lib.hid (by rw [HA.out]; simp [HKL.out])
      go_wp2_with (first
       | (refine wpList_store_row rfl 42 (.tmp 7) (.tmp 32) rfl v4.heap.size X.toArray rfl rfl _ _ HBXHQ4.out (HSNO.out _ HXF.out) (HOO.out _ HXF.out) (HOC.out _ HXF.out) ?_; rw [← HWHQ4.out])
       | (refine wpList_store_row rfl 37 (.tmp 4) (.tmp 49) rfl (w.heap.size + 2) Hs.zero rfl rfl _ _ (HZ.out _ HQ4.out) HSQ.out rfl H1Q.out ?_)
       | fail)
      exact bodyPost_ret (results_row_tmp rfl _ _ (w.heap.size + 2) _ _ _ _ rfl (setRow_heap _ _ _ _ _ _ (HZ.out _ HQ4.out)) huh rfl HSQ.out) rfl ⟨setRow_below (HBW.out _ HQ4.out).1 (by omega) _, .inl ⟨by rw [HE.out]; exact HKL.out, by rw [HE.out]; rfl⟩⟩
 · have bk : ((nm : Int) == 0) = false := by simpa using hk
   have bn : ((nm : Int) != 0) = true := by simpa using hk
   have HKL := Lib.hid hk
   clear hk
   obtain ⟨x0, x1, x2, xlt⟩ := HCX.out _ H1.out
   go_wp2_with (first
    | (refine wpList_load_row rfl 37 (.tmp 2) rfl w.heap.size rfl _ _ _ _ (HH.out _ H1.out) huh rfl (HSH.out _) ?_)
    | fail)
   refine (CF.out _ (HBW.out _ H1.out).1).mono ?_
   rintro e v5 ⟨rfl, hb9⟩
   have HPHQ5 := Lib.hid (H1.out.trans (hb9.mono H1.out.size))
   clear hb9
   have HBXHQ5 : Hid ((v5.alloc (.cells #[.string ⟨#[]⟩, .string ⟨#[]⟩, .string ⟨#[]⟩, .int .i64 0, .int .i64 0, .int .i64 0, .int .i64 0, .int .i64 0, .string ⟨#[]⟩, .int .i64 0, .int .i64 0, .int .i64 0, .int .i64 0, .int .i64 0, .string ⟨#[]⟩, .int .i64 0, .int .i64 0, .int .i64 0, .int .i64 0, .int .i64 0, .string ⟨#[]⟩, .int .i64 0, .int .i64 0, .int .i64 0, .int .i64 0, .int .i64 0, .string ⟨#[]⟩, .int .i64 0, .int .i64 0, .int .i64 0, .int .i64 0, .int .i64 0, .string ⟨#[]⟩, .int .i64 0, .int .i64 0, .int .i64 0, .int .i64 0, .int .i64 0, .string ⟨#[]⟩, .int .i64 0, .int .i64 0, .int .i64 0, .int .i64 0, .int .i64 0, .string ⟨#[]⟩, .int .i64 0, .int .i64 0, .int .i64 0, .int .i64 0, .int .i64 0] 42)).heap[v5.heap.size]? = some (.cells #[.string ⟨#[]⟩, .string ⟨#[]⟩, .string ⟨#[]⟩, .int .i64 0, .int .i64 0, .int .i64 0, .int .i64 0, .int .i64 0, .string ⟨#[]⟩, .int .i64 0, .int .i64 0, .int .i64 0, .int .i64 0, .int .i64 0, .string ⟨#[]⟩, .int .i64 0, .int .i64 0, .int .i64 0, .int .i64 0, .int .i64 0, .string ⟨#[]⟩, .int .i64 0, .int .i64 0, .int .i64 0, .int .i64 0, .int .i64 0, .string ⟨#[]⟩, .int .i64 0, .int .i64 0, .int .i64 0, .int .i64 0, .int .i64 0, .string ⟨#[]⟩, .int .i64 0, .int .i64 0, .int .i64 0, .int .i64 0, .int .i64 0, .string ⟨#[]⟩, .int .i64 0, .int .i64 0, .int .i64 0, .int .i64 0, .int .i64 0, .string ⟨#[]⟩, .int .i64 0, .int .i64 0, .int .i64 0, .int .i64 0, .int .i64 0] 42 (0, 0))) := Lib.hid (heap_alloc_new _ _)
   obtain ⟨v5b, hv5b⟩ : ∃ W, W = (v5.alloc (.cells #[.string ⟨#[]⟩, .string ⟨#[]⟩, .string ⟨#[]⟩, .int .i64 0, .int .i64 0, .int .i64 0, .int .i64 0, .int .i64 0, .string ⟨#[]⟩, .int .i64 0, .int .i64 0, .int .i64 0, .int .i64 0, .int .i64 0, .string ⟨#[]⟩, .int .i64 0, .int .i64 0, .int .i64 0, .int .i64 0, .int .i64 0, .string ⟨#[]⟩, .int .i64 0, .int .i64 0, .int .i64 0, .int .i64 0, .int .i64 0, .string ⟨#[]⟩, .int .i64 0, .int .i64 0, .int .i64 0, .int .i64 0, .int .i64 0, .string ⟨#[]⟩, .int .i64 0, .int .i64 0, .int .i64 0, .int .i64 0, .int .i64 0, .string ⟨#[]⟩, .int .i64 0, .int .i64 0, .int .i64 0, .int .i64 0, .int .i64 0, .string ⟨#[]⟩, .int .i64 0, .int .i64 0, .int .i64 0, .int .i64 0, .int .i64 0] 42)).setRow v5.heap.size X.toArray := ⟨_, rfl⟩
   have HQ5 : Hid (Below (((w.alloc (.cells h.cells 37)).alloc (.cells cs.toArray 42)).alloc (.cells #[.slice none 0 0, .slice none 0 0, .slice none 0 0, .slice none 0 0, .slice none 0 0, .slice none 0 0, .slice none 0 0, .slice none 0 0, .slice none 0 0, .slice none 0 0, .slice none 0 0, .slice none 0 0, .slice none 0 0, .slice none 0 0, .int .i64 0] 37)).heap.size (((w.alloc (.cells h.cells 37)).alloc (.cells cs.toArray 42)).alloc (.cells #[.slice none 0 0, .slice none 0 0, .slice none 0 0, .slice none 0 0, .slice none 0 0, .slice none 0 0, .slice none 0 0, .slice none 0 0, .slice none 0 0, .slice none 0 0, .slice none 0 0, .slice none 0 0, .slice none 0 0, .slice none 0 0, .int .i64 0] 37)) v5b) := Lib.hid (by rw [hv5b]; exact setRow_below (HPHQ5.out.alloc HPHQ5.out.size _) HPHQ5.out.size _)
   have HRHQ5 : Hid (v5b.heap[v5.heap.size]? = some (.cells X.toArray 42 (0, 0))) := Lib.hid (by rw [hv5b]; exact setRow_heap _ _ _ _ _ _ HBXHQ5.out)
   have HWHQ5 := Lib.hid hv5b
   clear hv5b
   clear x0 x1 x2 xlt
   have HE : Hid (er = nm) := Lib.hid (by rw [HA.out]; simp [HKL.out])
   go_wp2_with (first
    | (refine wpList_store_row rfl 42 (.tmp 7) (.tmp 32) rfl v5.heap.size X.toArray rfl rfl _ _ HBXHQ5.out (HSNO.out _ HXF.out) (HOO.out _ HXF.out) (HOC.out _ HXF.out) ?_; rw [← HWHQ5.out])
    | (refine wpList_store_row rfl 37 (.tmp 4) (.tmp 49) rfl (w.heap.size + 2) Hs.zero rfl rfl _ _ (HZ.out _ HQ5.out) HSQ.out rfl H1Q.out ?_)
    | fail)
   exact bodyPost_ret (results_row_tmp rfl _ _ (w.heap.size + 2) _ _ _ _ rfl (setRow_heap _ _ _ _ _ _ (HZ.out _ HQ5.out)) huh rfl HSQ.out) rfl ⟨setRow_below (HBW.out _ HQ5.out).1 (by omega) _, .inl ⟨by rw [HE.out]; exact HKL.out, by rw [HE.out]; rfl⟩⟩

end Go.Proofs.YtlkmccmbpnbgbaaGreat
