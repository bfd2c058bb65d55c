/-
  CONTRACTS of the code's Over, Resize, Limit, and 'cons'. (By wip/tools/gen_zcode.py.)
-/
import Derived.Test.YthoblccmdadmmaaZFullC
import Derived.Test.YthoblccmdadmmaaZCon
namespace Go.Proofs.Ythoblccmdadmmaa
set_option linter.unusedVariables false
open Go.RowKit
open Pl (firstG findG putG It)

set_option maxRecDepth 100000 in
set_option maxHeartbeats 3200000 in
theorem cover_any (h : Hs) (L : Nat → List (List Value)) (w : World) (hh : HT h L w) :
    Calls Try.prog 19 #[.agg h.cells] w (TextsP (overL (L 0) (L 3) (L 4)) w) := by
  have HHT := Lib.hid hh
  have hn9 := (hh 3 (by decide)).2.1
  obtain ⟨m, hmm⟩ : ∃ m, h.n 3 = m := ⟨_, rfl⟩
  have HNM : Hid (m = (L 3).length) := Lib.hid (by rw [← hmm]; exact (hh 3 (by decide)).1)
  rw [hmm] at hn9
  have HMM := Lib.hid hmm
  obtain ⟨r, hr⟩ : ∃ r, overL (L 0) (L 3) (L 4) = r := ⟨_, rfl⟩
  rw [hr]
  have HR := Lib.hid hr
  clear hr hmm
  have CF : Hid (∀ (x : Bn) W, HT h L W → Calls Try.prog 47 #[.agg h.cells, .agg #[.string x.code, .string x.zone, .int .i64 x.kind, .int .i64 x.aisle, .int .i64 x.place, .int .i64 x.vol, .int .i64 x.wei, .bool x.frz]] W fun e w' => e = .returned (.bool (fullB (L 0) (L 4) x)) ∧ Below W.heap.size W w') := Lib.hid (fun x W hW => cfull_any h L _ _ _ _ _ _ _ _ W hW)
  have HLB : Hid (∀ k (hk : k < (L 3).length), codeOf (L 3)[k] = (bnOf (L 3)[k]).code) := Lib.hid (fun k hk => code_bn ((hh 3 (by decide)).2.2.1 _ (List.getElem_mem hk)))
  obtain ⟨i0, hi0, hz0, hz1, hz2⟩ := info_parts infoS
  have HSHL : Hid (∀ a : Hs, (Try.prog.info? 37).map (·.size) = some a.cells.toList.length) := Lib.hid (fun a => by kernel_rfl)
  have HS8 : Hid ((Try.prog.info? 57).map (·.size) = some 8) := Lib.hid (by kernel_rfl)
  have hub := Try.underlying57
  obtain ⟨W0, hW0⟩ : ∃ W0, W0 = (w.alloc (.cells h.cells 37)) := ⟨_, rfl⟩
  have hb0 : Below w.heap.size w W0 := by rw [hW0]; exact (Below.refl _ _).alloc (Nat.le_refl _) _
  have hs0 : W0.heap.size = w.heap.size + 1 := by rw [hW0]; simp
  have HH : Hid (∀ W, Below W0.heap.size W0 W → W.heap[w.heap.size]? = some (.cells h.cells 37 (0, 0))) := Lib.hid (fun W hW => (hW.block _ (by omega)).trans (by
    rw [hW0]
    have hq := heap_alloc_new w (.cells h.cells 37)
    exact (by simpa using hq)))
  have HBW : Hid (∀ W, Below W0.heap.size W0 W → Below w.heap.size w W ∧ w.heap.size + 1 ≤ W.heap.size) := Lib.hid (fun W hW => ⟨hb0.trans (hW.mono (by omega)), by have := hW.size; omega⟩)
  have huh := Try.underlying37
  have HSH : Hid (∀ a : Hs, (Try.prog.info? 37).map (·.size) = some a.cells.size) := Lib.hid (fun a => by kernel_rfl)
  have HL3 : Hid (∀ W, Below W0.heap.size W0 W → W.cell? ⟨w.heap.size, 3, none⟩ = some (.slice (h.A 3) m (h.c 3)) ∧ w.heap.size < W.heap.size) := Lib.hid (fun W hW => ⟨by rw [cell_of_block (HH.out W hW), ← HMM.out]; rfl, by have := hW.size; omega⟩)
  have H0 := Lib.hid (Below.refl W0.heap.size W0)
  clear hb0 hs0 hh
  subst hW0
  go_enter Try.func19, Try.ntmps19
  obtain ⟨d3, dlt⟩ := HL3.out _ H0.out
  go_wp2_with fail
  clear d3 dlt
  go_loopw [3, 9] (fun v i wr => ∃ (k q : Nat) (A : Option Addr) (c : Nat), k ≤ m ∧ v = .slice A q c ∧ i = .int .i64 (k : Int) ∧ Hid (q = (overL (L 0) ((L 3).take k) (L 4)).length) ∧ Hid (Below (w.alloc (.cells h.cells 37)).heap.size (w.alloc (.cells h.cells 37)) wr) ∧ Hid (wr.ownsRow (w.heap.size + 1) 9 1 (.slice A q c) q ((overL (L 0) ((L 3).take k) (L 4)).map Value.string))) (fun _ i _ => m - (intOf i).toNat)
  case atStart => exact ⟨0, 0, none, 0, by omega, rfl, rfl, Lib.hid rfl, H0, Lib.hid (World.ownsRow_nil _ _ _ _)⟩
  case round =>
    obtain ⟨k, q, A, c, hk, rfl, rfl, hq, hw, ho⟩ := hrel
    by_cases hlt : k < m
    · have hkl : k < (L 3).length := by rw [← HNM.out]; exact hlt
      have HTR : Hid (HT h L wr) := Lib.hid (HHT.out.below (HBW.out _ hw.out).1)
      obtain ⟨b, off, hA, hb, r1⟩ := bin_at HTR.out hkl
      have hsn := overL_snoc (L 0) (L 3) (L 4) k hkl
      rw [HLB.out k hkl] at hsn
      have hql := overL_le (L 0) ((L 3).take k) (L 4)
      rw [List.length_take] at hql
      rw [← hq.out] at hql
      obtain ⟨x, hx⟩ : ∃ x, bnOf (L 3)[k] = x := ⟨_, rfl⟩
      rw [hx] at r1 hsn
      obtain ⟨fb, hfb⟩ : ∃ z, fullB (L 0) (L 4) x = z := ⟨_, rfl⟩
      have CX : Hid (∀ W, Below wr.heap.size wr W → Calls Try.prog 47 #[.agg h.cells, .agg #[.string x.code, .string x.zone, .int .i64 x.kind, .int .i64 x.aisle, .int .i64 x.place, .int .i64 x.vol, .int .i64 x.wei, .bool x.frz]] W fun e w' => e = .returned (.bool fb) ∧ Below W.heap.size W w') := Lib.hid (fun W hW => by rw [← hfb]; exact CF.out x W (HTR.out.below hW))
      rw [hfb] at hsn
      clear hfb hx
      obtain ⟨xc, xz, kd, ai, pl, vo, we, fz⟩ := x
      simp only [] at hsn CX
      have HSN := Lib.hid hsn
      have HRE : Hid (wr.rangeAt b (off + k * 8) [.string xc, .string xz, .int .i64 kd, .int .i64 ai, .int .i64 pl, .int .i64 vo, .int .i64 we, .bool fz]) := Lib.hid r1
      obtain ⟨w1, hw1⟩ : ∃ w1, w1 = wr.alloc (.cells #[.string xc, .string xz, .int .i64 kd, .int .i64 ai, .int .i64 pl, .int .i64 vo, .int .i64 we, .bool fz] 57) := ⟨_, rfl⟩
      have hb1 : Below wr.heap.size wr w1 := by rw [hw1]; exact (Below.refl _ _).alloc (Nat.le_refl _) _
      have HX1 : Hid (w1.heap[wr.heap.size]? = some (.cells #[.string xc, .string xz, .int .i64 kd, .int .i64 ai, .int .i64 pl, .int .i64 vo, .int .i64 we, .bool fz] 57 (0, 0))) := Lib.hid (by rw [hw1]; exact heap_alloc_new _ _)
      have HW1 := Lib.hid hw1
      have HB1 := Lib.hid (hw.out.trans (hb1.mono hw.out.size))
      have HBR := Lib.hid hb1
      have h1 : (0 : Int) ≤ (k : Int) := by omega
      have h2 : (k : Int) < (m : Int) := by omega
      rw [hA]
      have hbx := HW1.out ▸ HH.out _ HB1.out
      have hbq := HW1.out ▸ HX1.out
      clear r1 hsn hkl hb hA hw1 hb1
      go_wp2_with (first
        | (refine wpList_load_mid rfl 57 (.tmp 11) rfl b (off + k * 8) rfl [.string xc, .string xz, .int .i64 kd, .int .i64 ai, .int .i64 pl, .int .i64 vo, .int .i64 we, .bool fz] _ HRE.out hub rfl HS8.out ?_)
        | (refine wpList_load_row rfl 37 (.tmp 1) rfl w.heap.size rfl _ _ _ _ hbx huh rfl (HSH.out _) ?_)
        | (refine wpList_load_row rfl 57 (.tmp 5) rfl wr.heap.size rfl _ _ _ _ hbq hub rfl HS8.out ?_)
        | fail)
      rw [← HW1.out]
      refine (CX.out _ HBR.out).mono ?_
      rintro e w2 ⟨rfl, hb2⟩
      have HB2 := Lib.hid (HB1.out.trans (hb2.mono HB1.out.size))
      have HX2 := Lib.hid ((hb2.block _ (lt_of_block HX1.out)).trans HX1.out)
      have HOX := Lib.hid (own_below (own_below ho.out HBR.out) hb2)
      clear hb2 hbx hbq
      cases fb with
      | false =>
        have HEQ : Hid (overL (L 0) ((L 3).take (k + 1)) (L 4) = overL (L 0) ((L 3).take k) (L 4)) := Lib.hid (by rw [HSN.out]; simp)
        go_wp2_with fail
        go_roundw
        case rel => exact ⟨k + 1, q, A, c, by omega, rfl, by go_num, Lib.hid (by rw [HEQ.out]; exact hq.out), HB2, Lib.hid (by rw [HEQ.out]; exact HOX.out)⟩
        case measure => simp [intOf]; omega
      | true =>
        have HEQ : Hid (overL (L 0) ((L 3).take (k + 1)) (L 4) = overL (L 0) ((L 3).take k) (L 4) ++ [xc]) := Lib.hid (by rw [HSN.out]; simp)
        have HBZ : Hid (w.heap.size + 1 ≤ w2.heap.size) := Lib.hid (HBW.out _ HB2.out).2
        have y0 : w2.cell? ⟨wr.heap.size, 0, none⟩ = some (.string xc) := by rw [cell_of_block HX2.out]; rfl
        have ylt : wr.heap.size < w2.heap.size := lt_of_block HX2.out
        go_wp2_with (first
          | (at_builtin; refine wpList_app rfl (.tmp 16) (.tmp 19) _ rfl (w.heap.size + 1) 9 i0 _ 1 16 Try.underlying48 hi0 hz0 hz1 hz2 rfl (by decide) _ q _ _ rfl (HOX.out.alloc _) _ _ 1 1 [.string xc] rfl rfl (rd_one _ _ _) (by intro u hu; simp at hu; subst hu; rfl) (by simp only [maxLen]; omega) (by omega) (by have := HBZ.out; simp; omega) ?_; intro A9 c9 w9 hown9 hb9; have HO9 := Lib.hid hown9; have HB9 := Lib.hid hb9; clear hown9 hb9)
          | fail)
        have HBY : Hid (Below (w.alloc (.cells h.cells 37)).heap.size (w.alloc (.cells h.cells 37)) w9) := Lib.hid ((HB2.out.alloc HB2.out.size _).trans (HB9.out.mono (by simp)))
        go_roundw
        case rel => exact ⟨k + 1, q + 1, A9, c9, by omega, rfl, by go_num, Lib.hid (by rw [HEQ.out, List.length_append, ← hq.out]; rfl), HBY, Lib.hid (by rw [HEQ.out, List.map_append]; exact HO9.out)⟩
        case measure => simp [intOf]; omega
    · have hkm : k = m := by omega
      have HV : Hid (overL (L 0) ((L 3).take k) (L 4) = r) := Lib.hid (by rw [← HR.out, List.take_of_length_le (by rw [← HNM.out]; omega)])
      go_wp2_with fail
      go_ret
      rw [← HV.out]
      exact ⟨A, q, c, rfl, hq.out, own_cap ho.out, own_max ho.out, Rd.of_own ho.out, (HBW.out _ hw.out).1⟩

set_option maxRecDepth 100000 in
set_option maxHeartbeats 6400000 in
theorem climit_any (h : Hs) (L : Nat → List (List Value)) (s : ByteArray) (v u : Int) (w : World) (hh : HT h L w) (hn3 : h.n 3 ≤ 1000) (hc1 : h.n 3 ≤ h.c 3 ∧ h.c 3 ≤ 9223372036854775807) :
    Calls Try.prog 24 #[.agg h.cells, .string s, .int .i64 v, .int .i64 u] w (PutP 57 8 3 (limE (L 0) (L 3) (L 4) s v u) (limL (L 3) s v u) h w) := by
  obtain ⟨y, hy, hyb⟩ := bin_eight hh s
  obtain ⟨ib, hib⟩ : ∃ z, (atBin (L 3) s).isSome = z := ⟨_, rfl⟩
  obtain ⟨oo, hoo⟩ : ∃ z, (decide (v < 0) || decide (1000000000000 < v) || decide (u < 0) || decide (1000000000000 < u)) = z := ⟨_, rfl⟩
  obtain ⟨fb, hfb⟩ : ∃ z, fullB (L 0) (L 4) (bnSize y v u) = z := ⟨_, rfl⟩
  obtain ⟨er, her⟩ : ∃ r, limE (L 0) (L 3) (L 4) s v u = r := ⟨_, rfl⟩
  have HA : Hid (er = if ib = false then 12 else if oo = true then 5 else if fb = true then 26 else 0) := Lib.hid (by rw [← her]; unfold limE; rw [hib, hoo, hyb, hfb])
  have HOO : Hid (oo = (decide (v < 0) || decide (1000000000000 < v) || decide (u < 0) || decide (1000000000000 < u))) := Lib.hid hoo.symm
  have HL : Hid (limL (L 3) s v u = putG ordBin (L 3) (bnSize y v u).cells) := Lib.hid (by unfold limL; rw [hyb])
  have CB : Hid (∀ W, Below w.heap.size w W → Calls Try.prog 44 #[.agg h.cells, .string s] W fun e w' => e = .returned (.tuple #[.agg #[.string y.code, .string y.zone, .int .i64 y.kind, .int .i64 y.aisle, .int .i64 y.place, .int .i64 y.vol, .int .i64 y.wei, .bool y.frz], .bool ib]) ∧ Below W.heap.size W w') := Lib.hid (fun W hW => by have := fcBin (hh.below hW) s; rw [hy, hib] at this; exact this)
  have CF : Hid (∀ W, Below w.heap.size w W → Calls Try.prog 47 #[.agg h.cells, .agg #[.string y.code, .string y.zone, .int .i64 y.kind, .int .i64 y.aisle, .int .i64 y.place, .int .i64 v, .int .i64 u, .bool y.frz]] W fun e w' => e = .returned (.bool fb) ∧ Below W.heap.size W w') := Lib.hid (fun W hW => (cfull_any h L y.code y.zone y.kind y.aisle y.place v u y.frz W (hh.below hW)).mono (fun e w' h => by rw [← hfb]; exact h))
  have HPU := Lib.hid (fun W (hW : Below w.heap.size w W) => putBin (h.A 3) (h.n 3) (h.c 3) 85 #[] ordBin [.string y.code, .string y.zone, .int .i64 y.kind, .int .i64 y.aisle, .int .i64 y.place, .int .i64 v, .int .i64 u, .bool y.frz] (L 3) W (hh 3 (by decide)).1 hc1.1 hc1.2 (by omega) (hh 3 (by decide)).2.2.1 (Bn.fits (bnSize y v u)) ((hh.below hW) 3 (by decide)).2.2.2 (tellsBinR W))
  obtain ⟨m, hmm⟩ : ∃ m, h.n 3 = m := ⟨_, rfl⟩
  rw [her, HL.out]
  obtain ⟨lx, hlx⟩ : ∃ l, putG ordBin (L 3) (bnSize y v u).cells = l := ⟨_, rfl⟩
  have hlx2 : putG ordBin (L 3) [.string y.code, .string y.zone, .int .i64 y.kind, .int .i64 y.aisle, .int .i64 y.place, .int .i64 v, .int .i64 u, .bool y.frz] = lx := hlx
  rw [hlx2, hmm] at HPU
  rw [hlx]
  rw [hmm] at hn3
  have HMM := Lib.hid hmm
  have hub := Try.underlying57
  have HSB : Hid ((Try.prog.info? 57).map (·.size) = some 8) := Lib.hid (by kernel_rfl)
  obtain ⟨r1, hr1⟩ : ∃ r, (decide (0 ≤ v) && decide (v ≤ 1000000000000)) = r := ⟨_, rfl⟩
  obtain ⟨r2, hr2⟩ : ∃ r, (decide (0 ≤ u) && decide (u ≤ 1000000000000)) = r := ⟨_, rfl⟩
  have HRR : Hid (oo = (!r1 || !r2)) := Lib.hid (by rw [HOO.out, ← hr1, ← hr2, Bool.eq_iff_iff]; simp; omega)
  have HR1 := Lib.hid hr1
  have HR2 := Lib.hid hr2
  clear hr1 hr2
  clear her hib hoo hfb hy hyb HL hlx hlx2 hmm hc1
  obtain ⟨W0, hW0⟩ : ∃ W0, W0 = ((w.alloc (.cells h.cells 37)).alloc (.cells #[.slice none 0 0, .slice none 0 0, .slice none 0 0, .slice none 0 0, .slice none 0 0, .slice none 0 0, .slice none 0 0, .slice none 0 0, .slice none 0 0, .slice none 0 0, .slice none 0 0, .slice none 0 0, .slice none 0 0, .slice none 0 0, .int .i64 0] 37)) := ⟨_, rfl⟩
  have hb0 : Below w.heap.size w W0 := by rw [hW0]; exact ((Below.refl _ _).alloc (Nat.le_refl _) _).alloc (by simp <;> omega) _
  have hs0 : W0.heap.size = w.heap.size + 2 := by rw [hW0]; simp
  have HH : Hid (∀ W, Below W0.heap.size W0 W → W.heap[w.heap.size]? = some (.cells h.cells 37 (0, 0))) := Lib.hid (fun W hW => (hW.block _ (by omega)).trans (by
    rw [hW0]
    have hq := heap_alloc_new w (.cells h.cells 37)
    exact (Below.heap_alloc _ _ _ (by simp <;> omega)).trans ((by simpa using hq))))
  have HZ : Hid (∀ W, Below W0.heap.size W0 W → W.heap[w.heap.size + 1]? = some (.cells Hs.zero 37 (0, 0))) := Lib.hid (fun W hW => (hW.block _ (by omega)).trans (by
    rw [hW0]
    have hq := heap_alloc_new (w.alloc (.cells h.cells 37)) (.cells #[.slice none 0 0, .slice none 0 0, .slice none 0 0, .slice none 0 0, .slice none 0 0, .slice none 0 0, .slice none 0 0, .slice none 0 0, .slice none 0 0, .slice none 0 0, .slice none 0 0, .slice none 0 0, .slice none 0 0, .slice none 0 0, .int .i64 0] 37)
    exact (by simpa [Hs.zero] using hq)))
  have HBW : Hid (∀ W, Below W0.heap.size W0 W → Below w.heap.size w W ∧ w.heap.size + 2 ≤ W.heap.size) := Lib.hid (fun W hW => ⟨hb0.trans (hW.mono (by omega)), by have := hW.size; omega⟩)
  have huh := Try.underlying37
  have HSH : Hid (∀ a : Hs, (Try.prog.info? 37).map (·.size) = some a.cells.size) := Lib.hid (fun a => by kernel_rfl)
  have HSQ : Hid ((Try.prog.info? 37).map (·.size) = some Hs.zero.size) := Lib.hid (by kernel_rfl)
  have H1C : Hid (∀ a : Hs, a.cells.all (·.oneCell') = true) := Lib.hid (fun a => by simp [Hs.cells, Value.oneCell'])
  have H1Q : Hid (Hs.zero.all (·.oneCell') = true) := Lib.hid (by simp [Hs.zero, Value.oneCell'])
  have HLI : Hid (∀ W, Below W0.heap.size W0 W → W.cell? ⟨w.heap.size, 3, none⟩ = some (.slice (h.A 3) m (h.c 3)) ∧ w.heap.size < W.heap.size) := Lib.hid (fun W hW => ⟨by rw [cell_of_block (HH.out W hW), ← HMM.out]; rfl, by have := hW.size; omega⟩)
  have H0 := Lib.hid (Below.refl W0.heap.size W0)
  clear hb0 hs0 hh
  subst hW0
  go_enter Try.func24, Try.ntmps24
  go_wp2_with (first
    | (refine wpList_load_row rfl 37 (.tmp 4) rfl w.heap.size rfl _ _ _ _ (HH.out _ H0.out) huh rfl (HSH.out _) ?_)
    | fail)
  refine (CB.out _ (HBW.out _ H0.out).1).mono ?_
  rintro e w1 ⟨rfl, hb1⟩
  have H1 := Lib.hid (H0.out.trans (hb1.mono H0.out.size))
  clear hb1
  have H2 := Lib.hid (H1.out.alloc H1.out.size (.cells #[.string y.code, .string y.zone, .int .i64 y.kind, .int .i64 y.aisle, .int .i64 y.place, .int .i64 y.vol, .int .i64 y.wei, .bool y.frz] 57))
  cases ib with
  | false =>
    have HE : Hid (er = 12) := Lib.hid (by rw [HA.out]; rfl)
    go_wp2_with (first
      | (refine wpList_store_row rfl 37 (.tmp 8) (.tmp 20) rfl (w.heap.size + 1) Hs.zero rfl rfl _ _ (HZ.out _ H2.out) HSQ.out rfl H1Q.out ?_)
      | fail)
    exact bodyPost_ret (results_row_tmp rfl _ _ (w.heap.size + 1) _ _ _ _ rfl (setRow_heap _ _ _ _ _ _ (HZ.out _ H2.out)) huh rfl HSQ.out) rfl ⟨setRow_below (HBW.out _ H2.out).1 (by omega) _, .inl ⟨by rw [HE.out]; decide, by rw [HE.out]; rfl⟩⟩
  | true =>
    go_wp2_with fail
    refine (crange_any _ _ _).mono ?_
    rintro e w2 ⟨rfl, rfl⟩
    rw [HR1.out]
    cases r1 with
    | false =>
      have HO : Hid (oo = true) := Lib.hid (by rw [HRR.out]; rfl)
      have HE : Hid (er = 5) := Lib.hid (by rw [HA.out, HO.out]; rfl)
      go_wp2_with (first
        | (refine wpList_store_row rfl 37 (.tmp 8) (.tmp 29) rfl (w.heap.size + 1) Hs.zero rfl rfl _ _ (HZ.out _ H2.out) HSQ.out rfl H1Q.out ?_)
        | fail)
      exact bodyPost_ret (results_row_tmp rfl _ _ (w.heap.size + 1) _ _ _ _ rfl (setRow_heap _ _ _ _ _ _ (HZ.out _ H2.out)) huh rfl HSQ.out) rfl ⟨setRow_below (HBW.out _ H2.out).1 (by omega) _, .inl ⟨by rw [HE.out]; decide, by rw [HE.out]; rfl⟩⟩
    | true =>
      go_wp2_with fail
      refine (crange_any _ _ _).mono ?_
      rintro e w2 ⟨rfl, rfl⟩
      rw [HR2.out]
      cases r2 with
      | false =>
        have HO : Hid (oo = true) := Lib.hid (by rw [HRR.out]; rfl)
        have HE : Hid (er = 5) := Lib.hid (by rw [HA.out, HO.out]; rfl)
        go_wp2_with (first
          | (refine wpList_store_row rfl 37 (.tmp 8) (.tmp 29) rfl (w.heap.size + 1) Hs.zero rfl rfl _ _ (HZ.out _ H2.out) HSQ.out rfl H1Q.out ?_)
          | fail)
        exact bodyPost_ret (results_row_tmp rfl _ _ (w.heap.size + 1) _ _ _ _ rfl (setRow_heap _ _ _ _ _ _ (HZ.out _ H2.out)) huh rfl HSQ.out) rfl ⟨setRow_below (HBW.out _ H2.out).1 (by omega) _, .inl ⟨by rw [HE.out]; decide, by rw [HE.out]; rfl⟩⟩
      | true =>
        have HO : Hid (oo = false) := Lib.hid (by rw [HRR.out]; rfl)
        obtain ⟨w3, hw3⟩ : ∃ w3, w3 = w1.alloc (.cells #[.string y.code, .string y.zone, .int .i64 y.kind, .int .i64 y.aisle, .int .i64 y.place, .int .i64 v, .int .i64 u, .bool y.frz] 57) := ⟨_, rfl⟩
        have H3 : Hid (Below _ _ w3) := Lib.hid (hw3 ▸ H1.out.alloc H1.out.size _)
        have HA1 : Hid (w3.heap[w1.heap.size]? = some (.cells #[.string y.code, .string y.zone, .int .i64 y.kind, .int .i64 y.aisle, .int .i64 y.place, .int .i64 v, .int .i64 u, .bool y.frz] 57 (0, 0))) := Lib.hid (by rw [hw3]; exact heap_alloc_new _ _)
        have HX3 : Hid (∀ W, Below w3.heap.size w3 W → W.heap[w1.heap.size]? = some (.cells #[.string y.code, .string y.zone, .int .i64 y.kind, .int .i64 y.aisle, .int .i64 y.place, .int .i64 v, .int .i64 u, .bool y.frz] 57 (0, 0))) := Lib.hid (fun W hW => (hW.block _ (lt_of_block HA1.out)).trans HA1.out)
        have HW3 := Lib.hid hw3
        clear hw3
        go_upto_region 7 with fail
        rw [← HW3.out]
        go_wp2_with (first
          | (refine wpList_load_row rfl 37 (.tmp 4) rfl w.heap.size rfl _ _ _ _ (HH.out _ H3.out) huh rfl (HSH.out _) ?_)
          | (refine wpList_load_row rfl 57 (.tmp 10) rfl w1.heap.size rfl _ _ _ _ (HX3.out _ (Below.refl _ _)) hub rfl HSB.out ?_)
          | fail)
        refine (CF.out _ (HBW.out _ H3.out).1).mono ?_
        rintro e w4 ⟨rfl, hb4⟩
        have H4 := Lib.hid (H3.out.trans (hb4.mono H3.out.size))
        have HB4 := Lib.hid hb4
        clear hb4
        cases fb with
        | true =>
          have HE : Hid (er = 26) := Lib.hid (by rw [HA.out, HO.out]; rfl)
          go_wp2_with (first
            | (refine wpList_store_row rfl 37 (.tmp 8) (.tmp 37) rfl (w.heap.size + 1) Hs.zero rfl rfl _ _ (HZ.out _ H4.out) HSQ.out rfl H1Q.out ?_)
            | fail)
          exact bodyPost_ret (results_row_tmp rfl _ _ (w.heap.size + 1) _ _ _ _ rfl (setRow_heap _ _ _ _ _ _ (HZ.out _ H4.out)) huh rfl HSQ.out) rfl ⟨setRow_below (HBW.out _ H4.out).1 (by omega) _, .inl ⟨by rw [HE.out]; decide, by rw [HE.out]; rfl⟩⟩
        | false =>
          have HE : Hid (er = 0) := Lib.hid (by rw [HA.out, HO.out]; rfl)
          obtain ⟨wB, hwB⟩ : ∃ W, W = w4 := ⟨_, rfl⟩
          have HWB0 := Lib.hid hwB
          have hob := H4.out
          rw [← hwB] at hob
          have HOB := Lib.hid hob
          clear hob
          have HXB : Hid (∀ W, Below wB.heap.size wB W → W.heap[w1.heap.size]? = some (.cells #[.string y.code, .string y.zone, .int .i64 y.kind, .int .i64 y.aisle, .int .i64 y.place, .int .i64 v, .int .i64 u, .bool y.frz] 57 (0, 0))) := Lib.hid (fun W hW => by have hq := hW; rw [HWB0.out] at hq; exact HX3.out W (HB4.out.trans (hq.mono HB4.out.size)))
          have HST : Hid (∀ W, Below wB.heap.size wB W → W.cell? ⟨w.heap.size, 3, none⟩ = some (.slice (h.A 3) m (h.c 3)) ∧ W.rangeAt (w1.heap.size) 0 [.string y.code, .string y.zone, .int .i64 y.kind, .int .i64 y.aisle, .int .i64 y.place, .int .i64 v, .int .i64 u, .bool y.frz]) := Lib.hid (fun W hW => ⟨(HLI.out W (HOB.out.trans (hW.mono HOB.out.size))).1, range_cells (HXB.out W hW)⟩)
          have HWB := Lib.hid hwB
          clear hwB
          go_upto_region 9 with fail
          rw [← HWB.out]
          go_wp2_with fail
          refine lastW_region (S := (fun w' => w'.cell? ⟨w.heap.size, 3, none⟩ = some (.slice (h.A 3) (m) (h.c 3)) ∧ w'.rangeAt (w1.heap.size) 0 [.string y.code, .string y.zone, .int .i64 y.kind, .int .i64 y.aisle, .int .i64 y.place, .int .i64 v, .int .i64 u, .bool y.frz])) (n := 6) (by kernel_rfl) ?_
          have ST5 := HST.out _ (Below.refl wB.heap.size wB).drew
          refine LastW.take (i := 1) (v := .pointer (some ⟨w.heap.size, 3, none⟩)) rfl (by kernel_rfl) (by kernel_rfl) (by kernel_rfl) (by kernel_rfl) (by decide) (fun _ _ _ h => h.elim) (.inl ⟨by kernel_rfl, fun w hw => by clear hw; go_simp⟩) ST5 ?_
          (try simp only [Act.put, List.getElem_toArray, List.getElem_cons_succ, List.getElem_cons_zero, List.setIfInBounds_toArray, List.set_cons_zero, List.set_cons_succ])
          refine LastW.take (i := 2) (v := .slice (h.A 3) (m) (h.c 3)) rfl (by kernel_rfl) (by kernel_rfl) (by kernel_rfl) (by kernel_rfl) (by decide) (fun _ _ _ h => h.elim) (.inl ⟨by kernel_rfl, fun w hw => by have hw := hw.1; go_simp⟩) ST5 ?_
          (try simp only [Act.put, List.getElem_toArray, List.getElem_cons_succ, List.getElem_cons_zero, List.setIfInBounds_toArray, List.set_cons_zero, List.set_cons_succ])
          refine LastW.take (i := 3) (v := .agg #[.string y.code, .string y.zone, .int .i64 y.kind, .int .i64 y.aisle, .int .i64 y.place, .int .i64 v, .int .i64 u, .bool y.frz]) rfl (by kernel_rfl) (by kernel_rfl) (by kernel_rfl) (by kernel_rfl) (by decide) (fun _ _ _ h => h.elim) (yieldsIf_load_mid (by kernel_rfl) 57 (.tmp 10) rfl (w1.heap.size) 0 rfl [.string y.code, .string y.zone, .int .i64 y.kind, .int .i64 y.aisle, .int .i64 y.place, .int .i64 v, .int .i64 u, .bool y.frz] _ (fun w h => h.2) hub rfl HSB.out) ST5 ?_
          (try simp only [Act.put, List.getElem_toArray, List.getElem_cons_succ, List.getElem_cons_zero, List.setIfInBounds_toArray, List.set_cons_zero, List.set_cons_succ])
          refine LastW.one (i := 0) (by kernel_rfl) rfl (fun K hK => ?_)
          go_simp
          refine (tabBinR_any _).mono ?_
          rintro e w7 ⟨rfl, hb7⟩
          have H7 := Lib.hid ((Below.refl wB.heap.size wB).drew.trans (hb7.mono (Below.refl wB.heap.size wB).drew.size))
          clear hb7
          refine hK.out _ _ (fun _ => HST.out _ H7.out) (fun _ => ?_)
          clear hK K
          (try simp only [Act.put, List.getElem_toArray, List.getElem_cons_succ, List.getElem_cons_zero, List.setIfInBounds_toArray, List.set_cons_zero, List.set_cons_succ])
          have H7W := Lib.hid (HOB.out.trans (H7.out.mono HOB.out.size))
          refine LastW.one (i := 4) (by kernel_rfl) rfl (fun K hK => ?_)
          go_simp
          refine (HPU.out _ (HBW.out _ H7W.out).1).mono ?_
          rintro e w8 ⟨A5, n5, p5, hl5, rfl, hown5, hb8⟩
          have H8 := Lib.hid (H7.out.trans (hb8.mono H7.out.size))
          have H8W := Lib.hid (HOB.out.trans (H8.out.mono HOB.out.size))
          have HO5 := Lib.hid hown5
          have HLE := Lib.hid hl5
          clear hb8 hown5 hl5
          refine hK.out _ _ (fun _ => HST.out _ H8.out) (fun _ => ?_)
          clear hK K
          (try simp only [Act.put, List.getElem_toArray, List.getElem_cons_succ, List.getElem_cons_zero, List.setIfInBounds_toArray, List.set_cons_zero, List.set_cons_succ])
          refine LastW.take (i := 5) (v := .pointer (some ⟨w.heap.size, 3, none⟩)) rfl (by kernel_rfl) (by kernel_rfl) (by kernel_rfl) (by kernel_rfl) (by decide) (fun _ _ _ h => h.elim) (.inl ⟨by kernel_rfl, fun w hw => by clear hw; go_simp⟩) (HST.out _ H8.out) ?_
          (try simp only [Act.put, List.getElem_toArray, List.getElem_cons_succ, List.getElem_cons_zero, List.setIfInBounds_toArray, List.set_cons_zero, List.set_cons_succ])
          refine LastW.one (i := 6) (by kernel_rfl) rfl (fun K hK => ?_)
          have c5 := (HLI.out _ H8W.out).1
          have f5 : w8.frozen? ⟨w.heap.size, 3, none⟩ = false := frozen_of_block (HH.out _ H8W.out)
          have HZ5 := Lib.hid (HZ.out _ H8W.out)
          have HH5 := Lib.hid (HH.out _ H8W.out)
          have HB5 := Lib.hid (HBW.out _ H8W.out)
          go_simp
          refine hK.out _ _ (fun h => absurd rfl h) (fun _ => ?_)
          clear hK K
          (try simp only [Act.put, List.getElem_toArray, List.getElem_cons_succ, List.getElem_cons_zero, List.setIfInBounds_toArray, List.set_cons_zero, List.set_cons_succ])
          refine LastW.done (by kernel_rfl) ?_ _
          refine NoPanic.normal ?_
          have H9 : Hid ((w8.setCell ⟨w.heap.size, 3, none⟩ (.slice A5 n5 p5)).heap[w.heap.size]? = some (.cells (h.set 3 A5 n5 p5).cells 37 (0, 0))) := Lib.hid (by rw [block_setCell HH5.out, h.set_cells _ _ _ 3 (by decide)])
          have HZ6 : Hid ((w8.setCell ⟨w.heap.size, 3, none⟩ (.slice A5 n5 p5)).heap[w.heap.size + 1]? = some (.cells Hs.zero 37 (0, 0))) := Lib.hid ((block_setCell_other (by omega) _).trans HZ5.out)
          have HB6 : Hid (Below w.heap.size w (w8.setCell ⟨w.heap.size, 3, none⟩ (.slice A5 n5 p5))) := Lib.hid (HB5.out.1.setCell (Nat.le_refl _) _)
          have HS4 : Hid (w.heap.size + 1 < w7.heap.size) := Lib.hid (by have := (HBW.out _ H7W.out).2; omega)
          have HO6 : Hid ((w8.setCell ⟨w.heap.size, 3, none⟩ (.slice A5 n5 p5)).ownsRow w7.heap.size 57 8 (.slice A5 n5 p5) n5 lx.flatten) := Lib.hid (own_far HO5.out (by have := HS4.out; simp; omega) (Nat.le_refl _))
          generalize w8.setCell ⟨w.heap.size, 3, none⟩ (.slice A5 n5 p5) = w6 at *
          go_wp2_with (first
            | (refine wpList_load_row rfl 37 (.tmp 4) rfl w.heap.size rfl _ _ _ _ H9.out huh rfl (HSH.out _) ?_)
            | (refine wpList_store_row rfl 37 (.tmp 8) (.tmp 44) rfl (w.heap.size + 1) (h.set 3 A5 n5 p5).cells rfl rfl _ _ HZ6.out (HSH.out _) rfl (H1C.out _) ?_)
            | fail)
          exact bodyPost_ret (results_row_tmp rfl _ _ (w.heap.size + 1) _ _ _ _ rfl (setRow_heap _ _ _ _ _ _ HZ6.out) huh rfl (HSH.out _)) rfl ⟨setRow_below HB6.out (by omega) _, .inr ⟨HE.out, A5, n5, p5, HLE.out, own_rowed HO6.out HS4.out (by have := HS4.out; omega), rfl⟩⟩

set_option maxRecDepth 100000 in
set_option maxHeartbeats 6400000 in
theorem cresize_any (h : Hs) (L : Nat → List (List Value)) (t : ByteArray) (v u : Int) (w : World) (hh : HT h L w) (hn0 : h.n 0 ≤ 1000) (hc1 : h.n 0 ≤ h.c 0 ∧ h.c 0 ≤ 9223372036854775807) :
    Calls Try.prog 22 #[.agg h.cells, .string t, .int .i64 v, .int .i64 u] w (PutP 68 14 0 (resE (L 0) (L 3) (L 4) t v u) (resL (L 0) t v u) h w) := by
  obtain ⟨x, hx, hxo⟩ := item_it hh t
  obtain ⟨ii, hii⟩ : ∃ z, (atItem (L 0) t).isSome = z := ⟨_, rfl⟩
  obtain ⟨oo, hoo⟩ : ∃ z, (decide (v < 0) || decide (1000000 < v) || decide (u < 0) || decide (1000000 < u)) = z := ⟨_, rfl⟩
  obtain ⟨er, her⟩ : ∃ r, resE (L 0) (L 3) (L 4) t v u = r := ⟨_, rfl⟩
  have HL : Hid (resL (L 0) t v u = putG ordItem (L 0) (itSize x v u).cells) := Lib.hid (by unfold resL; rw [hxo])
  obtain ⟨lx, hlx⟩ : ∃ l, resL (L 0) t v u = l := ⟨_, rfl⟩
  have HA : Hid (er = if ii = false then 12 else if oo = true then 5 else if ((L 3).any (badB lx (L 4) t)) = true then 26 else 0) := Lib.hid (by rw [← her]; unfold resE; rw [hii, hoo, hlx])
  have HOO : Hid (oo = (decide (v < 0) || decide (1000000 < v) || decide (u < 0) || decide (1000000 < u))) := Lib.hid hoo.symm
  have HLX : Hid (putG ordItem (L 0) (itSize x v u).cells = lx) := Lib.hid (by rw [← HL.out, hlx])
  have CI : Hid (∀ W, Below w.heap.size w W → Calls Try.prog 42 #[.agg h.cells, .string t] W fun e w' => e = .returned (.tuple #[.agg #[.string x.code, .string (x.nm 0), .int .i64 (x.fc 0), .string (x.nm 1), .int .i64 (x.fc 1), .string (x.nm 2), .int .i64 (x.fc 2), .string (x.nm 3), .int .i64 (x.fc 3), .int .i64 x.vol, .int .i64 x.wei, .bool x.lots, .bool x.serial, .bool x.chk], .bool ii]) ∧ Below W.heap.size W w') := Lib.hid (fun W hW => by have := fcItem (hh.below hW) t; rw [hx, hii] at this; exact this)
  obtain ⟨ob, hob⟩ : ∃ z, (L 3).any (badB lx (L 4) t) = z := ⟨_, rfl⟩
  rw [hob] at HA
  have HPU := Lib.hid (fun W (hW : Below w.heap.size w W) => putItem (h.A 0) (h.n 0) (h.c 0) 75 #[] ordItem [.string x.code, .string (x.nm 0), .int .i64 (x.fc 0), .string (x.nm 1), .int .i64 (x.fc 1), .string (x.nm 2), .int .i64 (x.fc 2), .string (x.nm 3), .int .i64 (x.fc 3), .int .i64 v, .int .i64 u, .bool x.lots, .bool x.serial, .bool x.chk] (L 0) W (hh 0 (by decide)).1 hc1.1 hc1.2 (by omega) (hh 0 (by decide)).2.2.1 (It.fits (itSize x v u)) ((hh.below hW) 0 (by decide)).2.2.2 (tellsItemR W))
  have HTK : Hid (∀ (A : Option Addr) (n c B : Nat) W, Below w.heap.size w W → PutK 68 14 0 0 lx h (h.set 0 A n c) B W → HT (h.set 0 A n c) (setE 0 L 0 lx) W) := Lib.hid (fun A n c B W hW hk => by
    rw [← HLX.out] at hk ⊢
    exact PutK.ht (by decide) (It.fits _) hn0 (hh.below hW) hk)
  have CO : Hid (∀ (g : Hs) W, HT g (setE 0 L 0 lx) W → Calls Try.prog 52 #[.agg g.cells, .string t] W fun e w' => e = .returned (.bool ob) ∧ Below W.heap.size W w') := Lib.hid (fun g W hW => by rw [← hob]; exact coverfills_any g (setE 0 L 0 lx) t W hW)
  obtain ⟨m, hmm⟩ : ∃ m, h.n 0 = m := ⟨_, rfl⟩
  rw [her, hlx]
  have hlx2 : putG ordItem (L 0) [.string x.code, .string (x.nm 0), .int .i64 (x.fc 0), .string (x.nm 1), .int .i64 (x.fc 1), .string (x.nm 2), .int .i64 (x.fc 2), .string (x.nm 3), .int .i64 (x.fc 3), .int .i64 v, .int .i64 u, .bool x.lots, .bool x.serial, .bool x.chk] = lx := HLX.out
  rw [hlx2, hmm] at HPU
  rw [hmm] at hn0
  have HMM := Lib.hid hmm
  have hui := Try.underlying68
  have HSI : Hid ((Try.prog.info? 68).map (·.size) = some 14) := Lib.hid (by kernel_rfl)
  obtain ⟨r1, hr1⟩ : ∃ r, (decide (0 ≤ v) && decide (v ≤ 1000000)) = r := ⟨_, rfl⟩
  obtain ⟨r2, hr2⟩ : ∃ r, (decide (0 ≤ u) && decide (u ≤ 1000000)) = r := ⟨_, rfl⟩
  have HRR : Hid (oo = (!r1 || !r2)) := Lib.hid (by rw [HOO.out, ← hr1, ← hr2, Bool.eq_iff_iff]; simp; omega)
  have HR1 := Lib.hid hr1
  have HR2 := Lib.hid hr2
  clear hr1 hr2
  clear her hii hoo hob hx hxo HL hlx hlx2 hmm hc1
  obtain ⟨W0, hW0⟩ : ∃ W0, W0 = ((w.alloc (.cells h.cells 37)).alloc (.cells #[.slice none 0 0, .slice none 0 0, .slice none 0 0, .slice none 0 0, .slice none 0 0, .slice none 0 0, .slice none 0 0, .slice none 0 0, .slice none 0 0, .slice none 0 0, .slice none 0 0, .slice none 0 0, .slice none 0 0, .slice none 0 0, .int .i64 0] 37)) := ⟨_, rfl⟩
  have hb0 : Below w.heap.size w W0 := by rw [hW0]; exact ((Below.refl _ _).alloc (Nat.le_refl _) _).alloc (by simp <;> omega) _
  have hs0 : W0.heap.size = w.heap.size + 2 := by rw [hW0]; simp
  have HH : Hid (∀ W, Below W0.heap.size W0 W → W.heap[w.heap.size]? = some (.cells h.cells 37 (0, 0))) := Lib.hid (fun W hW => (hW.block _ (by omega)).trans (by
    rw [hW0]
    have hq := heap_alloc_new w (.cells h.cells 37)
    exact (Below.heap_alloc _ _ _ (by simp <;> omega)).trans ((by simpa using hq))))
  have HZ : Hid (∀ W, Below W0.heap.size W0 W → W.heap[w.heap.size + 1]? = some (.cells Hs.zero 37 (0, 0))) := Lib.hid (fun W hW => (hW.block _ (by omega)).trans (by
    rw [hW0]
    have hq := heap_alloc_new (w.alloc (.cells h.cells 37)) (.cells #[.slice none 0 0, .slice none 0 0, .slice none 0 0, .slice none 0 0, .slice none 0 0, .slice none 0 0, .slice none 0 0, .slice none 0 0, .slice none 0 0, .slice none 0 0, .slice none 0 0, .slice none 0 0, .slice none 0 0, .slice none 0 0, .int .i64 0] 37)
    exact (by simpa [Hs.zero] using hq)))
  have HBW : Hid (∀ W, Below W0.heap.size W0 W → Below w.heap.size w W ∧ w.heap.size + 2 ≤ W.heap.size) := Lib.hid (fun W hW => ⟨hb0.trans (hW.mono (by omega)), by have := hW.size; omega⟩)
  have huh := Try.underlying37
  have HSH : Hid (∀ a : Hs, (Try.prog.info? 37).map (·.size) = some a.cells.size) := Lib.hid (fun a => by kernel_rfl)
  have HSQ : Hid ((Try.prog.info? 37).map (·.size) = some Hs.zero.size) := Lib.hid (by kernel_rfl)
  have H1C : Hid (∀ a : Hs, a.cells.all (·.oneCell') = true) := Lib.hid (fun a => by simp [Hs.cells, Value.oneCell'])
  have H1Q : Hid (Hs.zero.all (·.oneCell') = true) := Lib.hid (by simp [Hs.zero, Value.oneCell'])
  have HLI : Hid (∀ W, Below W0.heap.size W0 W → W.cell? ⟨w.heap.size, 0, none⟩ = some (.slice (h.A 0) m (h.c 0)) ∧ w.heap.size < W.heap.size) := Lib.hid (fun W hW => ⟨by rw [cell_of_block (HH.out W hW), ← HMM.out]; rfl, by have := hW.size; omega⟩)
  have H0 := Lib.hid (Below.refl W0.heap.size W0)
  clear hb0 hs0 hh
  subst hW0
  go_enter Try.func22, Try.ntmps22
  go_wp2_with (first
    | (refine wpList_load_row rfl 37 (.tmp 4) rfl w.heap.size rfl _ _ _ _ (HH.out _ H0.out) huh rfl (HSH.out _) ?_)
    | fail)
  refine (CI.out _ (HBW.out _ H0.out).1).mono ?_
  rintro e w1 ⟨rfl, hb1⟩
  have H1 := Lib.hid (H0.out.trans (hb1.mono H0.out.size))
  clear hb1
  have H2 := Lib.hid (H1.out.alloc H1.out.size (.cells #[.string x.code, .string (x.nm 0), .int .i64 (x.fc 0), .string (x.nm 1), .int .i64 (x.fc 1), .string (x.nm 2), .int .i64 (x.fc 2), .string (x.nm 3), .int .i64 (x.fc 3), .int .i64 x.vol, .int .i64 x.wei, .bool x.lots, .bool x.serial, .bool x.chk] 68))
  cases ii with
  | false =>
    have HE : Hid (er = 12) := Lib.hid (by rw [HA.out]; rfl)
    go_wp2_with (first
      | (refine wpList_store_row rfl 37 (.tmp 8) (.tmp 20) rfl (w.heap.size + 1) Hs.zero rfl rfl _ _ (HZ.out _ H2.out) HSQ.out rfl H1Q.out ?_)
      | fail)
    exact bodyPost_ret (results_row_tmp rfl _ _ (w.heap.size + 1) _ _ _ _ rfl (setRow_heap _ _ _ _ _ _ (HZ.out _ H2.out)) huh rfl HSQ.out) rfl ⟨setRow_below (HBW.out _ H2.out).1 (by omega) _, .inl ⟨by rw [HE.out]; decide, by rw [HE.out]; rfl⟩⟩
  | true =>
    go_wp2_with fail
    refine (crange_any _ _ _).mono ?_
    rintro e w2 ⟨rfl, rfl⟩
    rw [HR1.out]
    cases r1 with
    | false =>
      have HO : Hid (oo = true) := Lib.hid (by rw [HRR.out]; rfl)
      have HE : Hid (er = 5) := Lib.hid (by rw [HA.out, HO.out]; rfl)
      go_wp2_with (first
        | (refine wpList_store_row rfl 37 (.tmp 8) (.tmp 29) rfl (w.heap.size + 1) Hs.zero rfl rfl _ _ (HZ.out _ H2.out) HSQ.out rfl H1Q.out ?_)
        | fail)
      exact bodyPost_ret (results_row_tmp rfl _ _ (w.heap.size + 1) _ _ _ _ rfl (setRow_heap _ _ _ _ _ _ (HZ.out _ H2.out)) huh rfl HSQ.out) rfl ⟨setRow_below (HBW.out _ H2.out).1 (by omega) _, .inl ⟨by rw [HE.out]; decide, by rw [HE.out]; rfl⟩⟩
    | true =>
      go_wp2_with fail
      refine (crange_any _ _ _).mono ?_
      rintro e w2 ⟨rfl, rfl⟩
      rw [HR2.out]
      cases r2 with
      | false =>
        have HO : Hid (oo = true) := Lib.hid (by rw [HRR.out]; rfl)
        have HE : Hid (er = 5) := Lib.hid (by rw [HA.out, HO.out]; rfl)
        go_wp2_with (first
          | (refine wpList_store_row rfl 37 (.tmp 8) (.tmp 29) rfl (w.heap.size + 1) Hs.zero rfl rfl _ _ (HZ.out _ H2.out) HSQ.out rfl H1Q.out ?_)
          | fail)
        exact bodyPost_ret (results_row_tmp rfl _ _ (w.heap.size + 1) _ _ _ _ rfl (setRow_heap _ _ _ _ _ _ (HZ.out _ H2.out)) huh rfl HSQ.out) rfl ⟨setRow_below (HBW.out _ H2.out).1 (by omega) _, .inl ⟨by rw [HE.out]; decide, by rw [HE.out]; rfl⟩⟩
      | true =>
        have HO : Hid (oo = false) := Lib.hid (by rw [HRR.out]; rfl)
        have H3 := Lib.hid (H1.out.alloc H1.out.size (.cells #[.string x.code, .string (x.nm 0), .int .i64 (x.fc 0), .string (x.nm 1), .int .i64 (x.fc 1), .string (x.nm 2), .int .i64 (x.fc 2), .string (x.nm 3), .int .i64 (x.fc 3), .int .i64 v, .int .i64 u, .bool x.lots, .bool x.serial, .bool x.chk] 68))
        have HXN : Hid ((w1.alloc (.cells #[.string x.code, .string (x.nm 0), .int .i64 (x.fc 0), .string (x.nm 1), .int .i64 (x.fc 1), .string (x.nm 2), .int .i64 (x.fc 2), .string (x.nm 3), .int .i64 (x.fc 3), .int .i64 v, .int .i64 u, .bool x.lots, .bool x.serial, .bool x.chk] 68)).heap[w1.heap.size]? = some (.cells #[.string x.code, .string (x.nm 0), .int .i64 (x.fc 0), .string (x.nm 1), .int .i64 (x.fc 1), .string (x.nm 2), .int .i64 (x.fc 2), .string (x.nm 3), .int .i64 (x.fc 3), .int .i64 v, .int .i64 u, .bool x.lots, .bool x.serial, .bool x.chk] 68 (0, 0))) := Lib.hid (heap_alloc_new _ _)
        obtain ⟨wB, hwB⟩ : ∃ W, W = w1.alloc (.cells #[.string x.code, .string (x.nm 0), .int .i64 (x.fc 0), .string (x.nm 1), .int .i64 (x.fc 1), .string (x.nm 2), .int .i64 (x.fc 2), .string (x.nm 3), .int .i64 (x.fc 3), .int .i64 v, .int .i64 u, .bool x.lots, .bool x.serial, .bool x.chk] 68) := ⟨_, rfl⟩
        have HWB0 := Lib.hid hwB
        have hob := H3.out
        rw [← hwB] at hob
        have HOB := Lib.hid hob
        clear hob
        have HXB : Hid (∀ W, Below wB.heap.size wB W → W.heap[w1.heap.size]? = some (.cells #[.string x.code, .string (x.nm 0), .int .i64 (x.fc 0), .string (x.nm 1), .int .i64 (x.fc 1), .string (x.nm 2), .int .i64 (x.fc 2), .string (x.nm 3), .int .i64 (x.fc 3), .int .i64 v, .int .i64 u, .bool x.lots, .bool x.serial, .bool x.chk] 68 (0, 0))) := Lib.hid (fun W hW => (hW.block _ (by rw [HWB0.out]; exact lt_of_block HXN.out)).trans (by rw [HWB0.out]; exact HXN.out))
        have HST : Hid (∀ W, Below wB.heap.size wB W → W.cell? ⟨w.heap.size, 0, none⟩ = some (.slice (h.A 0) m (h.c 0)) ∧ W.rangeAt (w1.heap.size) 0 [.string x.code, .string (x.nm 0), .int .i64 (x.fc 0), .string (x.nm 1), .int .i64 (x.fc 1), .string (x.nm 2), .int .i64 (x.fc 2), .string (x.nm 3), .int .i64 (x.fc 3), .int .i64 v, .int .i64 u, .bool x.lots, .bool x.serial, .bool x.chk]) := Lib.hid (fun W hW => ⟨(HLI.out W (HOB.out.trans (hW.mono HOB.out.size))).1, range_cells (HXB.out W hW)⟩)
        have HWB := Lib.hid hwB
        clear hwB
        go_upto_region 7 with fail
        rw [← HWB.out]
        go_wp2_with fail
        refine lastW_region (S := (fun w' => w'.cell? ⟨w.heap.size, 0, none⟩ = some (.slice (h.A 0) (m) (h.c 0)) ∧ w'.rangeAt (w1.heap.size) 0 [.string x.code, .string (x.nm 0), .int .i64 (x.fc 0), .string (x.nm 1), .int .i64 (x.fc 1), .string (x.nm 2), .int .i64 (x.fc 2), .string (x.nm 3), .int .i64 (x.fc 3), .int .i64 v, .int .i64 u, .bool x.lots, .bool x.serial, .bool x.chk])) (n := 6) (by kernel_rfl) ?_
        have ST5 := HST.out _ (Below.refl wB.heap.size wB).drew
        refine LastW.take (i := 1) (v := .pointer (some ⟨w.heap.size, 0, none⟩)) rfl (by kernel_rfl) (by kernel_rfl) (by kernel_rfl) (by kernel_rfl) (by decide) (fun _ _ _ h => h.elim) (.inl ⟨by kernel_rfl, fun w hw => by clear hw; go_simp⟩) ST5 ?_
        (try simp only [Act.put, List.getElem_toArray, List.getElem_cons_succ, List.getElem_cons_zero, List.setIfInBounds_toArray, List.set_cons_zero, List.set_cons_succ])
        refine LastW.take (i := 2) (v := .slice (h.A 0) (m) (h.c 0)) rfl (by kernel_rfl) (by kernel_rfl) (by kernel_rfl) (by kernel_rfl) (by decide) (fun _ _ _ h => h.elim) (.inl ⟨by kernel_rfl, fun w hw => by have hw := hw.1; go_simp⟩) ST5 ?_
        (try simp only [Act.put, List.getElem_toArray, List.getElem_cons_succ, List.getElem_cons_zero, List.setIfInBounds_toArray, List.set_cons_zero, List.set_cons_succ])
        refine LastW.take (i := 3) (v := .agg #[.string x.code, .string (x.nm 0), .int .i64 (x.fc 0), .string (x.nm 1), .int .i64 (x.fc 1), .string (x.nm 2), .int .i64 (x.fc 2), .string (x.nm 3), .int .i64 (x.fc 3), .int .i64 v, .int .i64 u, .bool x.lots, .bool x.serial, .bool x.chk]) rfl (by kernel_rfl) (by kernel_rfl) (by kernel_rfl) (by kernel_rfl) (by decide) (fun _ _ _ h => h.elim) (yieldsIf_load_mid (by kernel_rfl) 68 (.tmp 10) rfl (w1.heap.size) 0 rfl [.string x.code, .string (x.nm 0), .int .i64 (x.fc 0), .string (x.nm 1), .int .i64 (x.fc 1), .string (x.nm 2), .int .i64 (x.fc 2), .string (x.nm 3), .int .i64 (x.fc 3), .int .i64 v, .int .i64 u, .bool x.lots, .bool x.serial, .bool x.chk] _ (fun w h => h.2) hui rfl HSI.out) ST5 ?_
        (try simp only [Act.put, List.getElem_toArray, List.getElem_cons_succ, List.getElem_cons_zero, List.setIfInBounds_toArray, List.set_cons_zero, List.set_cons_succ])
        refine LastW.one (i := 0) (by kernel_rfl) rfl (fun K hK => ?_)
        go_simp
        refine (tabItemR_any _).mono ?_
        rintro e w7 ⟨rfl, hb7⟩
        have H7 := Lib.hid ((Below.refl wB.heap.size wB).drew.trans (hb7.mono (Below.refl wB.heap.size wB).drew.size))
        clear hb7
        refine hK.out _ _ (fun _ => HST.out _ H7.out) (fun _ => ?_)
        clear hK K
        (try simp only [Act.put, List.getElem_toArray, List.getElem_cons_succ, List.getElem_cons_zero, List.setIfInBounds_toArray, List.set_cons_zero, List.set_cons_succ])
        have H7W := Lib.hid (HOB.out.trans (H7.out.mono HOB.out.size))
        refine LastW.one (i := 4) (by kernel_rfl) rfl (fun K hK => ?_)
        go_simp
        refine (HPU.out _ (HBW.out _ H7W.out).1).mono ?_
        rintro e w8 ⟨A5, n5, p5, hl5, rfl, hown5, hb8⟩
        have H8 := Lib.hid (H7.out.trans (hb8.mono H7.out.size))
        have H8W := Lib.hid (HOB.out.trans (H8.out.mono HOB.out.size))
        have HO5 := Lib.hid hown5
        have HLE := Lib.hid hl5
        clear hb8 hown5 hl5
        refine hK.out _ _ (fun _ => HST.out _ H8.out) (fun _ => ?_)
        clear hK K
        (try simp only [Act.put, List.getElem_toArray, List.getElem_cons_succ, List.getElem_cons_zero, List.setIfInBounds_toArray, List.set_cons_zero, List.set_cons_succ])
        refine LastW.take (i := 5) (v := .pointer (some ⟨w.heap.size, 0, none⟩)) rfl (by kernel_rfl) (by kernel_rfl) (by kernel_rfl) (by kernel_rfl) (by decide) (fun _ _ _ h => h.elim) (.inl ⟨by kernel_rfl, fun w hw => by clear hw; go_simp⟩) (HST.out _ H8.out) ?_
        (try simp only [Act.put, List.getElem_toArray, List.getElem_cons_succ, List.getElem_cons_zero, List.setIfInBounds_toArray, List.set_cons_zero, List.set_cons_succ])
        refine LastW.one (i := 6) (by kernel_rfl) rfl (fun K hK => ?_)
        have c5 := (HLI.out _ H8W.out).1
        have f5 : w8.frozen? ⟨w.heap.size, 0, none⟩ = false := frozen_of_block (HH.out _ H8W.out)
        have HZ5 := Lib.hid (HZ.out _ H8W.out)
        have HH5 := Lib.hid (HH.out _ H8W.out)
        have HB5 := Lib.hid (HBW.out _ H8W.out)
        go_simp
        refine hK.out _ _ (fun h => absurd rfl h) (fun _ => ?_)
        clear hK K
        (try simp only [Act.put, List.getElem_toArray, List.getElem_cons_succ, List.getElem_cons_zero, List.setIfInBounds_toArray, List.set_cons_zero, List.set_cons_succ])
        refine LastW.done (by kernel_rfl) ?_ _
        refine NoPanic.normal ?_
        have H9 : Hid ((w8.setCell ⟨w.heap.size, 0, none⟩ (.slice A5 n5 p5)).heap[w.heap.size]? = some (.cells (h.set 0 A5 n5 p5).cells 37 (0, 0))) := Lib.hid (by rw [block_setCell HH5.out, h.set_cells _ _ _ 0 (by decide)])
        have HZ6 : Hid ((w8.setCell ⟨w.heap.size, 0, none⟩ (.slice A5 n5 p5)).heap[w.heap.size + 1]? = some (.cells Hs.zero 37 (0, 0))) := Lib.hid ((block_setCell_other (by omega) _).trans HZ5.out)
        have HB6 : Hid (Below w.heap.size w (w8.setCell ⟨w.heap.size, 0, none⟩ (.slice A5 n5 p5))) := Lib.hid (HB5.out.1.setCell (Nat.le_refl _) _)
        have HS4 : Hid (w.heap.size + 1 < w7.heap.size) := Lib.hid (by have := (HBW.out _ H7W.out).2; omega)
        have HO6 : Hid ((w8.setCell ⟨w.heap.size, 0, none⟩ (.slice A5 n5 p5)).ownsRow w7.heap.size 68 14 (.slice A5 n5 p5) n5 lx.flatten) := Lib.hid (own_far HO5.out (by have := HS4.out; simp; omega) (Nat.le_refl _))
        generalize w8.setCell ⟨w.heap.size, 0, none⟩ (.slice A5 n5 p5) = w6 at *
        have HPK : Hid (PutK 68 14 0 0 lx h (h.set 0 A5 n5 p5) w7.heap.size w6) := Lib.hid (.inr ⟨rfl, A5, n5, p5, HLE.out, HO6.out, rfl⟩)
        have HT6 := Lib.hid (HTK.out A5 n5 p5 _ w6 HB6.out HPK.out)
        go_wp2_with (first
          | (refine wpList_load_row rfl 37 (.tmp 4) rfl w.heap.size rfl _ _ _ _ H9.out huh rfl (HSH.out _) ?_)
          | fail)
        refine (CO.out (h.set 0 A5 n5 p5) w6 HT6.out).mono ?_
        rintro e w8 ⟨rfl, hb8⟩
        have HZ8 := Lib.hid ((hb8.block _ (lt_of_block HZ6.out)).trans HZ6.out)
        have HN8 := Lib.hid ((hb8.block _ (lt_of_block H9.out)).trans H9.out)
        have HB8 := Lib.hid (HB6.out.trans (hb8.mono HB6.out.size))
        have HO8 := Lib.hid (own_below HO6.out hb8)
        clear hb8
        cases ob with
        | true =>
          have HE : Hid (er = 26) := Lib.hid (by rw [HA.out, HO.out]; rfl)
          go_wp2_with (first
            | (refine wpList_store_row rfl 37 (.tmp 8) (.tmp 43) rfl (w.heap.size + 1) Hs.zero rfl rfl _ _ HZ8.out HSQ.out rfl H1Q.out ?_)
            | fail)
          exact bodyPost_ret (results_row_tmp rfl _ _ (w.heap.size + 1) _ _ _ _ rfl (setRow_heap _ _ _ _ _ _ HZ8.out) huh rfl HSQ.out) rfl ⟨setRow_below HB8.out (by omega) _, .inl ⟨by rw [HE.out]; decide, by rw [HE.out]; rfl⟩⟩
        | false =>
          have HE : Hid (er = 0) := Lib.hid (by rw [HA.out, HO.out]; rfl)
          go_wp2_with (first
            | (refine wpList_load_row rfl 37 (.tmp 4) rfl w.heap.size rfl _ _ _ _ HN8.out huh rfl (HSH.out _) ?_)
            | (refine wpList_store_row rfl 37 (.tmp 8) (.tmp 44) rfl (w.heap.size + 1) (h.set 0 A5 n5 p5).cells rfl rfl _ _ HZ8.out (HSH.out _) rfl (H1C.out _) ?_)
            | fail)
          exact bodyPost_ret (results_row_tmp rfl _ _ (w.heap.size + 1) _ _ _ _ rfl (setRow_heap _ _ _ _ _ _ HZ8.out) huh rfl (HSH.out _)) rfl ⟨setRow_below HB8.out (by omega) _, .inr ⟨HE.out, A5, n5, p5, HLE.out, own_rowed HO8.out HS4.out (by have := HS4.out; omega), rfl⟩⟩

theorem cons : Cons := ⟨cload_any, fun h L s t n w hh _ => cfits_any h L s t n w hh, cover_any, fun h L t v u w hh hn hc _ _ => cresize_any h L t v u w hh hn hc, fun h L s v u w hh hn hc _ _ => climit_any h L s v u w hh hn hc⟩
end Go.Proofs.Ythoblccmdadmmaa
