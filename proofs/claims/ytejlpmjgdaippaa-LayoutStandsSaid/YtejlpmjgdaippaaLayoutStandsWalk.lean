/-
  THE LAW LayoutStands, over the contracts. (By wip/tools/gen_stands10.py.)
-/
import Derived.Test.YtejlpmjgdaippaaYCon
import Derived.Test.YtejlpmjgdaippaaYRow
import Derived.Test.YtejlpmjgdaippaaYFacts
import Derived.Test.YtejlpmjgdaippaaHSmall
import Derived.Test.YtejlpmjgdaippaaHKept
import Derived.Test.YtejlpmjgdaippaaHBoth
import Derived.Test.YtejlpmjgdaippaaHA
namespace Go.Proofs.Ytejlpmjgdaippaa.layoutStands
set_option linter.unusedVariables false
open Go.RowKit
open Pl (firstG findG putG)

set_option maxRecDepth 100000 in
set_option maxHeartbeats 6400000 in
theorem walk0 (C : Cons) (h : Hs) (L : Nat → List (List Value)) (xc xz : ByteArray) (kd ai pl vo we : Int) (fz : Bool) (w : World) (hin : HIn h L w) (hxc : xc.size ≤ maxLen) :
    Calls Try.prog 5 #[.agg h.cells, .agg #[.string xc, .string xz, .int .i64 kd, .int .i64 ai, .int .i64 pl, .int .i64 vo, .int .i64 we, .bool fz]] w fun e w' => e = .returned (.bool true) ∧ Below w.heap.size w w' := by
  have HIN := Lib.hid hin
  have HCO := Lib.hid C
  have HXC := Lib.hid hxc
  have HAW : Hid (∀ W, Calls Try.prog 11 #[] W fun e w' => e = .returned (.bool true) ∧ Below W.heap.size W w') := Lib.hid (fun W => awake_any C W)
  obtain ⟨er, her⟩ : ∃ r : Nat, addBE (L 2) (L 3) (Bn.mk xc xz kd ai pl vo we fz) = r := ⟨_, rfl⟩
  have HER := Lib.hid her
  obtain ⟨W0, hW0⟩ : ∃ W0, W0 = ((w.alloc (.cells h.cells 37)).alloc (.cells #[.string xc, .string xz, .int .i64 kd, .int .i64 ai, .int .i64 pl, .int .i64 vo, .int .i64 we, .bool fz] 41)) := ⟨_, rfl⟩
  have B0 : Hid (Below w.heap.size w W0) := Lib.hid (by rw [hW0]; exact ((Below.refl _ _).alloc (Nat.le_refl _) _).alloc (by simp <;> omega) _)
  have HH0 : Hid (W0.heap[w.heap.size]? = some (.cells h.cells 37 (0, 0))) := Lib.hid (by
    rw [hW0]
    have hq := heap_alloc_new w (.cells h.cells 37)
    exact (Below.heap_alloc _ _ _ (by simp <;> omega)).trans (by simpa using hq))
  have HX0 : Hid (W0.heap[w.heap.size + 1]? = some (.cells #[.string xc, .string xz, .int .i64 kd, .int .i64 ai, .int .i64 pl, .int .i64 vo, .int .i64 we, .bool fz] 41 (0, 0))) := Lib.hid (by
    rw [hW0]
    have hq := heap_alloc_new (w.alloc (.cells h.cells 37)) (.cells #[.string xc, .string xz, .int .i64 kd, .int .i64 ai, .int .i64 pl, .int .i64 vo, .int .i64 we, .bool fz] 41)
    exact by simpa using hq)
  have huh := Try.underlying37
  have HSH : Hid (∀ a : Hs, (Try.prog.info? 37).map (·.size) = some a.cells.size) := Lib.hid (fun a => by kernel_rfl)
  have HSHL : Hid (∀ a : Hs, (Try.prog.info? 37).map (·.size) = some a.cells.toList.length) := Lib.hid (fun a => by kernel_rfl)
  have H1C : Hid (∀ a : Hs, a.cells.all (·.oneCell') = true) := Lib.hid (fun a => by simp [Hs.cells, Value.oneCell'])
  have huZone := Try.underlying39
  have HSZone : Hid ((Try.prog.info? 39).map (·.size) = some 2) := Lib.hid (by kernel_rfl)
  have huBin := Try.underlying41
  have HSBin : Hid ((Try.prog.info? 41).map (·.size) = some 8) := Lib.hid (by kernel_rfl)
  clear hin hxc her
  subst hW0
  go_enter Try.func5, Try.ntmps5
  go_wp2_with (first
    | (refine wpList_load_row rfl 37 (.tmp 2) rfl w.heap.size rfl _ _ _ _ HH0.out huh rfl (HSH.out _) ?_)
    | fail)
  refine (small_calls h _).mono ?_
  rintro e w1 ⟨⟨b, rfl, hb⟩, hb1⟩
  have HH1 := Lib.hid ((hb1.block _ (lt_of_block HH0.out)).trans HH0.out)
  have HX1 := Lib.hid ((hb1.block _ (lt_of_block HX0.out)).trans HX0.out)
  have B1 := Lib.hid (B0.out.trans (hb1.mono B0.out.size))
  clear hb1
  cases b with
  | false =>
    clear hb
    go_wp2_with fail
    refine (HAW.out _).mono ?_
    rintro e w2 ⟨rfl, hb2⟩
    have HB2 := Lib.hid (B1.out.trans (hb2.mono B1.out.size))
    clear hb2
    go_wp2_with fail
    go_ret
    exact ⟨rfl, HB2.out⟩
  | true =>
    have HSM := Lib.hid (hb.1 rfl)
    clear hb
    have HT1 : Hid (HT h L w1) := Lib.hid (HIN.out.ht HSM.out B1.out)
    have HN : Hid (∀ i, i < 14 → h.n i ≤ 1000) := Lib.hid (fun i hi => Nat.le_trans (HSM.out i hi) (cap_le i hi))
    go_wp2_with (first
      | (refine wpList_load_row rfl 37 (.tmp 2) rfl w.heap.size rfl _ _ _ _ HH1.out huh rfl (HSH.out _) ?_)
      | (refine wpList_load_row rfl 41 (.tmp 3) rfl (w.heap.size + 1) rfl _ _ _ _ HX1.out huBin rfl HSBin.out ?_)
      | fail)
    refine (HCO.out.addb h L xc xz kd ai pl vo we fz _ HT1.out (HN.out 3 (by decide)) (HIN.out.c 3 (by decide)) HXC.out).mono ?_
    intro e w2 ha
    obtain ⟨a, rfl, hat, haz, hb2, hac⟩ := PutP.put (i := 3) (by decide) (Bn.fits _) (HN.out 3 (by decide)) HT1.out ha
    rw [HER.out]
    have HH2 := Lib.hid ((hb2.block _ (lt_of_block HH1.out)).trans HH1.out)
    have HX2 := Lib.hid ((hb2.block _ (lt_of_block HX1.out)).trans HX1.out)
    have B2 := Lib.hid (B1.out.trans (hb2.mono B1.out.size))
    have HT2 := Lib.hid (HT1.out.below hb2)
    have HTa2 := Lib.hid hat
    have HZa := Lib.hid (haz)
    have HACa := Lib.hid hac
    clear ha hat haz hb2 hac
    have HQ3 : Hid ((w2.alloc (.cells #[.slice none 0 0, .slice none 0 0, .slice none 0 0, .slice none 0 0, .slice none 0 0, .slice none 0 0, .slice none 0 0, .slice none 0 0, .slice none 0 0, .slice none 0 0, .slice none 0 0, .slice none 0 0, .slice none 0 0, .slice none 0 0, .int .i64 0] 37)).heap[w2.heap.size]? = some (.cells #[.slice none 0 0, .slice none 0 0, .slice none 0 0, .slice none 0 0, .slice none 0 0, .slice none 0 0, .slice none 0 0, .slice none 0 0, .slice none 0 0, .slice none 0 0, .slice none 0 0, .slice none 0 0, .slice none 0 0, .slice none 0 0, .int .i64 0] 37 (0, 0))) := Lib.hid (heap_alloc_new _ _)
    obtain ⟨w3, hw3⟩ : ∃ w', w' = (w2.alloc (.cells #[.slice none 0 0, .slice none 0 0, .slice none 0 0, .slice none 0 0, .slice none 0 0, .slice none 0 0, .slice none 0 0, .slice none 0 0, .slice none 0 0, .slice none 0 0, .slice none 0 0, .slice none 0 0, .slice none 0 0, .slice none 0 0, .int .i64 0] 37)).setRow w2.heap.size a.cells := ⟨_, rfl⟩
    have hb3 : Below w2.heap.size w2 w3 := by rw [hw3]; exact setRow_below ((Below.refl _ _).alloc (Nat.le_refl _) _) (Nat.le_refl _) _
    have HH3 := Lib.hid ((hb3.block _ (lt_of_block HH2.out)).trans HH2.out)
    have HX3 := Lib.hid ((hb3.block _ (lt_of_block HX2.out)).trans HX2.out)
    have B3 := Lib.hid (B2.out.trans (hb3.mono B2.out.size))
    have HT3 := Lib.hid (HT2.out.below hb3)
    have HTa3 := Lib.hid (HTa2.out.below hb3)
    have HG3 : Hid (w3.heap[w2.heap.size]? = some (.cells a.cells 37 (0, 0))) := Lib.hid (by rw [hw3]; exact setRow_heap _ _ _ _ _ _ HQ3.out)
    have HW3 := Lib.hid hw3
    clear hb3 hw3
    rw [HER.out] at HTa3 HZa
    by_cases he0 : er = 0
    · subst he0
      have HTK := Lib.hid (tookB_of HER.out)
      have hfz : fz = false := HTK.out.frz
      subst hfz
      obtain ⟨f1, f2, f3, f4, f5, f6, f7, f8, f9⟩ := stands HER.out
      obtain ⟨La, hLa⟩ : ∃ l, l = (setE 0 L 3 (putG ordBin (L 3) (Bn.mk xc xz kd ai pl vo we false).cells)) := ⟨_, rfl⟩
      have la3 : La 3 = putG ordBin (L 3) (Bn.mk xc xz kd ai pl vo we false).cells := by rw [hLa]; rfl
      have la2 : La 2 = L 2 := by rw [hLa]; rfl
      rw [← hLa] at HTa3
      simp only [] at f1 f2 f3 f4 f5 f6 f7 f8 f9
      rw [← la3] at f1 f2 f3 f4 f5 f6 f7 f8 f9
      obtain ⟨ga, gb, hg, hgb⟩ := zone_two HT3.out xz
      obtain ⟨iz, hiz⟩ : ∃ q, (atZone (L 2) xz).isSome = q := ⟨_, rfl⟩
      have HNA : Hid (a.n 3 = (L 3).length + 1) := Lib.hid (by rw [(HTa3.out 3 (by decide)).1, f3])
      have HNH : Hid (h.n 3 = (L 3).length) := Lib.hid (HIN.out.n 3 (by decide))
      have CAPA : Hid (Caps a) := Lib.hid (HACa.out (fun j hj => HIN.out.c j hj))
      have CFA : Hid (∀ W, HT a La W → Calls Try.prog 19 #[.agg a.cells, .string xc] W fun e w' => e = .returned (.tuple #[.agg #[.string xc, .string xz, .int .i64 kd, .int .i64 ai, .int .i64 pl, .int .i64 vo, .int .i64 we, .bool false], .bool true]) ∧ Below W.heap.size W w') := Lib.hid (fun W hW => by have := HCO.out.find a La xc W hW; rw [f1, f2] at this; exact this)
      have CFZ : Hid (∀ W, HT h L W → Calls Try.prog 25 #[.agg h.cells, .string xz] W fun e w' => e = .returned (.tuple #[.agg #[.string ga, .string gb], .bool iz]) ∧ Below W.heap.size W w') := Lib.hid (fun W hW => by have := frZone hW xz; rw [hg, hiz] at this; exact this)
      have CSI : Hid (∀ W, HT a La W → Calls Try.prog 23 #[.agg a.cells, .string xc] W fun e w' => e = .returned (.string gb) ∧ Below W.heap.size W w') := Lib.hid (fun W hW => by have := HCO.out.site a La xc W hW; rw [la2, f4, hgb] at this; exact this)
      have FA5 : Hid (frE (La 3) xc true = 0) := Lib.hid f5
      have FA6 : Hid ((atBin (frL (La 3) xc true) xc).isSome = true) := Lib.hid f6
      have FA7 : Hid (gotBin (frL (La 3) xc true) xc = (((Bn.mk xc xz kd ai pl vo we false)).set true).cells) := Lib.hid f7
      have FA8 : Hid (frE (frL (La 3) xc true) xc false = 0) := Lib.hid f8
      have FA9 : Hid (frL (frL (La 3) xc true) xc false = La 3) := Lib.hid f9
      have HLA3 := Lib.hid la3
      have HNL : Hid ((L 3).length ≤ 1000) := Lib.hid (by rw [← HNH.out]; exact HN.out 3 (by decide))
      clear f1 f2 f3 f4 f5 f6 f7 f8 f9 la3 la2 hg hgb hiz hLa
      have x0 : w3.cell? ⟨w.heap.size + 1, 0, none⟩ = some (.string xc) := by rw [cell_of_block HX3.out]; rfl
      have x1 : w3.cell? ⟨w.heap.size + 1, 1, none⟩ = some (.string xz) := by rw [cell_of_block HX3.out]; rfl
      have xlt : w.heap.size + 1 < w3.heap.size := lt_of_block HX3.out
      go_wp2_with (first
        | (refine wpList_store_row rfl 37 (.tmp 5) (.tmp 25) rfl w2.heap.size a.cells rfl rfl _ _ HQ3.out (HSH.out _) rfl (H1C.out _) ?_; rw [← HW3.out])
        | (refine wpList_load_row rfl 37 (.tmp 5) rfl w2.heap.size rfl _ _ _ _ HG3.out huh rfl (HSH.out _) ?_)
        | fail)
      refine (CFA.out _ HTa3.out).mono ?_
      rintro e w4 ⟨rfl, hb4⟩
      have HH4 := Lib.hid ((hb4.block _ (lt_of_block HH3.out)).trans HH3.out)
      have HX4 := Lib.hid ((hb4.block _ (lt_of_block HX3.out)).trans HX3.out)
      have HG4 := Lib.hid ((hb4.block _ (lt_of_block HG3.out)).trans HG3.out)
      have B4 := Lib.hid (B3.out.trans (hb4.mono B3.out.size))
      have HT4 := Lib.hid (HT3.out.below hb4)
      have HTa4 := Lib.hid (HTa3.out.below hb4)
      clear hb4
      obtain ⟨w5, hw5⟩ : ∃ w', w' = w4.alloc (.cells #[.string xc, .string xz, .int .i64 kd, .int .i64 ai, .int .i64 pl, .int .i64 vo, .int .i64 we, .bool false] 41) := ⟨_, rfl⟩
      have hb5 : Below w4.heap.size w4 w5 := by rw [hw5]; exact (Below.refl _ _).alloc (Nat.le_refl _) _
      have HH5 := Lib.hid ((hb5.block _ (lt_of_block HH4.out)).trans HH4.out)
      have HX5 := Lib.hid ((hb5.block _ (lt_of_block HX4.out)).trans HX4.out)
      have HG5 := Lib.hid ((hb5.block _ (lt_of_block HG4.out)).trans HG4.out)
      have B5 := Lib.hid (B4.out.trans (hb5.mono B4.out.size))
      have HT5 := Lib.hid (HT4.out.below hb5)
      have HTa5 := Lib.hid (HTa4.out.below hb5)
      have HF5 : Hid (w5.heap[w4.heap.size]? = some (.cells #[.string xc, .string xz, .int .i64 kd, .int .i64 ai, .int .i64 pl, .int .i64 vo, .int .i64 we, .bool false] 41 (0, 0))) := Lib.hid (by rw [hw5]; exact heap_alloc_new _ _)
      have HW5 := Lib.hid hw5
      clear hb5 hw5
      clear x0 x1 xlt
      go_upto_region 7 with fail
      rw [← HW5.out]
      have x0 : w5.cell? ⟨w.heap.size + 1, 0, none⟩ = some (.string xc) := by rw [cell_of_block HX5.out]; rfl
      have x1 : w5.cell? ⟨w.heap.size + 1, 1, none⟩ = some (.string xz) := by rw [cell_of_block HX5.out]; rfl
      have xlt : w.heap.size + 1 < w5.heap.size := lt_of_block HX5.out
      go_wp2_with (first
        | (refine wpList_load_row rfl 37 (.tmp 2) rfl w.heap.size rfl _ _ _ _ HH5.out huh rfl (HSH.out _) ?_)
        | fail)
      refine (CFZ.out _ HT5.out).mono ?_
      rintro e w6 ⟨rfl, hb6⟩
      have HH6 := Lib.hid ((hb6.block _ (lt_of_block HH5.out)).trans HH5.out)
      have HX6 := Lib.hid ((hb6.block _ (lt_of_block HX5.out)).trans HX5.out)
      have HG6 := Lib.hid ((hb6.block _ (lt_of_block HG5.out)).trans HG5.out)
      have HF6 := Lib.hid ((hb6.block _ (lt_of_block HF5.out)).trans HF5.out)
      have B6 := Lib.hid (B5.out.trans (hb6.mono B5.out.size))
      have HT6 := Lib.hid (HT5.out.below hb6)
      have HTa6 := Lib.hid (HTa5.out.below hb6)
      clear hb6
      obtain ⟨w7, hw7⟩ : ∃ w', w' = w6.alloc (.cells #[.string ga, .string gb] 39) := ⟨_, rfl⟩
      have hb7 : Below w6.heap.size w6 w7 := by rw [hw7]; exact (Below.refl _ _).alloc (Nat.le_refl _) _
      have HH7 := Lib.hid ((hb7.block _ (lt_of_block HH6.out)).trans HH6.out)
      have HX7 := Lib.hid ((hb7.block _ (lt_of_block HX6.out)).trans HX6.out)
      have HG7 := Lib.hid ((hb7.block _ (lt_of_block HG6.out)).trans HG6.out)
      have HF7 := Lib.hid ((hb7.block _ (lt_of_block HF6.out)).trans HF6.out)
      have B7 := Lib.hid (B6.out.trans (hb7.mono B6.out.size))
      have HT7 := Lib.hid (HT6.out.below hb7)
      have HTa7 := Lib.hid (HTa6.out.below hb7)
      have HZN7 : Hid (w7.heap[w6.heap.size]? = some (.cells #[.string ga, .string gb] 39 (0, 0))) := Lib.hid (by rw [hw7]; exact heap_alloc_new _ _)
      have HW7 := Lib.hid hw7
      clear hb7 hw7
      clear x0 x1 xlt
      go_upto_region 8 with fail
      rw [← HW7.out]
      have RHH : Hid (∀ X : BW w7, X.W.heap[w.heap.size]? = some (.cells h.cells 37 (0, 0))) := Lib.hid (fun X => (X.h.block _ (lt_of_block HH7.out)).trans HH7.out)
      have RHX : Hid (∀ X : BW w7, X.W.heap[w.heap.size + 1]? = some (.cells #[.string xc, .string xz, .int .i64 kd, .int .i64 ai, .int .i64 pl, .int .i64 vo, .int .i64 we, .bool false] 41 (0, 0))) := Lib.hid (fun X => (X.h.block _ (lt_of_block HX7.out)).trans HX7.out)
      have RHG : Hid (∀ X : BW w7, X.W.heap[w2.heap.size]? = some (.cells a.cells 37 (0, 0))) := Lib.hid (fun X => (X.h.block _ (lt_of_block HG7.out)).trans HG7.out)
      have RHF : Hid (∀ X : BW w7, X.W.heap[w4.heap.size]? = some (.cells #[.string xc, .string xz, .int .i64 kd, .int .i64 ai, .int .i64 pl, .int .i64 vo, .int .i64 we, .bool false] 41 (0, 0))) := Lib.hid (fun X => (X.h.block _ (lt_of_block HF7.out)).trans HF7.out)
      have RHZN : Hid (∀ X : BW w7, X.W.heap[w6.heap.size]? = some (.cells #[.string ga, .string gb] 39 (0, 0))) := Lib.hid (fun X => (X.h.block _ (lt_of_block HZN7.out)).trans HZN7.out)
      have heq : ∀ W, (binOp .neq 41 (.agg #[.string xc, .string xz, .int .i64 kd, .int .i64 ai, .int .i64 pl, .int .i64 vo, .int .i64 we, .bool false]) (.agg #[.string xc, .string xz, .int .i64 kd, .int .i64 ai, .int .i64 pl, .int .i64 vo, .int .i64 we, .bool false])).run Try.prog W = .ok (.bool false) W := fun W => by
        obtain ⟨b, h1, h2⟩ := neq_struct (P := Try.prog) eqBin (by decide) (Bn.mk xc xz kd ai pl vo we false).cells (Bn.mk xc xz kd ai pl vo we false).cells W (Bn.fits _) (Bn.fits _)
        have hb : b = false := h2.2 rfl
        subst hb
        exact h1
      have x0 : ∀ X : BW w7, X.W.cell? ⟨w.heap.size + 1, 0, none⟩ = some (.string xc) := fun X => by rw [cell_of_block (RHX.out X)]; rfl
      have x1 : ∀ X : BW w7, X.W.cell? ⟨w6.heap.size, 1, none⟩ = some (.string gb) := fun X => by rw [cell_of_block (RHZN.out X)]; rfl
      obtain ⟨n3, hn3⟩ : ∃ n, (L 3).length = n := ⟨_, rfl⟩
      have HN3 := Lib.hid hn3
      have x2 : ∀ X : BW w7, X.W.cell? ⟨w2.heap.size, 3, none⟩ = some (.slice (a.A 3) (n3 + 1) (a.c 3)) := fun X => by rw [cell_of_block (RHG.out X), ← hn3, ← HNA.out]; rfl
      have x3 : ∀ X : BW w7, X.W.cell? ⟨w.heap.size, 3, none⟩ = some (.slice (h.A 3) n3 (h.c 3)) := fun X => by rw [cell_of_block (RHH.out X), ← hn3, ← HNH.out]; rfl
      have hn6 : n3 ≤ 1000 := by rw [← hn3]; exact HNL.out
      have SI : Hid (∀ X : BW w7, Calls Try.prog 23 #[.agg a.cells, .string xc] X.W fun e w' => e = .returned (.string gb) ∧ Below X.W.heap.size X.W w') := Lib.hid (fun X => CSI.out X.W (HTa7.out.below X.h))
      clear hn3
      refine wp_grow w7 (by kernel_rfl) (by kernel_rfl) (Below.refl _ _) ?_
      simp only []
      iterate 3 go_big_quiet_step (fail)
      refine BigFrame.wpQuiet_want (by kernel_rfl) (fun K hK => quiet_load_mid 41 (.tmp 7) rfl w4.heap.size 0 rfl [.string xc, .string xz, .int .i64 kd, .int .i64 ai, .int .i64 pl, .int .i64 vo, .int .i64 we, .bool false] _ (fun W ⟨X, hX⟩ => by rw [hX]; exact range_row0 (RHF.out X)) huBin rfl HSBin.out (hK _ ?_))
      simp only [Act.put, List.setIfInBounds_toArray, List.set_cons_zero, List.set_cons_succ]
      refine BigFrame.wpQuiet_want (by kernel_rfl) (fun K hK => quiet_load_mid 41 (.tmp 3) rfl (w.heap.size + 1) 0 rfl [.string xc, .string xz, .int .i64 kd, .int .i64 ai, .int .i64 pl, .int .i64 vo, .int .i64 we, .bool false] _ (fun W ⟨X, hX⟩ => by rw [hX]; exact range_row0 (RHX.out X)) huBin rfl HSBin.out (hK _ ?_))
      simp only [Act.put, List.setIfInBounds_toArray, List.set_cons_zero, List.set_cons_succ]
      iterate 3 go_big_quiet_step (fail)
      refine BigFrame.wpQuiet_want (by kernel_rfl) (fun K hK => quiet_load_mid 37 (.tmp 5) rfl w2.heap.size 0 rfl a.cells.toList _ (fun W ⟨X, hX⟩ => by rw [hX]; exact range_row0 (RHG.out X)) huh rfl (HSHL.out _) (hK _ ?_))
      simp only [Act.put, List.setIfInBounds_toArray, List.set_cons_zero, List.set_cons_succ, Array.toArray_toList]
      iterate 2 go_big_quiet_step (fail)
      go_big_quiet_step (exact grow_call _ (SI.out _))
      iterate 14 go_big_quiet_step (fail)
      refine wpQuiet_nil ?_
      intro X
      obtain ⟨w8, hb8⟩ := X
      simp only []
      have HH8 := Lib.hid ((hb8.block _ (lt_of_block HH7.out)).trans HH7.out)
      have HX8 := Lib.hid ((hb8.block _ (lt_of_block HX7.out)).trans HX7.out)
      have HG8 := Lib.hid ((hb8.block _ (lt_of_block HG7.out)).trans HG7.out)
      have HF8 := Lib.hid ((hb8.block _ (lt_of_block HF7.out)).trans HF7.out)
      have HZN8 := Lib.hid ((hb8.block _ (lt_of_block HZN7.out)).trans HZN7.out)
      have B8 := Lib.hid (B7.out.trans (hb8.mono B7.out.size))
      have HT8 := Lib.hid (HT7.out.below hb8)
      have HTa8 := Lib.hid (HTa7.out.below hb8)
      clear hb8
      clear x0 x1 x2 x3 heq hn6
      have x0 : w8.cell? ⟨w.heap.size + 1, 0, none⟩ = some (.string xc) := by rw [cell_of_block HX8.out]; rfl
      have x1 : w8.cell? ⟨w.heap.size + 1, 1, none⟩ = some (.string xz) := by rw [cell_of_block HX8.out]; rfl
      have xlt : w.heap.size + 1 < w8.heap.size := lt_of_block HX8.out
      go_wp2_with (first
        | (refine wpList_load_row rfl 37 (.tmp 5) rfl w2.heap.size rfl _ _ _ _ HG8.out huh rfl (HSH.out _) ?_)
        | fail)
      have HNA2 : Hid (a.n 3 ≤ 1000) := Lib.hid (by rw [HNA.out]; have : (L 3).length < 64 := HTK.out.len; omega)
      refine (HCO.out.freeze a La xc true _ HTa8.out HNA2.out (CAPA.out 3 (by decide))).mono ?_
      intro e w9 ha
      obtain ⟨b, rfl, hat, haz, hb9, hac⟩ := PutP.put (i := 3) (by decide) (Bn.fits _) (HNA2.out) HTa8.out ha
      rw [FA5.out]
      have HH9 := Lib.hid ((hb9.block _ (lt_of_block HH8.out)).trans HH8.out)
      have HX9 := Lib.hid ((hb9.block _ (lt_of_block HX8.out)).trans HX8.out)
      have HG9 := Lib.hid ((hb9.block _ (lt_of_block HG8.out)).trans HG8.out)
      have HF9 := Lib.hid ((hb9.block _ (lt_of_block HF8.out)).trans HF8.out)
      have HZN9 := Lib.hid ((hb9.block _ (lt_of_block HZN8.out)).trans HZN8.out)
      have B9 := Lib.hid (B8.out.trans (hb9.mono B8.out.size))
      have HT9 := Lib.hid (HT8.out.below hb9)
      have HTa9 := Lib.hid (HTa8.out.below hb9)
      have HTb9 := Lib.hid hat
      have HZb := Lib.hid (haz)
      have HACb := Lib.hid hac
      clear ha hat haz hb9 hac
      have HQ10 : Hid ((w9.alloc (.cells #[.slice none 0 0, .slice none 0 0, .slice none 0 0, .slice none 0 0, .slice none 0 0, .slice none 0 0, .slice none 0 0, .slice none 0 0, .slice none 0 0, .slice none 0 0, .slice none 0 0, .slice none 0 0, .slice none 0 0, .slice none 0 0, .int .i64 0] 37)).heap[w9.heap.size]? = some (.cells #[.slice none 0 0, .slice none 0 0, .slice none 0 0, .slice none 0 0, .slice none 0 0, .slice none 0 0, .slice none 0 0, .slice none 0 0, .slice none 0 0, .slice none 0 0, .slice none 0 0, .slice none 0 0, .slice none 0 0, .slice none 0 0, .int .i64 0] 37 (0, 0))) := Lib.hid (heap_alloc_new _ _)
      obtain ⟨w10, hw10⟩ : ∃ w', w' = (w9.alloc (.cells #[.slice none 0 0, .slice none 0 0, .slice none 0 0, .slice none 0 0, .slice none 0 0, .slice none 0 0, .slice none 0 0, .slice none 0 0, .slice none 0 0, .slice none 0 0, .slice none 0 0, .slice none 0 0, .slice none 0 0, .slice none 0 0, .int .i64 0] 37)).setRow w9.heap.size b.cells := ⟨_, rfl⟩
      have hb10 : Below w9.heap.size w9 w10 := by rw [hw10]; exact setRow_below ((Below.refl _ _).alloc (Nat.le_refl _) _) (Nat.le_refl _) _
      have HH10 := Lib.hid ((hb10.block _ (lt_of_block HH9.out)).trans HH9.out)
      have HX10 := Lib.hid ((hb10.block _ (lt_of_block HX9.out)).trans HX9.out)
      have HG10 := Lib.hid ((hb10.block _ (lt_of_block HG9.out)).trans HG9.out)
      have HF10 := Lib.hid ((hb10.block _ (lt_of_block HF9.out)).trans HF9.out)
      have HZN10 := Lib.hid ((hb10.block _ (lt_of_block HZN9.out)).trans HZN9.out)
      have B10 := Lib.hid (B9.out.trans (hb10.mono B9.out.size))
      have HT10 := Lib.hid (HT9.out.below hb10)
      have HTa10 := Lib.hid (HTa9.out.below hb10)
      have HTb10 := Lib.hid (HTb9.out.below hb10)
      have HK10 : Hid (w10.heap[w9.heap.size]? = some (.cells b.cells 37 (0, 0))) := Lib.hid (by rw [hw10]; exact setRow_heap _ _ _ _ _ _ HQ10.out)
      have HW10 := Lib.hid hw10
      clear hb10 hw10
      clear x0 x1 xlt
      rw [FA5.out] at HTb10 HZb
      obtain ⟨Lk, hLk⟩ : ∃ l, l = setE 0 La 3 (frL (La 3) xc true) := ⟨_, rfl⟩
      have lk3 : Lk 3 = frL (La 3) xc true := by rw [hLk]; rfl
      have hHT : HT b Lk w10 := by rw [hLk]; exact HTb10.out
      have HTb10 := Lib.hid hHT
      have HLK := Lib.hid hLk
      have HLK3 := Lib.hid lk3
      have CFK : Hid (∀ W, HT b Lk W → Calls Try.prog 19 #[.agg b.cells, .string xc] W fun e w' => e = .returned (.tuple #[.agg #[.string xc, .string xz, .int .i64 kd, .int .i64 ai, .int .i64 pl, .int .i64 vo, .int .i64 we, .bool true], .bool true]) ∧ Below W.heap.size W w') := Lib.hid (fun W hW => by have := HCO.out.find b Lk xc W hW; rw [lk3, FA6.out, FA7.out] at this; exact this)
      have CAPB : Hid (Caps b) := Lib.hid (HACb.out CAPA.out)
      have HNB : Hid (b.n 3 ≤ 1000) := Lib.hid (by rw [(hHT 3 (by decide)).1, lk3]; unfold frL; rw [Pl.putG_len, ← (HTa10.out 3 (by decide)).1, HNA.out]; have : (L 3).length < 64 := HTK.out.len; split <;> omega)
      have HE8 : Hid (((frE (Lk 3) xc false : Nat) : Int) = 0) := Lib.hid (by rw [lk3, FA8.out]; rfl)
      clear hLk lk3 hHT
      have x0 : w10.cell? ⟨w.heap.size + 1, 0, none⟩ = some (.string xc) := by rw [cell_of_block HX10.out]; rfl
      have x1 : w10.cell? ⟨w.heap.size + 1, 1, none⟩ = some (.string xz) := by rw [cell_of_block HX10.out]; rfl
      have xlt : w.heap.size + 1 < w10.heap.size := lt_of_block HX10.out
      go_wp2_with (first
        | (refine wpList_store_row rfl 37 (.tmp 11) (.tmp 81) rfl w9.heap.size b.cells rfl rfl _ _ HQ10.out (HSH.out _) rfl (H1C.out _) ?_; rw [← HW10.out])
        | (refine wpList_load_row rfl 37 (.tmp 11) rfl w9.heap.size rfl _ _ _ _ HK10.out huh rfl (HSH.out _) ?_)
        | fail)
      refine (CFK.out _ HTb10.out).mono ?_
      rintro e w11 ⟨rfl, hb11⟩
      have HH11 := Lib.hid ((hb11.block _ (lt_of_block HH10.out)).trans HH10.out)
      have HX11 := Lib.hid ((hb11.block _ (lt_of_block HX10.out)).trans HX10.out)
      have HG11 := Lib.hid ((hb11.block _ (lt_of_block HG10.out)).trans HG10.out)
      have HF11 := Lib.hid ((hb11.block _ (lt_of_block HF10.out)).trans HF10.out)
      have HZN11 := Lib.hid ((hb11.block _ (lt_of_block HZN10.out)).trans HZN10.out)
      have HK11 := Lib.hid ((hb11.block _ (lt_of_block HK10.out)).trans HK10.out)
      have B11 := Lib.hid (B10.out.trans (hb11.mono B10.out.size))
      have HT11 := Lib.hid (HT10.out.below hb11)
      have HTa11 := Lib.hid (HTa10.out.below hb11)
      have HTb11 := Lib.hid (HTb10.out.below hb11)
      clear hb11
      obtain ⟨w12, hw12⟩ : ∃ w', w' = w11.alloc (.cells #[.string xc, .string xz, .int .i64 kd, .int .i64 ai, .int .i64 pl, .int .i64 vo, .int .i64 we, .bool true] 41) := ⟨_, rfl⟩
      have hb12 : Below w11.heap.size w11 w12 := by rw [hw12]; exact (Below.refl _ _).alloc (Nat.le_refl _) _
      have HH12 := Lib.hid ((hb12.block _ (lt_of_block HH11.out)).trans HH11.out)
      have HX12 := Lib.hid ((hb12.block _ (lt_of_block HX11.out)).trans HX11.out)
      have HG12 := Lib.hid ((hb12.block _ (lt_of_block HG11.out)).trans HG11.out)
      have HF12 := Lib.hid ((hb12.block _ (lt_of_block HF11.out)).trans HF11.out)
      have HZN12 := Lib.hid ((hb12.block _ (lt_of_block HZN11.out)).trans HZN11.out)
      have HK12 := Lib.hid ((hb12.block _ (lt_of_block HK11.out)).trans HK11.out)
      have B12 := Lib.hid (B11.out.trans (hb12.mono B11.out.size))
      have HT12 := Lib.hid (HT11.out.below hb12)
      have HTa12 := Lib.hid (HTa11.out.below hb12)
      have HTb12 := Lib.hid (HTb11.out.below hb12)
      have HY12 : Hid (w12.heap[w11.heap.size]? = some (.cells #[.string xc, .string xz, .int .i64 kd, .int .i64 ai, .int .i64 pl, .int .i64 vo, .int .i64 we, .bool true] 41 (0, 0))) := Lib.hid (by rw [hw12]; exact heap_alloc_new _ _)
      have HW12 := Lib.hid hw12
      clear hb12 hw12
      clear x0 x1 xlt
      go_upto_region 12 with fail
      rw [← HW12.out]
      have x0 : w12.cell? ⟨w.heap.size + 1, 0, none⟩ = some (.string xc) := by rw [cell_of_block HX12.out]; rfl
      have x1 : w12.cell? ⟨w.heap.size + 1, 1, none⟩ = some (.string xz) := by rw [cell_of_block HX12.out]; rfl
      have xlt : w.heap.size + 1 < w12.heap.size := lt_of_block HX12.out
      go_wp2_with (first
        | (refine wpList_load_row rfl 37 (.tmp 11) rfl w9.heap.size rfl _ _ _ _ HK12.out huh rfl (HSH.out _) ?_)
        | fail)
      refine (HCO.out.freeze b Lk xc false _ HTb12.out HNB.out (CAPB.out 3 (by decide))).mono ?_
      intro e w13 ha
      obtain ⟨c, rfl, hat, haz, hb13, hac⟩ := PutP.put (i := 3) (by decide) (Bn.fits _) (HNB.out) HTb12.out ha
      rw [HE8.out]
      have HH13 := Lib.hid ((hb13.block _ (lt_of_block HH12.out)).trans HH12.out)
      have HX13 := Lib.hid ((hb13.block _ (lt_of_block HX12.out)).trans HX12.out)
      have HG13 := Lib.hid ((hb13.block _ (lt_of_block HG12.out)).trans HG12.out)
      have HF13 := Lib.hid ((hb13.block _ (lt_of_block HF12.out)).trans HF12.out)
      have HZN13 := Lib.hid ((hb13.block _ (lt_of_block HZN12.out)).trans HZN12.out)
      have HK13 := Lib.hid ((hb13.block _ (lt_of_block HK12.out)).trans HK12.out)
      have HY13 := Lib.hid ((hb13.block _ (lt_of_block HY12.out)).trans HY12.out)
      have B13 := Lib.hid (B12.out.trans (hb13.mono B12.out.size))
      have HT13 := Lib.hid (HT12.out.below hb13)
      have HTa13 := Lib.hid (HTa12.out.below hb13)
      have HTb13 := Lib.hid (HTb12.out.below hb13)
      have HTc13 := Lib.hid hat
      have HZc := Lib.hid (haz)
      have HACc := Lib.hid hac
      clear ha hat haz hb13 hac
      have HQ14 : Hid ((w13.alloc (.cells #[.slice none 0 0, .slice none 0 0, .slice none 0 0, .slice none 0 0, .slice none 0 0, .slice none 0 0, .slice none 0 0, .slice none 0 0, .slice none 0 0, .slice none 0 0, .slice none 0 0, .slice none 0 0, .slice none 0 0, .slice none 0 0, .int .i64 0] 37)).heap[w13.heap.size]? = some (.cells #[.slice none 0 0, .slice none 0 0, .slice none 0 0, .slice none 0 0, .slice none 0 0, .slice none 0 0, .slice none 0 0, .slice none 0 0, .slice none 0 0, .slice none 0 0, .slice none 0 0, .slice none 0 0, .slice none 0 0, .slice none 0 0, .int .i64 0] 37 (0, 0))) := Lib.hid (heap_alloc_new _ _)
      obtain ⟨w14, hw14⟩ : ∃ w', w' = (w13.alloc (.cells #[.slice none 0 0, .slice none 0 0, .slice none 0 0, .slice none 0 0, .slice none 0 0, .slice none 0 0, .slice none 0 0, .slice none 0 0, .slice none 0 0, .slice none 0 0, .slice none 0 0, .slice none 0 0, .slice none 0 0, .slice none 0 0, .int .i64 0] 37)).setRow w13.heap.size c.cells := ⟨_, rfl⟩
      have hb14 : Below w13.heap.size w13 w14 := by rw [hw14]; exact setRow_below ((Below.refl _ _).alloc (Nat.le_refl _) _) (Nat.le_refl _) _
      have HH14 := Lib.hid ((hb14.block _ (lt_of_block HH13.out)).trans HH13.out)
      have HX14 := Lib.hid ((hb14.block _ (lt_of_block HX13.out)).trans HX13.out)
      have HG14 := Lib.hid ((hb14.block _ (lt_of_block HG13.out)).trans HG13.out)
      have HF14 := Lib.hid ((hb14.block _ (lt_of_block HF13.out)).trans HF13.out)
      have HZN14 := Lib.hid ((hb14.block _ (lt_of_block HZN13.out)).trans HZN13.out)
      have HK14 := Lib.hid ((hb14.block _ (lt_of_block HK13.out)).trans HK13.out)
      have HY14 := Lib.hid ((hb14.block _ (lt_of_block HY13.out)).trans HY13.out)
      have B14 := Lib.hid (B13.out.trans (hb14.mono B13.out.size))
      have HT14 := Lib.hid (HT13.out.below hb14)
      have HTa14 := Lib.hid (HTa13.out.below hb14)
      have HTb14 := Lib.hid (HTb13.out.below hb14)
      have HTc14 := Lib.hid (HTc13.out.below hb14)
      have HL14 : Hid (w14.heap[w13.heap.size]? = some (.cells c.cells 37 (0, 0))) := Lib.hid (by rw [hw14]; exact setRow_heap _ _ _ _ _ _ HQ14.out)
      have HW14 := Lib.hid hw14
      clear hb14 hw14
      clear x0 x1 xlt
      have HTc14 : Hid (HT c La w14) := Lib.hid (HT.congr HTc14.out (fun i hi => by
        have e8 : frE (Lk 3) xc false = 0 := by have := HE8.out; omega
        by_cases h3 : i = 3
        · subst h3; rw [setE_at e8]; exact (by rw [HLK3.out]; exact FA9.out)
        · rw [setE_off e8 _ h3, HLK.out]; exact setE_off rfl _ h3 _))
      have HZC : Hid (c.z = a.z) := Lib.hid (by
        have e8 : frE (Lk 3) xc false = 0 := by have := HE8.out; omega
        rw [HZc.out, e8]; exact HZb.out)
      have y7 : w14.cell? ⟨w11.heap.size, 7, none⟩ = some (.bool true) := by rw [cell_of_block HY14.out]; rfl
      have ylt : w11.heap.size < w14.heap.size := lt_of_block HY14.out
      go_wp2_with (first
        | (refine wpList_store_row rfl 37 (.tmp 15) (.tmp 95) rfl w13.heap.size c.cells rfl rfl _ _ HQ14.out (HSH.out _) rfl (H1C.out _) ?_; rw [← HW14.out])
        | (refine BigFrame.wpList_want (by kernel_rfl) (fun K hK => Go.wp_load_mid 37 (.tmp 15) rfl w13.heap.size 0 rfl c.cells.toList _ (range_row0 HL14.out) huh rfl (HSHL.out _) (hK _ _ ?_)); clear hK K)
        | (refine BigFrame.wpList_want (by kernel_rfl) (fun K hK => Go.wp_load_mid 37 (.tmp 5) rfl w2.heap.size 0 rfl a.cells.toList _ (range_row0 HG14.out) huh rfl (HSHL.out _) (hK _ _ ?_)); clear hK K)
        | fail)
      refine (same_true HTc14.out HTa14.out HZC.out).mono ?_
      rintro e w15 ⟨rfl, hb15⟩
      have HH15 := Lib.hid ((hb15.block _ (lt_of_block HH14.out)).trans HH14.out)
      have HX15 := Lib.hid ((hb15.block _ (lt_of_block HX14.out)).trans HX14.out)
      have HG15 := Lib.hid ((hb15.block _ (lt_of_block HG14.out)).trans HG14.out)
      have HF15 := Lib.hid ((hb15.block _ (lt_of_block HF14.out)).trans HF14.out)
      have HZN15 := Lib.hid ((hb15.block _ (lt_of_block HZN14.out)).trans HZN14.out)
      have HK15 := Lib.hid ((hb15.block _ (lt_of_block HK14.out)).trans HK14.out)
      have HY15 := Lib.hid ((hb15.block _ (lt_of_block HY14.out)).trans HY14.out)
      have HL15 := Lib.hid ((hb15.block _ (lt_of_block HL14.out)).trans HL14.out)
      have B15 := Lib.hid (B14.out.trans (hb15.mono B14.out.size))
      have HT15 := Lib.hid (HT14.out.below hb15)
      have HTa15 := Lib.hid (HTa14.out.below hb15)
      have HTb15 := Lib.hid (HTb14.out.below hb15)
      have HTc15 := Lib.hid (HTc14.out.below hb15)
      clear hb15
      clear y7 ylt
      go_wp2_with fail
      refine (HAW.out _).mono ?_
      rintro e w16 ⟨rfl, hb16⟩
      have HH16 := Lib.hid ((hb16.block _ (lt_of_block HH15.out)).trans HH15.out)
      have HX16 := Lib.hid ((hb16.block _ (lt_of_block HX15.out)).trans HX15.out)
      have HG16 := Lib.hid ((hb16.block _ (lt_of_block HG15.out)).trans HG15.out)
      have HF16 := Lib.hid ((hb16.block _ (lt_of_block HF15.out)).trans HF15.out)
      have HZN16 := Lib.hid ((hb16.block _ (lt_of_block HZN15.out)).trans HZN15.out)
      have HK16 := Lib.hid ((hb16.block _ (lt_of_block HK15.out)).trans HK15.out)
      have HY16 := Lib.hid ((hb16.block _ (lt_of_block HY15.out)).trans HY15.out)
      have HL16 := Lib.hid ((hb16.block _ (lt_of_block HL15.out)).trans HL15.out)
      have B16 := Lib.hid (B15.out.trans (hb16.mono B15.out.size))
      have HT16 := Lib.hid (HT15.out.below hb16)
      have HTa16 := Lib.hid (HTa15.out.below hb16)
      have HTb16 := Lib.hid (HTb15.out.below hb16)
      have HTc16 := Lib.hid (HTc15.out.below hb16)
      clear hb16
      go_wp2_with fail
      go_ret
      exact ⟨rfl, B16.out⟩
    · have hk0 : ((er : Int) != 0) = true := by simpa using he0
      have HBAD : Hid (a.n 3 = 0) := Lib.hid (by rw [(HTa3.out 3 (by decide)).1, setE_bad he0]; rfl)
      have g3 : w3.cell? ⟨w2.heap.size, 3, none⟩ = some (.slice (a.A 3) 0 (a.c 3)) := by rw [cell_of_block HG3.out, ← HBAD.out]; rfl
      have glt : w2.heap.size < w3.heap.size := lt_of_block HG3.out
      clear he0
      go_wp2_with (first
        | (refine wpList_store_row rfl 37 (.tmp 5) (.tmp 25) rfl w2.heap.size a.cells rfl rfl _ _ HQ3.out (HSH.out _) rfl (H1C.out _) ?_; rw [← HW3.out])
        | fail)
      refine (HAW.out _).mono ?_
      rintro e w4 ⟨rfl, hb4⟩
      have HH4 := Lib.hid ((hb4.block _ (lt_of_block HH3.out)).trans HH3.out)
      have HX4 := Lib.hid ((hb4.block _ (lt_of_block HX3.out)).trans HX3.out)
      have HG4 := Lib.hid ((hb4.block _ (lt_of_block HG3.out)).trans HG3.out)
      have B4 := Lib.hid (B3.out.trans (hb4.mono B3.out.size))
      have HT4 := Lib.hid (HT3.out.below hb4)
      have HTa4 := Lib.hid (HTa3.out.below hb4)
      clear hb4
      clear g3 glt
      go_wp2_with fail
      go_ret
      exact ⟨rfl, B4.out⟩
theorem walk (C : Cons) (h : Hs) (L : Nat → List (List Value)) (cb : List Value) (w : World) (hin : HIn h L w) (fb : Fits kBin cb) (mb : ∀ u ∈ cb, Mild u) :
    Calls Try.prog 5 #[.agg h.cells, .agg cb.toArray] w fun e w' => e = .returned (.bool true) ∧ Below w.heap.size w w' := by
  have eb := bn_cells fb
  rw [eb] at mb
  have m3 : (bnOf cb).code.size ≤ maxLen := mb (.string (bnOf cb).code) (by simp [Bn.cells])
  rw [show cb.toArray = (bnOf cb).cells.toArray from congrArg List.toArray eb]
  exact walk0 C h L _ _ _ _ _ _ _ _ w hin m3
end Go.Proofs.Ytejlpmjgdaippaa.layoutStands
