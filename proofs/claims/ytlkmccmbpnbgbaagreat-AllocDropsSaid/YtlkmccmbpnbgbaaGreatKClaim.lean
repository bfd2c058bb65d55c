/-
 CONTRACTS of the code's order of claims, of their table. (By wip/tools/gen_acode.py.)
 CONTRACT of the code's withClaim. (By wip/tools/gen_acode.py.)
 CONTRACT of the code's Claim. (By wip/tools/gen_acode.py.)
 (By wip/tools/merge.py.)
-/
import Derived.Test.YtlkmccmbpnbgbaaGreatAFacts
import Derived.Test.YtlkmccmbpnbgbaaGreatKQOrd
import Derived.Test.YtlkmccmbpnbgbaaGreatGT
import Derived.Test.YtlkmccmbpnbgbaaGreatJHead
import Derived.Deep.RegionHeld3
import Derived.Test.YtlkmccmbpnbgbaaGreatKD
import Derived.Test.YtlkmccmbpnbgbaaGreatKP
import Derived.Deep.CutRange
import Derived.BigQuiet
import Derived.Test.YtlkmccmbpnbgbaaGreatHLastN
namespace Go.Proofs.YtlkmccmbpnbgbaaGreat
set_option linter.unusedVariables false
open Go.RowKit
open Pl (firstG firstG_none firstG_some findG overG putG dropG It)

theorem i64_wrap (n : Int) : IntKind.i64.wrap n = wrap64 n := by first | rfl | (rw [IntKind.wrap_i64]; unfold wrap64; omega)
theorem ordCl_or (a b : Cl) : ordCl a b = firstNZ [Pl.cmp a.ord b.ord, cmpI a.line b.line, Pl.cmp a.bin b.bin, Pl.cmp a.item b.item, Pl.cmp a.lot b.lot, cmpI a.st b.st, cmpI a.task b.task] := by
 unfold ordCl
 rw [ordKy_or]
 unfold Cl.ky
 simp only [firstNZ]
 by_cases h1 : Pl.cmp a.ord b.ord = 0
 · by_cases h2 : cmpI a.line b.line = 0
   · by_cases h3 : Pl.cmp a.bin b.bin = 0
     · by_cases h4 : Pl.cmp a.item b.item = 0
       · by_cases h5 : Pl.cmp a.lot b.lot = 0
         · by_cases h6 : cmpI a.st b.st = 0
           · by_cases h7 : cmpI a.task b.task = 0
             · simp [h1, h2, h3, h4, h5, h6, h7]
             · simp [h1, h2, h3, h4, h5, h6, h7]
           · simp [h1, h2, h3, h4, h5, h6]
         · simp [h1, h2, h3, h4, h5]
       · simp [h1, h2, h3, h4]
     · simp [h1, h2, h3]
   · simp [h1, h2]
 · simp [h1]
set_option maxRecDepth 100000 in
set_option maxHeartbeats 3200000 in
theorem orderC_any (x y : List Value) (w : World) (hx : Fits kClaim x) (hy : Fits kClaim y) : Calls Tryz.prog 86 #[.agg x.toArray, .agg y.toArray] w fun e w' => e = .returned (.int .i64 (ordClaim x y)) ∧ Below w.heap.size w w' := by
 have hxr := cl_cells hx
 have hyr := cl_cells hy
 have HV : Hid (ordClaim x y = firstNZ [Pl.cmp (clOf x).ord (clOf y).ord, cmpI (clOf x).line (clOf y).line, Pl.cmp (clOf x).bin (clOf y).bin, Pl.cmp (clOf x).item (clOf y).item, Pl.cmp (clOf x).lot (clOf y).lot, cmpI (clOf x).st (clOf y).st, cmpI (clOf x).task (clOf y).task]) := Lib.hid (ordCl_or _ _)
 obtain ⟨p, hp⟩ : ∃ p, clOf x = p := ⟨_, rfl⟩
 obtain ⟨q, hq⟩ : ∃ q, clOf y = q := ⟨_, rfl⟩
 rw [hp] at hxr HV
 rw [hq] at hyr HV
 obtain ⟨v, hv⟩ : ∃ v, ordClaim x y = v := ⟨_, rfl⟩
 rw [hv] at HV ⊢
 subst hxr hyr
 clear hp hq hx hy hv
 obtain ⟨po, pn, pb, pi, pl, ps, pq, pt⟩ := p
 obtain ⟨qo, qn, qb, qi, ql, qs, qq, qt⟩ := q
 unfold Cl.cells
 simp only [] at HV ⊢
 obtain ⟨W0, hW0⟩ : ∃ W0, W0 = ((w.alloc (.cells #[.string po, .int .i64 pn, .string pb, .string pi, .string pl, .int .i64 ps, .int .i64 pq, .int .i64 pt] 46)).alloc (.cells #[.string qo, .int .i64 qn, .string qb, .string qi, .string ql, .int .i64 qs, .int .i64 qq, .int .i64 qt] 46)) := ⟨_, rfl⟩
 have B0 : Hid (Below w.heap.size w W0) := Lib.hid (by rw [hW0]; exact ((Below.refl _ _).alloc (Nat.le_refl _) _).alloc (by simp <;> omega) _)
 have HX0 : Hid (W0.heap[w.heap.size]? = some (.cells #[.string po, .int .i64 pn, .string pb, .string pi, .string pl, .int .i64 ps, .int .i64 pq, .int .i64 pt] 46 (0, 0))) := Lib.hid (by
  rw [hW0]
  have hq := heap_alloc_new w (.cells #[.string po, .int .i64 pn, .string pb, .string pi, .string pl, .int .i64 ps, .int .i64 pq, .int .i64 pt] 46)
  exact (Below.heap_alloc _ _ _ (by simp <;> omega)).trans (by simpa using hq))
 have HY0 : Hid (W0.heap[w.heap.size + 1]? = some (.cells #[.string qo, .int .i64 qn, .string qb, .string qi, .string ql, .int .i64 qs, .int .i64 qq, .int .i64 qt] 46 (0, 0))) := Lib.hid (by
  rw [hW0]
  have hq := heap_alloc_new (w.alloc (.cells #[.string po, .int .i64 pn, .string pb, .string pi, .string pl, .int .i64 ps, .int .i64 pq, .int .i64 pt] 46)) (.cells #[.string qo, .int .i64 qn, .string qb, .string qi, .string ql, .int .i64 qs, .int .i64 qq, .int .i64 qt] 46)
  exact by simpa using hq)
 have huh := Tryz.underlying37
 have HSH : Hid (∀ a : Hs, (Tryz.prog.info? 37).map (·.size) = some a.cells.size) := Lib.hid (fun a => by kernel_rfl)
 have HSHL : Hid (∀ a : Hs, (Tryz.prog.info? 37).map (·.size) = some a.cells.toList.length) := Lib.hid (fun a => by kernel_rfl)
 have H1C : Hid (∀ a : Hs, a.cells.all (·.oneCell') = true) := Lib.hid (fun a => by simp [Hs.cells, Value.oneCell'])
 have huClaim := Tryz.underlying46
 have HSClaim : Hid ((Tryz.prog.info? 46).map (·.size) = some 8) := Lib.hid (by kernel_rfl)
 obtain ⟨w1, hw1⟩ : ∃ w1, w1 = W0 := ⟨_, rfl⟩
 have HX1 := HX0
 have HY1 := HY0
 have B1 := B0
 rw [← hw1] at HX1 HY1 B1
 have hsz : w.heap.size + 2 ≤ w1.heap.size := by rw [hw1, hW0]; simp
 have HBX : Hid (w.heap.size + 2 ≤ w1.heap.size) := Lib.hid hsz
 clear HX0 HY0 B0 hsz
 skip
 subst hW0
 go_enter Tryz.func86, Tryz.ntmps86
 go_wp2_with fail
 rw [← hw1]
 clear hw1
 have HST : Hid (∀ X, Below w1.heap.size w1 X → X.cell? ⟨w.heap.size, 0, none⟩ = some (.string po) ∧ X.cell? ⟨(w.heap.size + 1), 0, none⟩ = some (.string qo) ∧ X.cell? ⟨w.heap.size, 1, none⟩ = some (.int .i64 pn) ∧ X.cell? ⟨(w.heap.size + 1), 1, none⟩ = some (.int .i64 qn) ∧ X.cell? ⟨w.heap.size, 2, none⟩ = some (.string pb) ∧ X.cell? ⟨(w.heap.size + 1), 2, none⟩ = some (.string qb) ∧ X.cell? ⟨w.heap.size, 3, none⟩ = some (.string pi) ∧ X.cell? ⟨(w.heap.size + 1), 3, none⟩ = some (.string qi) ∧ X.cell? ⟨w.heap.size, 4, none⟩ = some (.string pl) ∧ X.cell? ⟨(w.heap.size + 1), 4, none⟩ = some (.string ql) ∧ X.cell? ⟨w.heap.size, 5, none⟩ = some (.int .i64 ps) ∧ X.cell? ⟨(w.heap.size + 1), 5, none⟩ = some (.int .i64 qs) ∧ X.cell? ⟨w.heap.size, 7, none⟩ = some (.int .i64 pt) ∧ X.cell? ⟨(w.heap.size + 1), 7, none⟩ = some (.int .i64 qt)) := Lib.hid (fun X hX => ⟨(by rw [cell_of_block ((hX.block _ (lt_of_block HX1.out)).trans HX1.out)]; rfl), (by rw [cell_of_block ((hX.block _ (lt_of_block HY1.out)).trans HY1.out)]; rfl), (by rw [cell_of_block ((hX.block _ (lt_of_block HX1.out)).trans HX1.out)]; rfl), (by rw [cell_of_block ((hX.block _ (lt_of_block HY1.out)).trans HY1.out)]; rfl), (by rw [cell_of_block ((hX.block _ (lt_of_block HX1.out)).trans HX1.out)]; rfl), (by rw [cell_of_block ((hX.block _ (lt_of_block HY1.out)).trans HY1.out)]; rfl), (by rw [cell_of_block ((hX.block _ (lt_of_block HX1.out)).trans HX1.out)]; rfl), (by rw [cell_of_block ((hX.block _ (lt_of_block HY1.out)).trans HY1.out)]; rfl), (by rw [cell_of_block ((hX.block _ (lt_of_block HX1.out)).trans HX1.out)]; rfl), (by rw [cell_of_block ((hX.block _ (lt_of_block HY1.out)).trans HY1.out)]; rfl), (by rw [cell_of_block ((hX.block _ (lt_of_block HX1.out)).trans HX1.out)]; rfl), (by rw [cell_of_block ((hX.block _ (lt_of_block HY1.out)).trans HY1.out)]; rfl), (by rw [cell_of_block ((hX.block _ (lt_of_block HX1.out)).trans HX1.out)]; rfl), (by rw [cell_of_block ((hX.block _ (lt_of_block HY1.out)).trans HY1.out)]; rfl)⟩)
 have BN := Lib.hid (Below.refl w1.heap.size w1).drew
 have ST0 := HST.out _ BN.out
 refine wp_region_noPanic ?_
 refine wp_region_held_drew (S := (fun w' => w'.cell? ⟨w.heap.size, 0, none⟩ = some (.string po) ∧ w'.cell? ⟨(w.heap.size + 1), 0, none⟩ = some (.string qo) ∧ w'.cell? ⟨w.heap.size, 1, none⟩ = some (.int .i64 pn) ∧ w'.cell? ⟨(w.heap.size + 1), 1, none⟩ = some (.int .i64 qn) ∧ w'.cell? ⟨w.heap.size, 2, none⟩ = some (.string pb) ∧ w'.cell? ⟨(w.heap.size + 1), 2, none⟩ = some (.string qb) ∧ w'.cell? ⟨w.heap.size, 3, none⟩ = some (.string pi) ∧ w'.cell? ⟨(w.heap.size + 1), 3, none⟩ = some (.string qi) ∧ w'.cell? ⟨w.heap.size, 4, none⟩ = some (.string pl) ∧ w'.cell? ⟨(w.heap.size + 1), 4, none⟩ = some (.string ql) ∧ w'.cell? ⟨w.heap.size, 5, none⟩ = some (.int .i64 ps) ∧ w'.cell? ⟨(w.heap.size + 1), 5, none⟩ = some (.int .i64 qs) ∧ w'.cell? ⟨w.heap.size, 7, none⟩ = some (.int .i64 pt) ∧ w'.cell? ⟨(w.heap.size + 1), 7, none⟩ = some (.int .i64 qt))) (by kernel_rfl) ST0 (fun dd0 => ?_)
 refine tkE 0 (.pointer (some ⟨w.heap.size, 0, none⟩)) rfl ?_
 (try simp only [ax])
 refine tkF 1 (.string po) rfl (.inl ⟨by kernel_rfl, fun w h => by have hw := h.1; clear h; go_simp⟩) ?_
 (try simp only [ax])
 refine tkE 2 (.pointer (some ⟨(w.heap.size + 1), 0, none⟩)) rfl ?_
 (try simp only [ax])
 refine tkF 3 (.string qo) rfl (.inl ⟨by kernel_rfl, fun w h => by have hw := h.2.1; clear h; go_simp⟩) ?_
 (try simp only [ax])
 refine tkE 5 (.pointer (some ⟨w.heap.size, 1, none⟩)) rfl ?_
 (try simp only [ax])
 refine tkF 6 (.int .i64 pn) rfl (.inl ⟨by kernel_rfl, fun w h => by have hw := h.2.2.1; clear h; go_simp⟩) ?_
 (try simp only [ax])
 refine tkE 7 (.pointer (some ⟨(w.heap.size + 1), 1, none⟩)) rfl ?_
 (try simp only [ax])
 refine tkF 8 (.int .i64 qn) rfl (.inl ⟨by kernel_rfl, fun w h => by have hw := h.2.2.2.1; clear h; go_simp⟩) ?_
 (try simp only [ax])
 refine tkE 10 (.pointer (some ⟨w.heap.size, 2, none⟩)) rfl ?_
 (try simp only [ax])
 refine tkE 11 (.pointer (some ⟨w.heap.size, 2, none⟩)) rfl ?_
 (try simp only [ax])
 refine tkF 12 (.string pb) rfl (.inl ⟨by kernel_rfl, fun w h => by have hw := h.2.2.2.2.1; clear h; go_simp⟩) ?_
 (try simp only [ax])
 refine tkE 13 (.pointer (some ⟨(w.heap.size + 1), 2, none⟩)) rfl ?_
 (try simp only [ax])
 refine tkE 14 (.pointer (some ⟨(w.heap.size + 1), 2, none⟩)) rfl ?_
 (try simp only [ax])
 refine tkF 15 (.string qb) rfl (.inl ⟨by kernel_rfl, fun w h => by have hw := h.2.2.2.2.2.1; clear h; go_simp⟩) ?_
 (try simp only [ax])
 refine tkE 17 (.pointer (some ⟨w.heap.size, 2, none⟩)) rfl ?_
 (try simp only [ax])
 refine tkE 18 (.pointer (some ⟨w.heap.size, 3, none⟩)) rfl ?_
 (try simp only [ax])
 refine tkF 19 (.string pi) rfl (.inl ⟨by kernel_rfl, fun w h => by have hw := h.2.2.2.2.2.2.1; clear h; go_simp⟩) ?_
 (try simp only [ax])
 refine tkE 20 (.pointer (some ⟨(w.heap.size + 1), 2, none⟩)) rfl ?_
 (try simp only [ax])
 refine tkE 21 (.pointer (some ⟨(w.heap.size + 1), 3, none⟩)) rfl ?_
 (try simp only [ax])
 refine tkF 22 (.string qi) rfl (.inl ⟨by kernel_rfl, fun w h => by have hw := h.2.2.2.2.2.2.2.1; clear h; go_simp⟩) ?_
 (try simp only [ax])
 refine tkE 24 (.pointer (some ⟨w.heap.size, 2, none⟩)) rfl ?_
 (try simp only [ax])
 refine tkE 25 (.pointer (some ⟨w.heap.size, 4, none⟩)) rfl ?_
 (try simp only [ax])
 refine tkF 26 (.string pl) rfl (.inl ⟨by kernel_rfl, fun w h => by have hw := h.2.2.2.2.2.2.2.2.1; clear h; go_simp⟩) ?_
 (try simp only [ax])
 refine tkE 27 (.pointer (some ⟨(w.heap.size + 1), 2, none⟩)) rfl ?_
 (try simp only [ax])
 refine tkE 28 (.pointer (some ⟨(w.heap.size + 1), 4, none⟩)) rfl ?_
 (try simp only [ax])
 refine tkF 29 (.string ql) rfl (.inl ⟨by kernel_rfl, fun w h => by have hw := h.2.2.2.2.2.2.2.2.2.1; clear h; go_simp⟩) ?_
 (try simp only [ax])
 refine tkE 31 (.pointer (some ⟨w.heap.size, 2, none⟩)) rfl ?_
 (try simp only [ax])
 refine tkE 32 (.pointer (some ⟨w.heap.size, 5, none⟩)) rfl ?_
 (try simp only [ax])
 refine tkF 33 (.int .i64 ps) rfl (.inl ⟨by kernel_rfl, fun w h => by have hw := h.2.2.2.2.2.2.2.2.2.2.1; clear h; go_simp⟩) ?_
 (try simp only [ax])
 refine tkE 34 (.pointer (some ⟨(w.heap.size + 1), 2, none⟩)) rfl ?_
 (try simp only [ax])
 refine tkE 35 (.pointer (some ⟨(w.heap.size + 1), 5, none⟩)) rfl ?_
 (try simp only [ax])
 refine tkF 36 (.int .i64 qs) rfl (.inl ⟨by kernel_rfl, fun w h => by have hw := h.2.2.2.2.2.2.2.2.2.2.2.1; clear h; go_simp⟩) ?_
 (try simp only [ax])
 refine tkE 38 (.pointer (some ⟨w.heap.size, 7, none⟩)) rfl ?_
 (try simp only [ax])
 refine tkF 39 (.int .i64 pt) rfl (.inl ⟨by kernel_rfl, fun w h => by have hw := h.2.2.2.2.2.2.2.2.2.2.2.2.1; clear h; go_simp⟩) ?_
 (try simp only [ax])
 refine tkE 40 (.pointer (some ⟨(w.heap.size + 1), 7, none⟩)) rfl ?_
 (try simp only [ax])
 refine tkF 41 (.int .i64 qt) rfl (.inl ⟨by kernel_rfl, fun w h => by have hw := h.2.2.2.2.2.2.2.2.2.2.2.2.2; clear h; go_simp⟩) ?_
 (try simp only [ax])
 refine wpAnyH_ready (rs := [4]) (by kernel_rfl) (by simp) ?_
 refine AllReadyH.cons rfl (fun K' hK => ?_) AllReadyH.nil
 go_simp
 refine ((same_below (compare_any po qo _))).mono ?_
 rintro e wn ⟨rfl, hbn⟩
 have BN := Lib.hid (BN.out.trans (hbn.mono BN.out.size))
 clear hbn
 refine hK.out _ _ (HST.out _ BN.out) (fun _ => ?_)
 clear hK K'
 (try simp only [ax])
 refine wpAnyH_ready (rs := [9]) (by kernel_rfl) (by simp) ?_
 refine AllReadyH.cons rfl (fun K' hK => ?_) AllReadyH.nil
 go_simp
 refine ((same_below (compareI_any pn qn _))).mono ?_
 rintro e wn ⟨rfl, hbn⟩
 have BN := Lib.hid (BN.out.trans (hbn.mono BN.out.size))
 clear hbn
 refine hK.out _ _ (HST.out _ BN.out) (fun _ => ?_)
 clear hK K'
 (try simp only [ax])
 refine wpAnyH_ready (rs := [16]) (by kernel_rfl) (by simp) ?_
 refine AllReadyH.cons rfl (fun K' hK => ?_) AllReadyH.nil
 go_simp
 refine ((same_below (compare_any pb qb _))).mono ?_
 rintro e wn ⟨rfl, hbn⟩
 have BN := Lib.hid (BN.out.trans (hbn.mono BN.out.size))
 clear hbn
 refine hK.out _ _ (HST.out _ BN.out) (fun _ => ?_)
 clear hK K'
 (try simp only [ax])
 refine wpAnyH_ready (rs := [23]) (by kernel_rfl) (by simp) ?_
 refine AllReadyH.cons rfl (fun K' hK => ?_) AllReadyH.nil
 go_simp
 refine ((same_below (compare_any pi qi _))).mono ?_
 rintro e wn ⟨rfl, hbn⟩
 have BN := Lib.hid (BN.out.trans (hbn.mono BN.out.size))
 clear hbn
 refine hK.out _ _ (HST.out _ BN.out) (fun _ => ?_)
 clear hK K'
 (try simp only [ax])
 refine wpAnyH_ready (rs := [30]) (by kernel_rfl) (by simp) ?_
 refine AllReadyH.cons rfl (fun K' hK => ?_) AllReadyH.nil
 go_simp
 refine ((same_below (compare_any pl ql _))).mono ?_
 rintro e wn ⟨rfl, hbn⟩
 have BN := Lib.hid (BN.out.trans (hbn.mono BN.out.size))
 clear hbn
 refine hK.out _ _ (HST.out _ BN.out) (fun _ => ?_)
 clear hK K'
 (try simp only [ax])
 refine wpAnyH_ready (rs := [37]) (by kernel_rfl) (by simp) ?_
 refine AllReadyH.cons rfl (fun K' hK => ?_) AllReadyH.nil
 go_simp
 refine ((same_below (compareI_any ps qs _))).mono ?_
 rintro e wn ⟨rfl, hbn⟩
 have BN := Lib.hid (BN.out.trans (hbn.mono BN.out.size))
 clear hbn
 refine hK.out _ _ (HST.out _ BN.out) (fun _ => ?_)
 clear hK K'
 (try simp only [ax])
 refine wpAnyH_ready (rs := [42]) (by kernel_rfl) (by simp) ?_
 refine AllReadyH.cons rfl (fun K' hK => ?_) AllReadyH.nil
 go_simp
 refine ((same_below (compareI_any pt qt _))).mono ?_
 rintro e wn ⟨rfl, hbn⟩
 have BN := Lib.hid (BN.out.trans (hbn.mono BN.out.size))
 clear hbn
 refine hK.out _ _ (HST.out _ BN.out) (fun _ => ?_)
 clear hK K'
 (try simp only [ax])
 refine wpAnyH_ready (rs := [43]) (by kernel_rfl) (by simp) ?_
 refine AllReadyH.cons rfl (fun K' hK => ?_) AllReadyH.nil
 go_simp
 obtain ⟨wb43, hwb⟩ : ∃ W, W = (wn.alloc (.cells #[.int .i64 (Pl.cmp po qo), .int .i64 (cmpI pn qn), .int .i64 (Pl.cmp pb qb), .int .i64 (Pl.cmp pi qi), .int .i64 (Pl.cmp pl ql), .int .i64 (cmpI ps qs), .int .i64 (cmpI pt qt)] 3)) := ⟨_, rfl⟩
 obtain ⟨gb43, hgb⟩ : ∃ g, g = wn.heap.size := ⟨_, rfl⟩
 have HBS43 : Hid (Rd wb43 wb43.heap.size (some ⟨gb43, 0, none⟩) [.int .i64 (Pl.cmp po qo), .int .i64 (cmpI pn qn), .int .i64 (Pl.cmp pb qb), .int .i64 (Pl.cmp pi qi), .int .i64 (Pl.cmp pl ql), .int .i64 (cmpI ps qs), .int .i64 (cmpI pt qt)]) := Lib.hid (by rw [hwb, hgb]; exact (rd_one wn [.int .i64 (Pl.cmp po qo), .int .i64 (cmpI pn qn), .int .i64 (Pl.cmp pb qb), .int .i64 (Pl.cmp pi qi), .int .i64 (Pl.cmp pl ql), .int .i64 (cmpI ps qs), .int .i64 (cmpI pt qt)] 3).mono (by simp))
 have hbn : Below wn.heap.size wn wb43 := by rw [hwb]; exact ((Below.refl _ _).alloc (Nat.le_refl _) _)
 have BN := Lib.hid (BN.out.trans (hbn.mono BN.out.size))
 rw [← hwb, ← hgb]
 clear hbn hwb hgb
 refine hK.out _ _ (HST.out _ BN.out) (fun _ => ?_)
 clear hK K'
 (try simp only [ax])
 refine wpAnyH_ready (rs := [44]) (by kernel_rfl) (by simp) ?_
 refine AllReadyH.cons rfl (fun K' hK => ?_) AllReadyH.nil
 go_simp
 refine ((same_below (or_any _ 7 7 [Pl.cmp po qo, cmpI pn qn, Pl.cmp pb qb, Pl.cmp pi qi, Pl.cmp pl ql, cmpI ps qs, cmpI pt qt] _ rfl (by decide) (by have := HBS43.out; exact this)))).mono ?_
 rintro e wn ⟨rfl, hbn⟩
 have BN := Lib.hid (BN.out.trans (hbn.mono BN.out.size))
 clear hbn
 refine hK.out _ _ (HST.out _ BN.out) (fun _ => ?_)
 clear hK K'
 (try simp only [ax])
 refine tkE 45 (.int .i64 (firstNZ [Pl.cmp po qo, cmpI pn qn, Pl.cmp pb qb, Pl.cmp pi qi, Pl.cmp pl ql, cmpI ps qs, cmpI pt qt])) rfl ?_
 (try simp only [ax])
 refine wpAnyH_done (by kernel_rfl) ?_ _
 refine NoPanic.normal ?_
 clear ST0
 go_wp2_with fail
 go_ret
 exact ⟨by rw [HV.out]; rfl, B1.out.trans (BN.out.mono B1.out.size)⟩
theorem tellsC (w : World) : TellsO kClaim w 86 #[] ordClaim := ⟨fun args W => by kernel_rfl, fun W _ a b ha hb => orderC_any a b W ha hb⟩
/-- The table of claims. -/
abbrev tvC : Value := .func (.func 86) #[] #[]
attribute [local go_sem] store_func
theorem tabC_any (w : World) : Calls Tryz.prog 47 #[] w fun e w' => e = .returned (.agg #[tvC]) ∧ Below w.heap.size w w' := by
 go_enter Tryz.func47, Tryz.ntmps47
 go_wp2
 refine bodyPost_ret (v := .agg #[tvC]) ?_ rfl ⟨rfl, ?_⟩
 · simp [results, Tryz.results47, go_sem]
 · exact (Below.refl _ _).alloc (Nat.le_refl _) _
end Go.Proofs.YtlkmccmbpnbgbaaGreat

namespace Go.Proofs.YtlkmccmbpnbgbaaGreat
set_option linter.unusedVariables false
open Go.RowKit
open Pl (firstG firstG_none firstG_some findG overG putG dropG It)

set_option maxRecDepth 100000 in
set_option maxHeartbeats 3200000 in
theorem cwithC (h : Hs) (L : Nat → List (List Value)) (co : ByteArray) (cn : Int) (cb ci cl : ByteArray) (cs cq ct : Int) (w : World) (hh : HT h L w) (hn4 : h.n 8 ≤ 9000) (hc1 : h.n 8 ≤ h.c 8 ∧ h.c 8 ≤ 9223372036854775807) :
 Calls Tryz.prog 49 #[.agg h.cells, .agg #[.string co, .int .i64 cn, .string cb, .string ci, .string cl, .int .i64 cs, .int .i64 cq, .int .i64 ct]] w fun e w' => Below w.heap.size w w' ∧ ∃ A n c, n = (upC (L 8) (Cl.mk co cn cb ci cl cs cq ct)).length ∧ w'.ownsRow w.heap.size 46 8 (.slice A n c) n (upC (L 8) (Cl.mk co cn cb ci cl cs cq ct)).flatten ∧ e = .returned (.agg (h.set 8 A n c).cells) := by
 have HPD := Lib.hid (fun W (hW : Below w.heap.size w W) => dropClaim (h.A 8) (h.n 8) (h.c 8) 86 #[] ordClaim [.string co, .int .i64 cn, .string cb, .string ci, .string cl, .int .i64 cs, .int .i64 cq, .int .i64 ct] (L 8) W (hh 8 (by decide)).1 hc1.1 hc1.2 (by omega) (hh 8 (by decide)).2.2.1 (Cl.fits (Cl.mk co cn cb ci cl cs cq ct)) ((hh.below hW) 8 (by decide)).2.2.2 (tellsC W))
 have HPU := Lib.hid (fun W (hW : Below w.heap.size w W) => putClaim (h.A 8) (h.n 8) (h.c 8) 86 #[] ordClaim [.string co, .int .i64 cn, .string cb, .string ci, .string cl, .int .i64 cs, .int .i64 cq, .int .i64 ct] (L 8) W (hh 8 (by decide)).1 hc1.1 hc1.2 (by omega) (hh 8 (by decide)).2.2.1 (Cl.fits (Cl.mk co cn cb ci cl cs cq ct)) ((hh.below hW) 8 (by decide)).2.2.2 (tellsC W))
 have HUP : Hid (upC (L 8) (Cl.mk co cn cb ci cl cs cq ct) = if cq = 0 then dropG ordClaim (L 8) [.string co, .int .i64 cn, .string cb, .string ci, .string cl, .int .i64 cs, .int .i64 cq, .int .i64 ct] else putG ordClaim (L 8) [.string co, .int .i64 cn, .string cb, .string ci, .string cl, .int .i64 cs, .int .i64 cq, .int .i64 ct]) := Lib.hid rfl
 obtain ⟨lx, hlx⟩ : ∃ l, upC (L 8) (Cl.mk co cn cb ci cl cs cq ct) = l := ⟨_, rfl⟩
 rw [hlx] at HUP ⊢
 obtain ⟨m, hmm⟩ : ∃ m, h.n 8 = m := ⟨_, rfl⟩
 rw [hmm] at HPD HPU hn4
 have HMM := Lib.hid hmm
 clear hlx hmm
 obtain ⟨W0, hW0⟩ : ∃ W0, W0 = (((w.alloc (.cells h.cells 37)).alloc (.cells #[.string co, .int .i64 cn, .string cb, .string ci, .string cl, .int .i64 cs, .int .i64 cq, .int .i64 ct] 46)).alloc (.cells #[.slice none 0 0, .slice none 0 0, .slice none 0 0, .slice none 0 0, .slice none 0 0, .slice none 0 0, .slice none 0 0, .slice none 0 0, .slice none 0 0, .slice none 0 0, .slice none 0 0, .slice none 0 0, .slice none 0 0, .slice none 0 0, .int .i64 0] 37)) := ⟨_, rfl⟩
 have hb0 : Below w.heap.size w W0 := by rw [hW0]; exact (((Below.refl _ _).alloc (Nat.le_refl _) _).alloc (by simp <;> omega) _).alloc (by simp <;> omega) _
 have hs0 : W0.heap.size = w.heap.size + 3 := by rw [hW0]; simp
 have HH : Hid (∀ W, Below W0.heap.size W0 W → W.heap[w.heap.size]? = some (.cells h.cells 37 (0, 0))) := Lib.hid (fun W hW => (hW.block _ (by omega)).trans (by
  rw [hW0]
  have hq := heap_alloc_new w (.cells h.cells 37)
  exact (Below.heap_alloc _ _ _ (by simp <;> omega)).trans ((Below.heap_alloc _ _ _ (by simp <;> omega)).trans ((by simpa using hq)))))
 have HX : Hid (∀ W, Below W0.heap.size W0 W → W.heap[w.heap.size + 1]? = some (.cells #[.string co, .int .i64 cn, .string cb, .string ci, .string cl, .int .i64 cs, .int .i64 cq, .int .i64 ct] 46 (0, 0))) := Lib.hid (fun W hW => (hW.block _ (by omega)).trans (by
  rw [hW0]
  have hq := heap_alloc_new (w.alloc (.cells h.cells 37)) (.cells #[.string co, .int .i64 cn, .string cb, .string ci, .string cl, .int .i64 cs, .int .i64 cq, .int .i64 ct] 46)
  exact (Below.heap_alloc _ _ _ (by simp <;> omega)).trans ((by simpa using hq))))
 have HZ : Hid (∀ W, Below W0.heap.size W0 W → W.heap[w.heap.size + 2]? = some (.cells Hs.zero 37 (0, 0))) := Lib.hid (fun W hW => (hW.block _ (by omega)).trans (by
  rw [hW0]
  have hq := heap_alloc_new ((w.alloc (.cells h.cells 37)).alloc (.cells #[.string co, .int .i64 cn, .string cb, .string ci, .string cl, .int .i64 cs, .int .i64 cq, .int .i64 ct] 46)) (.cells #[.slice none 0 0, .slice none 0 0, .slice none 0 0, .slice none 0 0, .slice none 0 0, .slice none 0 0, .slice none 0 0, .slice none 0 0, .slice none 0 0, .slice none 0 0, .slice none 0 0, .slice none 0 0, .slice none 0 0, .slice none 0 0, .int .i64 0] 37)
  exact (by simpa [Hs.zero] using hq)))
 have HBW : Hid (∀ W, Below W0.heap.size W0 W → Below w.heap.size w W ∧ w.heap.size + 3 ≤ W.heap.size) := Lib.hid (fun W hW => ⟨hb0.trans (hW.mono (by omega)), by have := hW.size; omega⟩)
 have huh := Tryz.underlying37
 have HSH : Hid (∀ a : Hs, (Tryz.prog.info? 37).map (·.size) = some a.cells.size) := Lib.hid (fun a => by kernel_rfl)
 have HSQ : Hid ((Tryz.prog.info? 37).map (·.size) = some Hs.zero.size) := Lib.hid (by kernel_rfl)
 have H1C : Hid (∀ a : Hs, a.cells.all (·.oneCell') = true) := Lib.hid (fun a => by simp [Hs.cells, Value.oneCell'])
 have H1Q : Hid (Hs.zero.all (·.oneCell') = true) := Lib.hid (by simp [Hs.zero, Value.oneCell'])
 have huHX := Tryz.underlying46
 have HSHX : Hid ((Tryz.prog.info? 46).map (·.size) = some 8) := Lib.hid (by kernel_rfl)
 have HCHX : Hid (∀ W, Below W0.heap.size W0 W → W.cell? ⟨w.heap.size + 1, 0, none⟩ = some (.string co) ∧ W.cell? ⟨w.heap.size + 1, 1, none⟩ = some (.int .i64 cn) ∧ W.cell? ⟨w.heap.size + 1, 2, none⟩ = some (.string cb) ∧ W.cell? ⟨w.heap.size + 1, 3, none⟩ = some (.string ci) ∧ W.cell? ⟨w.heap.size + 1, 4, none⟩ = some (.string cl) ∧ W.cell? ⟨w.heap.size + 1, 5, none⟩ = some (.int .i64 cs) ∧ W.cell? ⟨w.heap.size + 1, 6, none⟩ = some (.int .i64 cq) ∧ W.cell? ⟨w.heap.size + 1, 7, none⟩ = some (.int .i64 ct) ∧ w.heap.size + 1 < W.heap.size) := Lib.hid (fun W hW => ⟨by rw [cell_of_block (HX.out W hW)]; rfl, by rw [cell_of_block (HX.out W hW)]; rfl, by rw [cell_of_block (HX.out W hW)]; rfl, by rw [cell_of_block (HX.out W hW)]; rfl, by rw [cell_of_block (HX.out W hW)]; rfl, by rw [cell_of_block (HX.out W hW)]; rfl, by rw [cell_of_block (HX.out W hW)]; rfl, by rw [cell_of_block (HX.out W hW)]; rfl, by have := hW.size; omega⟩)
 have HLI : Hid (∀ W, Below W0.heap.size W0 W → W.cell? ⟨w.heap.size, 8, none⟩ = some (.slice (h.A 8) m (h.c 8)) ∧ w.heap.size < W.heap.size) := Lib.hid (fun W hW => ⟨by rw [cell_of_block (HH.out W hW), ← HMM.out]; rfl, by have := hW.size; omega⟩)
 have H0 := Lib.hid (Below.refl W0.heap.size W0)
 clear hb0 hs0 hh hc1
 subst hW0
 go_enter Tryz.func49, Tryz.ntmps49
 obtain ⟨hx0, hx1, hx2, hx3, hx4, hx5, hx6, hx7, hlthx⟩ := HCHX.out _ H0.out
 by_cases h0 : cq = 0
 · have hz0 : (cq == 0) = true := by simpa using h0
   have HQ0 := Lib.hid h0
   clear h0
   have HE : Hid (lx = dropG ordClaim (L 8) [.string co, .int .i64 cn, .string cb, .string ci, .string cl, .int .i64 cs, .int .i64 cq, .int .i64 ct]) := Lib.hid (by rw [HUP.out, if_pos HQ0.out])
   rw [← HE.out] at HPD
   obtain ⟨wB, hwB⟩ : ∃ W, W = (((w.alloc (.cells h.cells 37)).alloc (.cells #[.string co, .int .i64 cn, .string cb, .string ci, .string cl, .int .i64 cs, .int .i64 cq, .int .i64 ct] 46)).alloc (.cells #[.slice none 0 0, .slice none 0 0, .slice none 0 0, .slice none 0 0, .slice none 0 0, .slice none 0 0, .slice none 0 0, .slice none 0 0, .slice none 0 0, .slice none 0 0, .slice none 0 0, .slice none 0 0, .slice none 0 0, .slice none 0 0, .int .i64 0] 37)) := ⟨_, rfl⟩
   have HWB0 := Lib.hid hwB
   have hob : Below (((w.alloc (.cells h.cells 37)).alloc (.cells #[.string co, .int .i64 cn, .string cb, .string ci, .string cl, .int .i64 cs, .int .i64 cq, .int .i64 ct] 46)).alloc (.cells #[.slice none 0 0, .slice none 0 0, .slice none 0 0, .slice none 0 0, .slice none 0 0, .slice none 0 0, .slice none 0 0, .slice none 0 0, .slice none 0 0, .slice none 0 0, .slice none 0 0, .slice none 0 0, .slice none 0 0, .slice none 0 0, .int .i64 0] 37)).heap.size (((w.alloc (.cells h.cells 37)).alloc (.cells #[.string co, .int .i64 cn, .string cb, .string ci, .string cl, .int .i64 cs, .int .i64 cq, .int .i64 ct] 46)).alloc (.cells #[.slice none 0 0, .slice none 0 0, .slice none 0 0, .slice none 0 0, .slice none 0 0, .slice none 0 0, .slice none 0 0, .slice none 0 0, .slice none 0 0, .slice none 0 0, .slice none 0 0, .slice none 0 0, .slice none 0 0, .slice none 0 0, .int .i64 0] 37)) wB := by rw [hwB]; exact Below.refl _ _
   clear hx0 hx1 hx2 hx3 hx4 hx5 hx7
   have HOB := Lib.hid hob
   clear hob
   have HXB : Hid (∀ W, Below wB.heap.size wB W → W.heap[w.heap.size + 1]? = some (.cells #[.string co, .int .i64 cn, .string cb, .string ci, .string cl, .int .i64 cs, .int .i64 cq, .int .i64 ct] 46 (0, 0))) := Lib.hid (fun W hW => by have hq := hW; rw [HWB0.out] at hq; exact HX.out W hq)
   have HST : Hid (∀ W, Below wB.heap.size wB W → W.cell? ⟨w.heap.size, 8, none⟩ = some (.slice (h.A 8) m (h.c 8)) ∧ W.rangeAt (w.heap.size + 1) 0 [.string co, .int .i64 cn, .string cb, .string ci, .string cl, .int .i64 cs, .int .i64 cq, .int .i64 ct]) := Lib.hid (fun W hW => ⟨(HLI.out W (HOB.out.trans (hW.mono HOB.out.size))).1, range_cells (HXB.out W hW)⟩)
   have HWB := Lib.hid hwB
   clear hwB
   go_upto_region 2 with fail
   rw [← HWB.out]
   go_wp2_with fail
   refine lastW_region (S := (fun w' => w'.cell? ⟨w.heap.size, 8, none⟩ = some (.slice (h.A 8) (m) (h.c 8)) ∧ w'.rangeAt (w.heap.size + 1) 0 [.string co, .int .i64 cn, .string cb, .string ci, .string cl, .int .i64 cs, .int .i64 cq, .int .i64 ct])) (n := 6) (by kernel_rfl) ?_
   have ST5 := HST.out _ (Below.refl wB.heap.size wB).drew
   refine LastW.take (i := 1) (v := .pointer (some ⟨w.heap.size, 8, none⟩)) rfl (by kernel_rfl) (by kernel_rfl) (by kernel_rfl) (by kernel_rfl) (by decide) (fun _ _ _ h => h.elim) (.inl ⟨by kernel_rfl, fun w hw => by clear hw; go_simp⟩) ST5 ?_
   (try simp only [ax])
   refine LastW.take (i := 2) (v := .slice (h.A 8) (m) (h.c 8)) rfl (by kernel_rfl) (by kernel_rfl) (by kernel_rfl) (by kernel_rfl) (by decide) (fun _ _ _ h => h.elim) (.inl ⟨by kernel_rfl, fun w hw => by have hw := hw.1; go_simp⟩) ST5 ?_
   (try simp only [ax])
   refine LastW.take (i := 3) (v := .agg #[.string co, .int .i64 cn, .string cb, .string ci, .string cl, .int .i64 cs, .int .i64 cq, .int .i64 ct]) rfl (by kernel_rfl) (by kernel_rfl) (by kernel_rfl) (by kernel_rfl) (by decide) (fun _ _ _ h => h.elim) (yieldsIf_load_mid (by kernel_rfl) 46 (.tmp 3) rfl (w.heap.size + 1) 0 rfl [.string co, .int .i64 cn, .string cb, .string ci, .string cl, .int .i64 cs, .int .i64 cq, .int .i64 ct] _ (fun w h => h.2) huHX rfl HSHX.out) ST5 ?_
   (try simp only [ax])
   refine LastW.one (i := 0) (by kernel_rfl) rfl (fun K hK => ?_)
   go_simp
   refine (tabC_any _).mono ?_
   rintro e w7 ⟨rfl, hb7⟩
   have H7 := Lib.hid ((Below.refl wB.heap.size wB).drew.trans (hb7.mono (Below.refl wB.heap.size wB).drew.size))
   clear hb7
   refine hK.out _ _ (fun _ => HST.out _ H7.out) (fun _ => ?_)
   clear hK K
   (try simp only [ax])
   have H7W := Lib.hid (HOB.out.trans (H7.out.mono HOB.out.size))
   refine LastW.one (i := 4) (by kernel_rfl) rfl (fun K hK => ?_)
   go_simp
   refine (HPD.out _ (HBW.out _ H7W.out).1).mono ?_
   rintro e w8 ⟨A5, n5, p5, hl5, rfl, hown5, hb8⟩
   have H8 := Lib.hid (H7.out.trans (hb8.mono H7.out.size))
   have H8W := Lib.hid (HOB.out.trans (H8.out.mono HOB.out.size))
   have HO5 := Lib.hid hown5
   have HLE := Lib.hid hl5
   clear hb8 hown5 hl5
   refine hK.out _ _ (fun _ => HST.out _ H8.out) (fun _ => ?_)
   clear hK K
   (try simp only [ax])
   refine LastW.take (i := 5) (v := .pointer (some ⟨w.heap.size, 8, none⟩)) rfl (by kernel_rfl) (by kernel_rfl) (by kernel_rfl) (by kernel_rfl) (by decide) (fun _ _ _ h => h.elim) (.inl ⟨by kernel_rfl, fun w hw => by clear hw; go_simp⟩) (HST.out _ H8.out) ?_
   (try simp only [ax])
   refine LastW.one (i := 6) (by kernel_rfl) rfl (fun K hK => ?_)
   have c5 := (HLI.out _ H8W.out).1
   have f5 : w8.frozen? ⟨w.heap.size, 8, none⟩ = false := frozen_of_block (HH.out _ H8W.out)
   have HZ5 := Lib.hid (HZ.out _ H8W.out)
   have HH5 := Lib.hid (HH.out _ H8W.out)
   have HB5 := Lib.hid (HBW.out _ H8W.out)
   go_simp
   refine hK.out _ _ (fun h => absurd rfl h) (fun _ => ?_)
   clear hK K
   (try simp only [ax])
   refine LastW.done (by kernel_rfl) ?_ _
   refine NoPanic.normal ?_
   have H9 : Hid ((w8.setCell ⟨w.heap.size, 8, none⟩ (.slice A5 n5 p5)).heap[w.heap.size]? = some (.cells (h.set 8 A5 n5 p5).cells 37 (0, 0))) := Lib.hid (by rw [block_setCell HH5.out, h.set_cells _ _ _ 8 (by decide)])
   have HZ6 : Hid ((w8.setCell ⟨w.heap.size, 8, none⟩ (.slice A5 n5 p5)).heap[w.heap.size + 2]? = some (.cells Hs.zero 37 (0, 0))) := Lib.hid ((block_setCell_other (by omega) _).trans HZ5.out)
   have HB6 : Hid (Below w.heap.size w (w8.setCell ⟨w.heap.size, 8, none⟩ (.slice A5 n5 p5))) := Lib.hid (HB5.out.1.setCell (Nat.le_refl _) _)
   have HS4 : Hid (w.heap.size + 2 < w7.heap.size) := Lib.hid (by have := (HBW.out _ H7W.out).2; omega)
   have HO6 : Hid ((w8.setCell ⟨w.heap.size, 8, none⟩ (.slice A5 n5 p5)).ownsRow w7.heap.size 46 8 (.slice A5 n5 p5) n5 lx.flatten) := Lib.hid (own_far HO5.out (by have := HS4.out; simp; omega) (Nat.le_refl _))
   generalize w8.setCell ⟨w.heap.size, 8, none⟩ (.slice A5 n5 p5) = w6 at *
   go_wp2_with (first
    | (refine wpList_load_row rfl 37 (.tmp 2) rfl w.heap.size rfl _ _ _ _ H9.out huh rfl (HSH.out _) ?_)
    | (refine wpList_store_row rfl 37 (.tmp 4) (.tmp 14) rfl (w.heap.size + 2) (h.set 8 A5 n5 p5).cells rfl rfl _ _ HZ6.out (HSH.out _) rfl (H1C.out _) ?_)
    | fail)
   exact bodyPost_ret (results_cell_row rfl _ _ (w.heap.size + 2) _ _ _ _ rfl (setRow_heap _ _ _ _ _ _ HZ6.out) huh rfl (HSH.out _)) rfl ⟨setRow_below HB6.out (by omega) _, A5, n5, p5, HLE.out, own_rowed HO6.out HS4.out (by have := HS4.out; omega), rfl⟩
 · have hz0 : (cq == 0) = false := by simpa using h0
   have HQ0 := Lib.hid h0
   clear h0
   have HE : Hid (lx = putG ordClaim (L 8) [.string co, .int .i64 cn, .string cb, .string ci, .string cl, .int .i64 cs, .int .i64 cq, .int .i64 ct]) := Lib.hid (by rw [HUP.out, if_neg HQ0.out])
   rw [← HE.out] at HPU
   obtain ⟨wB, hwB⟩ : ∃ W, W = (((w.alloc (.cells h.cells 37)).alloc (.cells #[.string co, .int .i64 cn, .string cb, .string ci, .string cl, .int .i64 cs, .int .i64 cq, .int .i64 ct] 46)).alloc (.cells #[.slice none 0 0, .slice none 0 0, .slice none 0 0, .slice none 0 0, .slice none 0 0, .slice none 0 0, .slice none 0 0, .slice none 0 0, .slice none 0 0, .slice none 0 0, .slice none 0 0, .slice none 0 0, .slice none 0 0, .slice none 0 0, .int .i64 0] 37)) := ⟨_, rfl⟩
   have HWB0 := Lib.hid hwB
   have hob : Below (((w.alloc (.cells h.cells 37)).alloc (.cells #[.string co, .int .i64 cn, .string cb, .string ci, .string cl, .int .i64 cs, .int .i64 cq, .int .i64 ct] 46)).alloc (.cells #[.slice none 0 0, .slice none 0 0, .slice none 0 0, .slice none 0 0, .slice none 0 0, .slice none 0 0, .slice none 0 0, .slice none 0 0, .slice none 0 0, .slice none 0 0, .slice none 0 0, .slice none 0 0, .slice none 0 0, .slice none 0 0, .int .i64 0] 37)).heap.size (((w.alloc (.cells h.cells 37)).alloc (.cells #[.string co, .int .i64 cn, .string cb, .string ci, .string cl, .int .i64 cs, .int .i64 cq, .int .i64 ct] 46)).alloc (.cells #[.slice none 0 0, .slice none 0 0, .slice none 0 0, .slice none 0 0, .slice none 0 0, .slice none 0 0, .slice none 0 0, .slice none 0 0, .slice none 0 0, .slice none 0 0, .slice none 0 0, .slice none 0 0, .slice none 0 0, .slice none 0 0, .int .i64 0] 37)) wB := by rw [hwB]; exact Below.refl _ _
   clear hx0 hx1 hx2 hx3 hx4 hx5 hx7
   have HOB := Lib.hid hob
   clear hob
   have HXB : Hid (∀ W, Below wB.heap.size wB W → W.heap[w.heap.size + 1]? = some (.cells #[.string co, .int .i64 cn, .string cb, .string ci, .string cl, .int .i64 cs, .int .i64 cq, .int .i64 ct] 46 (0, 0))) := Lib.hid (fun W hW => by have hq := hW; rw [HWB0.out] at hq; exact HX.out W hq)
   have HST : Hid (∀ W, Below wB.heap.size wB W → W.cell? ⟨w.heap.size, 8, none⟩ = some (.slice (h.A 8) m (h.c 8)) ∧ W.rangeAt (w.heap.size + 1) 0 [.string co, .int .i64 cn, .string cb, .string ci, .string cl, .int .i64 cs, .int .i64 cq, .int .i64 ct]) := Lib.hid (fun W hW => ⟨(HLI.out W (HOB.out.trans (hW.mono HOB.out.size))).1, range_cells (HXB.out W hW)⟩)
   have HWB := Lib.hid hwB
   clear hwB
   go_upto_region 4 with fail
   rw [← HWB.out]
   go_wp2_with fail
   refine lastW_region (S := (fun w' => w'.cell? ⟨w.heap.size, 8, none⟩ = some (.slice (h.A 8) (m) (h.c 8)) ∧ w'.rangeAt (w.heap.size + 1) 0 [.string co, .int .i64 cn, .string cb, .string ci, .string cl, .int .i64 cs, .int .i64 cq, .int .i64 ct])) (n := 6) (by kernel_rfl) ?_
   have ST5 := HST.out _ (Below.refl wB.heap.size wB).drew
   refine LastW.take (i := 1) (v := .pointer (some ⟨w.heap.size, 8, none⟩)) rfl (by kernel_rfl) (by kernel_rfl) (by kernel_rfl) (by kernel_rfl) (by decide) (fun _ _ _ h => h.elim) (.inl ⟨by kernel_rfl, fun w hw => by clear hw; go_simp⟩) ST5 ?_
   (try simp only [ax])
   refine LastW.take (i := 2) (v := .slice (h.A 8) (m) (h.c 8)) rfl (by kernel_rfl) (by kernel_rfl) (by kernel_rfl) (by kernel_rfl) (by decide) (fun _ _ _ h => h.elim) (.inl ⟨by kernel_rfl, fun w hw => by have hw := hw.1; go_simp⟩) ST5 ?_
   (try simp only [ax])
   refine LastW.take (i := 3) (v := .agg #[.string co, .int .i64 cn, .string cb, .string ci, .string cl, .int .i64 cs, .int .i64 cq, .int .i64 ct]) rfl (by kernel_rfl) (by kernel_rfl) (by kernel_rfl) (by kernel_rfl) (by decide) (fun _ _ _ h => h.elim) (yieldsIf_load_mid (by kernel_rfl) 46 (.tmp 3) rfl (w.heap.size + 1) 0 rfl [.string co, .int .i64 cn, .string cb, .string ci, .string cl, .int .i64 cs, .int .i64 cq, .int .i64 ct] _ (fun w h => h.2) huHX rfl HSHX.out) ST5 ?_
   (try simp only [ax])
   refine LastW.one (i := 0) (by kernel_rfl) rfl (fun K hK => ?_)
   go_simp
   refine (tabC_any _).mono ?_
   rintro e w7 ⟨rfl, hb7⟩
   have H7 := Lib.hid ((Below.refl wB.heap.size wB).drew.trans (hb7.mono (Below.refl wB.heap.size wB).drew.size))
   clear hb7
   refine hK.out _ _ (fun _ => HST.out _ H7.out) (fun _ => ?_)
   clear hK K
   (try simp only [ax])
   have H7W := Lib.hid (HOB.out.trans (H7.out.mono HOB.out.size))
   refine LastW.one (i := 4) (by kernel_rfl) rfl (fun K hK => ?_)
   go_simp
   refine (HPU.out _ (HBW.out _ H7W.out).1).mono ?_
   rintro e w8 ⟨A5, n5, p5, hl5, rfl, hown5, hb8⟩
   have H8 := Lib.hid (H7.out.trans (hb8.mono H7.out.size))
   have H8W := Lib.hid (HOB.out.trans (H8.out.mono HOB.out.size))
   have HO5 := Lib.hid hown5
   have HLE := Lib.hid hl5
   clear hb8 hown5 hl5
   refine hK.out _ _ (fun _ => HST.out _ H8.out) (fun _ => ?_)
   clear hK K
   (try simp only [ax])
   refine LastW.take (i := 5) (v := .pointer (some ⟨w.heap.size, 8, none⟩)) rfl (by kernel_rfl) (by kernel_rfl) (by kernel_rfl) (by kernel_rfl) (by decide) (fun _ _ _ h => h.elim) (.inl ⟨by kernel_rfl, fun w hw => by clear hw; go_simp⟩) (HST.out _ H8.out) ?_
   (try simp only [ax])
   refine LastW.one (i := 6) (by kernel_rfl) rfl (fun K hK => ?_)
   have c5 := (HLI.out _ H8W.out).1
   have f5 : w8.frozen? ⟨w.heap.size, 8, none⟩ = false := frozen_of_block (HH.out _ H8W.out)
   have HZ5 := Lib.hid (HZ.out _ H8W.out)
   have HH5 := Lib.hid (HH.out _ H8W.out)
   have HB5 := Lib.hid (HBW.out _ H8W.out)
   go_simp
   refine hK.out _ _ (fun h => absurd rfl h) (fun _ => ?_)
   clear hK K
   (try simp only [ax])
   refine LastW.done (by kernel_rfl) ?_ _
   refine NoPanic.normal ?_
   have H9 : Hid ((w8.setCell ⟨w.heap.size, 8, none⟩ (.slice A5 n5 p5)).heap[w.heap.size]? = some (.cells (h.set 8 A5 n5 p5).cells 37 (0, 0))) := Lib.hid (by rw [block_setCell HH5.out, h.set_cells _ _ _ 8 (by decide)])
   have HZ6 : Hid ((w8.setCell ⟨w.heap.size, 8, none⟩ (.slice A5 n5 p5)).heap[w.heap.size + 2]? = some (.cells Hs.zero 37 (0, 0))) := Lib.hid ((block_setCell_other (by omega) _).trans HZ5.out)
   have HB6 : Hid (Below w.heap.size w (w8.setCell ⟨w.heap.size, 8, none⟩ (.slice A5 n5 p5))) := Lib.hid (HB5.out.1.setCell (Nat.le_refl _) _)
   have HS4 : Hid (w.heap.size + 2 < w7.heap.size) := Lib.hid (by have := (HBW.out _ H7W.out).2; omega)
   have HO6 : Hid ((w8.setCell ⟨w.heap.size, 8, none⟩ (.slice A5 n5 p5)).ownsRow w7.heap.size 46 8 (.slice A5 n5 p5) n5 lx.flatten) := Lib.hid (own_far HO5.out (by have := HS4.out; simp; omega) (Nat.le_refl _))
   generalize w8.setCell ⟨w.heap.size, 8, none⟩ (.slice A5 n5 p5) = w6 at *
   go_wp2_with (first
    | (refine wpList_load_row rfl 37 (.tmp 2) rfl w.heap.size rfl _ _ _ _ H9.out huh rfl (HSH.out _) ?_)
    | (refine wpList_store_row rfl 37 (.tmp 4) (.tmp 21) rfl (w.heap.size + 2) (h.set 8 A5 n5 p5).cells rfl rfl _ _ HZ6.out (HSH.out _) rfl (H1C.out _) ?_)
    | fail)
   exact bodyPost_ret (results_cell_row rfl _ _ (w.heap.size + 2) _ _ _ _ rfl (setRow_heap _ _ _ _ _ _ HZ6.out) huh rfl (HSH.out _)) rfl ⟨setRow_below HB6.out (by omega) _, A5, n5, p5, HLE.out, own_rowed HO6.out HS4.out (by have := HS4.out; omega), rfl⟩
end Go.Proofs.YtlkmccmbpnbgbaaGreat

namespace Go.Proofs.YtlkmccmbpnbgbaaGreat
set_option linter.unusedVariables false
open Go.RowKit
open Pl (firstG firstG_none firstG_some findG overG putG dropG It)

set_option maxRecDepth 100000 in
set_option maxHeartbeats 3200000 in
theorem cclaim (h : Hs) (L : Nat → List (List Value)) (co : ByteArray) (cn : Int) (cb ci cl : ByteArray) (cs cq ct : Int) (w : World) (hh : HT h L w) (hn4 : h.n 8 ≤ 9000) (hc1 : h.n 8 ≤ h.c 8 ∧ h.c 8 ≤ 9223372036854775807) :
 Calls Tryz.prog 13 #[.agg h.cells, .agg #[.string co, .int .i64 cn, .string cb, .string ci, .string cl, .int .i64 cs, .int .i64 cq, .int .i64 ct]] w (PutP 46 8 8 (claimE (L 8) (Cl.mk co cn cb ci cl cs cq ct)) (claimL (L 8) (Cl.mk co cn cb ci cl cs cq ct)) h w) := by
 have HFIW := Lib.hid (fun W (hW : Below w.heap.size w W) => findClaim (h.A 8) (h.n 8) (h.c 8) 86 #[] ordClaim [.string co, .int .i64 cn, .string cb, .string ci, .string cl, .int .i64 cs, .int .i64 cq, .int .i64 ct] (L 8) W (hh 8 (by decide)).1 (by omega) (hh 8 (by decide)).2.2.1 (Cl.fits (Cl.mk co cn cb ci cl cs cq ct)) ((hh.below hW) 8 (by decide)).2.2.2 (tellsC W))
 have HEK : findG ordClaim (L 8) [.string co, .int .i64 cn, .string cb, .string ci, .string cl, .int .i64 cs, .int .i64 cq, .int .i64 ct] = atC (L 8) (Cl.mk co cn cb ci cl cs cq ct) := findG_atC (L 8) (Cl.mk co cn cb ci cl cs cq ct).cells
 rw [HEK] at HFIW
 clear HEK
 have HUP : Hid (∀ (q : Int) W, Below w.heap.size w W → Calls Tryz.prog 49 #[.agg h.cells, .agg #[.string co, .int .i64 cn, .string cb, .string ci, .string cl, .int .i64 cs, .int .i64 q, .int .i64 ct]] W fun e w' => Below W.heap.size W w' ∧ ∃ A n c, n = (upC (L 8) (Cl.mk co cn cb ci cl cs q ct)).length ∧ w'.ownsRow W.heap.size 46 8 (.slice A n c) n (upC (L 8) (Cl.mk co cn cb ci cl cs q ct)).flatten ∧ e = .returned (.agg (h.set 8 A n c).cells)) := Lib.hid (fun q W hW => cwithC h L co cn cb ci cl cs q ct W (hh.below hW) hn4 hc1)
 obtain ⟨m, hmm⟩ : ∃ m, h.n 8 = m := ⟨_, rfl⟩
 have hn := (hh 8 (by decide)).1
 rw [hmm] at hn HFIW
 have HNM := Lib.hid hn
 have HMM := Lib.hid hmm
 have HLL := Lib.hid (hh 8 (by decide)).2.2.1
 have HRR := Lib.hid (hh 8 (by decide)).2.2.2
 obtain ⟨er, her⟩ : ∃ e, claimE (L 8) (Cl.mk co cn cb ci cl cs cq ct) = e := ⟨_, rfl⟩
 obtain ⟨lx, hlx⟩ : ∃ l, claimL (L 8) (Cl.mk co cn cb ci cl cs cq ct) = l := ⟨_, rfl⟩
 obtain ⟨o, ho⟩ : ∃ o, atC (L 8) (Cl.mk co cn cb ci cl cs cq ct) = o := ⟨_, rfl⟩
 have HA : Hid (er = if o.isSome = true then 0 else if cq ≠ 0 ∧ 128 ≤ m then 14 else 0) := Lib.hid (by rw [← her, ← ho, hn]; rfl)
 have HLX : Hid (o = none → lx = upC (L 8) (Cl.mk co cn cb ci cl cs cq ct)) := Lib.hid (fun h1 => by rw [← hlx]; unfold claimL claimC; rw [ho, h1]; rfl)
 have HLY : Hid (∀ i, o = some i → lx = upC (L 8) (Cl.mk co cn cb ci cl cs (wrap64 (cq + (clOf ((L 8).getD i zeroClaim)).qty)) ct)) := Lib.hid (fun i h1 => by rw [← hlx]; unfold claimL claimC gotC; rw [ho, h1]; rfl)
 rw [her, hlx]
 rw [ho] at HFIW
 have HO := Lib.hid ho
 clear her hlx ho hmm hn hn4 hc1
 obtain ⟨W0, hW0⟩ : ∃ W0, W0 = (((w.alloc (.cells h.cells 37)).alloc (.cells #[.string co, .int .i64 cn, .string cb, .string ci, .string cl, .int .i64 cs, .int .i64 cq, .int .i64 ct] 46)).alloc (.cells #[.slice none 0 0, .slice none 0 0, .slice none 0 0, .slice none 0 0, .slice none 0 0, .slice none 0 0, .slice none 0 0, .slice none 0 0, .slice none 0 0, .slice none 0 0, .slice none 0 0, .slice none 0 0, .slice none 0 0, .slice none 0 0, .int .i64 0] 37)) := ⟨_, rfl⟩
 have hb0 : Below w.heap.size w W0 := by rw [hW0]; exact (((Below.refl _ _).alloc (Nat.le_refl _) _).alloc (by simp <;> omega) _).alloc (by simp <;> omega) _
 have hs0 : W0.heap.size = w.heap.size + 3 := by rw [hW0]; simp
 have HH : Hid (∀ W, Below W0.heap.size W0 W → W.heap[w.heap.size]? = some (.cells h.cells 37 (0, 0))) := Lib.hid (fun W hW => (hW.block _ (by omega)).trans (by
  rw [hW0]
  have hq := heap_alloc_new w (.cells h.cells 37)
  exact (Below.heap_alloc _ _ _ (by simp <;> omega)).trans ((Below.heap_alloc _ _ _ (by simp <;> omega)).trans ((by simpa using hq)))))
 have HX : Hid (∀ W, Below W0.heap.size W0 W → W.heap[w.heap.size + 1]? = some (.cells #[.string co, .int .i64 cn, .string cb, .string ci, .string cl, .int .i64 cs, .int .i64 cq, .int .i64 ct] 46 (0, 0))) := Lib.hid (fun W hW => (hW.block _ (by omega)).trans (by
  rw [hW0]
  have hq := heap_alloc_new (w.alloc (.cells h.cells 37)) (.cells #[.string co, .int .i64 cn, .string cb, .string ci, .string cl, .int .i64 cs, .int .i64 cq, .int .i64 ct] 46)
  exact (Below.heap_alloc _ _ _ (by simp <;> omega)).trans ((by simpa using hq))))
 have HZ : Hid (∀ W, Below W0.heap.size W0 W → W.heap[w.heap.size + 2]? = some (.cells Hs.zero 37 (0, 0))) := Lib.hid (fun W hW => (hW.block _ (by omega)).trans (by
  rw [hW0]
  have hq := heap_alloc_new ((w.alloc (.cells h.cells 37)).alloc (.cells #[.string co, .int .i64 cn, .string cb, .string ci, .string cl, .int .i64 cs, .int .i64 cq, .int .i64 ct] 46)) (.cells #[.slice none 0 0, .slice none 0 0, .slice none 0 0, .slice none 0 0, .slice none 0 0, .slice none 0 0, .slice none 0 0, .slice none 0 0, .slice none 0 0, .slice none 0 0, .slice none 0 0, .slice none 0 0, .slice none 0 0, .slice none 0 0, .int .i64 0] 37)
  exact (by simpa [Hs.zero] using hq)))
 have HBW : Hid (∀ W, Below W0.heap.size W0 W → Below w.heap.size w W ∧ w.heap.size + 3 ≤ W.heap.size) := Lib.hid (fun W hW => ⟨hb0.trans (hW.mono (by omega)), by have := hW.size; omega⟩)
 have huh := Tryz.underlying37
 have HSH : Hid (∀ a : Hs, (Tryz.prog.info? 37).map (·.size) = some a.cells.size) := Lib.hid (fun a => by kernel_rfl)
 have HSQ : Hid ((Tryz.prog.info? 37).map (·.size) = some Hs.zero.size) := Lib.hid (by kernel_rfl)
 have H1C : Hid (∀ a : Hs, a.cells.all (·.oneCell') = true) := Lib.hid (fun a => by simp [Hs.cells, Value.oneCell'])
 have H1Q : Hid (Hs.zero.all (·.oneCell') = true) := Lib.hid (by simp [Hs.zero, Value.oneCell'])
 have huHX := Tryz.underlying46
 have HSHX : Hid ((Tryz.prog.info? 46).map (·.size) = some 8) := Lib.hid (by kernel_rfl)
 have HCHX : Hid (∀ W, Below W0.heap.size W0 W → W.cell? ⟨w.heap.size + 1, 0, none⟩ = some (.string co) ∧ W.cell? ⟨w.heap.size + 1, 1, none⟩ = some (.int .i64 cn) ∧ W.cell? ⟨w.heap.size + 1, 2, none⟩ = some (.string cb) ∧ W.cell? ⟨w.heap.size + 1, 3, none⟩ = some (.string ci) ∧ W.cell? ⟨w.heap.size + 1, 4, none⟩ = some (.string cl) ∧ W.cell? ⟨w.heap.size + 1, 5, none⟩ = some (.int .i64 cs) ∧ W.cell? ⟨w.heap.size + 1, 6, none⟩ = some (.int .i64 cq) ∧ W.cell? ⟨w.heap.size + 1, 7, none⟩ = some (.int .i64 ct) ∧ w.heap.size + 1 < W.heap.size) := Lib.hid (fun W hW => ⟨by rw [cell_of_block (HX.out W hW)]; rfl, by rw [cell_of_block (HX.out W hW)]; rfl, by rw [cell_of_block (HX.out W hW)]; rfl, by rw [cell_of_block (HX.out W hW)]; rfl, by rw [cell_of_block (HX.out W hW)]; rfl, by rw [cell_of_block (HX.out W hW)]; rfl, by rw [cell_of_block (HX.out W hW)]; rfl, by rw [cell_of_block (HX.out W hW)]; rfl, by have := hW.size; omega⟩)
 have HL8 : Hid (∀ W, Below W0.heap.size W0 W → W.cell? ⟨w.heap.size, 8, none⟩ = some (.slice (h.A 8) m (h.c 8)) ∧ w.heap.size < W.heap.size) := Lib.hid (fun W hW => ⟨by rw [cell_of_block (HH.out W hW), ← HMM.out]; rfl, by have := hW.size; omega⟩)
 have H : Hid (Below W0.heap.size W0 W0.drew) := Lib.hid (Below.refl _ _).drew
 clear hb0 hs0 hh
 cases o with
 | none =>
  rw [firstV_none] at HFIW
  have HLE0 := Lib.hid (HLX.out rfl)
  go_enter Tryz.func13, Tryz.ntmps13
  go_wp2_with fail
  rw [← hW0]
  clear hW0
  go_region_held3 (fun w' => w'.cell? ⟨w.heap.size, 8, none⟩ = some (.slice (h.A 8) m (h.c 8)) ∧ w'.cell? ⟨w.heap.size + 1, 0, none⟩ = some (.string co) ∧ w'.cell? ⟨w.heap.size + 1, 1, none⟩ = some (.int .i64 cn) ∧ w'.cell? ⟨w.heap.size + 1, 2, none⟩ = some (.string cb) ∧ w'.cell? ⟨w.heap.size + 1, 3, none⟩ = some (.string ci) ∧ w'.cell? ⟨w.heap.size + 1, 4, none⟩ = some (.string cl) ∧ w'.cell? ⟨w.heap.size + 1, 5, none⟩ = some (.int .i64 cs) ∧ w'.cell? ⟨w.heap.size + 1, 6, none⟩ = some (.int .i64 cq) ∧ w'.cell? ⟨w.heap.size + 1, 7, none⟩ = some (.int .i64 ct))
   (first | exact ⟨(HL8.out _ H.out).1, (HCHX.out _ H.out).1, (HCHX.out _ H.out).2.1, (HCHX.out _ H.out).2.2.1, (HCHX.out _ H.out).2.2.2.1, (HCHX.out _ H.out).2.2.2.2.1, (HCHX.out _ H.out).2.2.2.2.2.1, (HCHX.out _ H.out).2.2.2.2.2.2.1, (HCHX.out _ H.out).2.2.2.2.2.2.2.1⟩)
   (first
    | (go_at_call 47; refine (tabC_any _).mono ?_; rintro e w0' ⟨rfl, hb'⟩; have H := Lib.hid (H.out.trans (hb'.mono H.out.size)); clear hb')
    | (go_at_call 48; refine (HFIW.out _ (HBW.out _ H.out).1).mono ?_; rintro e w1 ⟨rfl, hb'⟩; have H := Lib.hid (H.out.trans (hb'.mono H.out.size)); clear hb'))
  have H1 : Hid (Below W0.heap.size W0 w1) := Lib.hid H.out
  obtain ⟨d8, dlt⟩ := HL8.out _ H1.out
  obtain ⟨x0, x1, x2, x3, x4, x5, x6, x7, xlt⟩ := HCHX.out _ H1.out
  by_cases q1 : cq = 0
  · have b1 : (cq != 0) = false := by simpa using q1
    have HE : Hid (er = 0) := Lib.hid (by rw [HA.out]; simp [q1])
    clear q1
    have HH3 := Lib.hid (HH.out _ H1.out)
    have HX3 := Lib.hid (HX.out _ H1.out)
    have HZ3 := Lib.hid (HZ.out _ H1.out)
    have HB3 := Lib.hid (HBW.out _ H1.out).1
    have HS3 := Lib.hid (HBW.out _ H1.out).2
    go_upto_region 6 with fail
    clear d8 dlt x0 x1 x2 x3 x4 x5 x6 x7 xlt
    have HPU := Lib.hid (fun W hW => HUP.out cq W hW)
    rw [← HLE0.out] at HPU
    go_wp2_with (first
     | (refine wpList_load_row rfl 37 (.tmp 2) rfl w.heap.size rfl _ _ _ _ HH3.out huh rfl (HSH.out _) ?_)
     | (refine wpList_load_row rfl 46 (.tmp 3) rfl (w.heap.size + 1) rfl _ _ _ _ HX3.out huHX rfl HSHX.out ?_)
     | fail)
    refine (HPU.out _ HB3.out).mono ?_
    rintro e w4 ⟨hb9, A, n, cc, hl, hown, rfl⟩
    have HZ4 := Lib.hid ((hb9.block _ (lt_of_block HZ3.out)).trans HZ3.out)
    have HB4 := Lib.hid (HB3.out.trans (hb9.mono HB3.out.size))
    have HO9 := Lib.hid hown
    have HLE := Lib.hid hl
    clear hb9 hown hl
    go_wp2_with (first
     | (refine wpList_store_row rfl 37 (.tmp 4) (.tmp 43) rfl (w.heap.size + 2) (h.set 8 A n cc).cells rfl rfl _ _ HZ4.out (HSH.out _) rfl (H1C.out _) ?_)
     | fail)
    exact bodyPost_ret (results_row_tmp rfl _ _ (w.heap.size + 2) _ _ _ _ rfl (setRow_heap _ _ _ _ _ _ HZ4.out) huh rfl (HSH.out _)) rfl ⟨setRow_below HB4.out (by omega) _, .inr ⟨HE.out, A, n, cc, HLE.out, own_rowed HO9.out (by have := HS3.out; omega) (by have := HS3.out; omega), rfl⟩⟩
  · have b1 : (cq != 0) = true := by simpa using q1
    by_cases q2 : 128 ≤ m
    ·
     have HE : Hid (er = 14) := Lib.hid (by rw [HA.out]; simp [q1, q2])
     clear q1
     go_wp2_with (first
      | (refine wpList_store_row rfl 37 (.tmp 4) (.tmp 29) rfl (w.heap.size + 2) Hs.zero rfl rfl _ _ (HZ.out _ H1.out) HSQ.out rfl H1Q.out ?_)
      | fail)
     exact bodyPost_ret (results_row_tmp rfl _ _ (w.heap.size + 2) _ _ _ _ rfl (setRow_heap _ _ _ _ _ _ (HZ.out _ H1.out)) huh rfl HSQ.out) rfl ⟨setRow_below (HBW.out _ H1.out).1 (by omega) _, .inl ⟨by rw [HE.out]; decide, by rw [HE.out]; rfl⟩⟩
    · have HE : Hid (er = 0) := Lib.hid (by rw [HA.out]; simp [q2])
      clear q1
      have HH3 := Lib.hid (HH.out _ H1.out)
      have HX3 := Lib.hid (HX.out _ H1.out)
      have HZ3 := Lib.hid (HZ.out _ H1.out)
      have HB3 := Lib.hid (HBW.out _ H1.out).1
      have HS3 := Lib.hid (HBW.out _ H1.out).2
      go_upto_region 6 with fail
      clear d8 dlt x0 x1 x2 x3 x4 x5 x6 x7 xlt
      have HPU := Lib.hid (fun W hW => HUP.out cq W hW)
      rw [← HLE0.out] at HPU
      go_wp2_with (first
       | (refine wpList_load_row rfl 37 (.tmp 2) rfl w.heap.size rfl _ _ _ _ HH3.out huh rfl (HSH.out _) ?_)
       | (refine wpList_load_row rfl 46 (.tmp 3) rfl (w.heap.size + 1) rfl _ _ _ _ HX3.out huHX rfl HSHX.out ?_)
       | fail)
      refine (HPU.out _ HB3.out).mono ?_
      rintro e w4 ⟨hb9, A, n, cc, hl, hown, rfl⟩
      have HZ4 := Lib.hid ((hb9.block _ (lt_of_block HZ3.out)).trans HZ3.out)
      have HB4 := Lib.hid (HB3.out.trans (hb9.mono HB3.out.size))
      have HO9 := Lib.hid hown
      have HLE := Lib.hid hl
      clear hb9 hown hl
      go_wp2_with (first
       | (refine wpList_store_row rfl 37 (.tmp 4) (.tmp 43) rfl (w.heap.size + 2) (h.set 8 A n cc).cells rfl rfl _ _ HZ4.out (HSH.out _) rfl (H1C.out _) ?_)
       | fail)
      exact bodyPost_ret (results_row_tmp rfl _ _ (w.heap.size + 2) _ _ _ _ rfl (setRow_heap _ _ _ _ _ _ HZ4.out) huh rfl (HSH.out _)) rfl ⟨setRow_below HB4.out (by omega) _, .inr ⟨HE.out, A, n, cc, HLE.out, own_rowed HO9.out (by have := HS3.out; omega) (by have := HS3.out; omega), rfl⟩⟩
  | some i =>
   rw [firstV_some] at HFIW
   have HE : Hid (er = 0) := Lib.hid (by rw [HA.out]; rfl)
   have hl : i < (L 8).length := Pl.firstG_lt HO.out
   have hin : i < m := by rw [HNM.out]; exact hl
   obtain ⟨b, off, hA, hb, hc⟩ := HRR.out.thing HLL.out (by decide) hl
   have fx := HLL.out _ (List.getElem_mem hl)
   have r1 := hc i hl
   rw [show (kOf 8).length = 8 from rfl] at r1
   obtain ⟨y, hy⟩ : ∃ y, clOf (L 8)[i] = y := ⟨_, rfl⟩
   have hcells := cl_cells fx
   rw [hy] at hcells
   have hyg : clOf ((L 8).getD i zeroClaim) = y := by rw [List.getD_eq_getElem?_getD, List.getElem?_eq_getElem hl]; exact hy
   have HLE0 : Hid (lx = upC (L 8) (Cl.mk co cn cb ci cl cs (wrap64 (cq + y.qty)) ct)) := Lib.hid (by have := HLY.out i rfl; rwa [hyg] at this)
   have HYQ : Hid (∀ W, Below W0.heap.size W0 W → W.cell? ⟨b, off + i * 8 + 6, none⟩ = some (.int .i64 y.qty)) := Lib.hid (fun W hW => (rangeAt_below r1 hb (HBW.out W hW).1) 6 _ (by rw [hcells]; rfl))
   have HBL := Lib.hid hb
   have h1 : (0 : Int) ≤ (i : Int) := by omega
   have h2 : (i : Int) < (m : Int) := by omega
   rw [hA] at HL8 HFIW
   clear hc r1 fx hb hA hl hcells hyg hy
   go_enter Tryz.func13, Tryz.ntmps13
   go_wp2_with fail
   rw [← hW0]
   clear hW0
   go_region_held3 (fun w' => w'.cell? ⟨w.heap.size, 8, none⟩ = some (.slice (some ⟨b, off, none⟩) m (h.c 8)) ∧ w'.cell? ⟨w.heap.size + 1, 0, none⟩ = some (.string co) ∧ w'.cell? ⟨w.heap.size + 1, 1, none⟩ = some (.int .i64 cn) ∧ w'.cell? ⟨w.heap.size + 1, 2, none⟩ = some (.string cb) ∧ w'.cell? ⟨w.heap.size + 1, 3, none⟩ = some (.string ci) ∧ w'.cell? ⟨w.heap.size + 1, 4, none⟩ = some (.string cl) ∧ w'.cell? ⟨w.heap.size + 1, 5, none⟩ = some (.int .i64 cs) ∧ w'.cell? ⟨w.heap.size + 1, 6, none⟩ = some (.int .i64 cq) ∧ w'.cell? ⟨w.heap.size + 1, 7, none⟩ = some (.int .i64 ct))
    (first | exact ⟨(HL8.out _ H.out).1, (HCHX.out _ H.out).1, (HCHX.out _ H.out).2.1, (HCHX.out _ H.out).2.2.1, (HCHX.out _ H.out).2.2.2.1, (HCHX.out _ H.out).2.2.2.2.1, (HCHX.out _ H.out).2.2.2.2.2.1, (HCHX.out _ H.out).2.2.2.2.2.2.1, (HCHX.out _ H.out).2.2.2.2.2.2.2.1⟩)
    (first
     | (go_at_call 47; refine (tabC_any _).mono ?_; rintro e w0' ⟨rfl, hb'⟩; have H := Lib.hid (H.out.trans (hb'.mono H.out.size)); clear hb')
     | (go_at_call 48; refine (HFIW.out _ (HBW.out _ H.out).1).mono ?_; rintro e w1 ⟨rfl, hb'⟩; have H := Lib.hid (H.out.trans (hb'.mono H.out.size)); clear hb'))
   have H1 : Hid (Below W0.heap.size W0 w1) := Lib.hid H.out
   obtain ⟨d8, dlt⟩ := HL8.out _ H1.out
   obtain ⟨x0, x1, x2, x3, x4, x5, x6, x7, xlt⟩ := HCHX.out _ H1.out
   go_upto_region 5 with fail
   clear d8 dlt x0 x1 x2 x3 x4 x5 x6 x7 xlt
   have H1T : Hid (∀ W, Below w1.heap.size w1 W → Below W0.heap.size W0 W) := Lib.hid (fun W hW => H1.out.trans (hW.mono H1.out.size))
   have HST : Hid (∀ W, Below w1.heap.size w1 W → W.cell? ⟨w.heap.size + 1, 6, none⟩ = some (.int .i64 cq) ∧ W.cell? ⟨w.heap.size, 8, none⟩ = some (.slice (some ⟨b, off, none⟩) m (h.c 8)) ∧ W.cell? ⟨b, off + i * 8 + 6, none⟩ = some (.int .i64 y.qty)) := Lib.hid (fun W hW => ⟨(HCHX.out _ (H1T.out _ hW)).2.2.2.2.2.2.1, (HL8.out _ (H1T.out _ hW)).1, HYQ.out _ (H1T.out _ hW)⟩)
   have BN0 := Lib.hid (Below.refl w1.heap.size w1).drew
   refine lastN_region (S := (fun w' => w'.cell? ⟨w.heap.size + 1, 6, none⟩ = some (.int .i64 cq) ∧ w'.cell? ⟨w.heap.size, 8, none⟩ = some (.slice (some ⟨b, off, none⟩) m (h.c 8)) ∧ w'.cell? ⟨b, off + i * 8 + 6, none⟩ = some (.int .i64 y.qty))) (n := 10) (by kernel_rfl) ?_
   refine LastN.pure (i := 0) (v := .pointer (some ⟨w.heap.size + 1, 6, none⟩)) rfl (by kernel_rfl) (by kernel_rfl) (by kernel_rfl) (by decide) (fun _ _ _ h => h.elim) (.inl ⟨by kernel_rfl, fun w hw => by clear hw; go_simp⟩) (fun _ => HST.out _ BN0.out) ?_
   (try simp only [ax])
   refine LastN.take (i := 1) (v := .int .i64 cq) rfl (by kernel_rfl) (by kernel_rfl) (by kernel_rfl) (by kernel_rfl) (by kernel_rfl) (by decide) (fun _ _ _ h => h.elim) (.inl ⟨by kernel_rfl, fun w h => by have hw := h.1; clear h; go_simp⟩) (HST.out _ BN0.out) ?_
   (try simp only [ax])
   refine LastN.pure (i := 2) (v := .pointer (some ⟨w.heap.size, 8, none⟩)) rfl (by kernel_rfl) (by kernel_rfl) (by kernel_rfl) (by decide) (fun _ _ _ h => h.elim) (.inl ⟨by kernel_rfl, fun w hw => by clear hw; go_simp⟩) (fun _ => HST.out _ BN0.out) ?_
   (try simp only [ax])
   refine LastN.take (i := 3) (v := .slice (some ⟨b, off, none⟩) m (h.c 8)) rfl (by kernel_rfl) (by kernel_rfl) (by kernel_rfl) (by kernel_rfl) (by kernel_rfl) (by decide) (fun _ _ _ h => h.elim) (.inl ⟨by kernel_rfl, fun w h => by have hw := h.2.1; clear h; go_simp⟩) (HST.out _ BN0.out) ?_
   (try simp only [ax])
   refine LastN.pure (i := 4) (v := .int .i64 (i : Int)) rfl (by kernel_rfl) (by kernel_rfl) (by kernel_rfl) (by decide) (fun _ _ _ h => h.elim) (.inl ⟨by kernel_rfl, fun w hw => by clear hw; go_simp⟩) (fun _ => HST.out _ BN0.out) ?_
   (try simp only [ax])
   refine LastN.pure (i := 5) (v := .pointer (some ⟨b, off + i * 8, none⟩)) rfl (by kernel_rfl) (by kernel_rfl) (by kernel_rfl) (by decide) (fun _ _ _ h => h.elim) (.inl ⟨by kernel_rfl, fun w hw => by clear hw; go_simp⟩) (fun _ => HST.out _ BN0.out) ?_
   (try simp only [ax])
   refine LastN.pure (i := 6) (v := .pointer (some ⟨b, off + i * 8 + 6, none⟩)) rfl (by kernel_rfl) (by kernel_rfl) (by kernel_rfl) (by decide) (fun _ _ _ h => h.elim) (.inl ⟨by kernel_rfl, fun w hw => by clear hw; go_simp⟩) (fun _ => HST.out _ BN0.out) ?_
   (try simp only [ax])
   refine LastN.take (i := 7) (v := .int .i64 y.qty) rfl (by kernel_rfl) (by kernel_rfl) (by kernel_rfl) (by kernel_rfl) (by kernel_rfl) (by decide) (fun _ _ _ h => h.elim) (.inl ⟨by kernel_rfl, fun w h => by have hw := h.2.2; clear h; go_simp⟩) (HST.out _ BN0.out) ?_
   (try simp only [ax])
   refine LastN.pure (i := 8) (v := .int .i64 (wrap64 (cq + y.qty))) rfl (by kernel_rfl) (by kernel_rfl) (by kernel_rfl) (by decide) (fun _ _ _ h => h.elim) (.inl ⟨by kernel_rfl, fun w hw => by clear hw; go_simp <;> exact i64_wrap _⟩) (fun _ => HST.out _ BN0.out) ?_
   (try simp only [ax])
   refine LastN.pure (i := 9) (v := .pointer (some ⟨w.heap.size + 1, 6, none⟩)) rfl (by kernel_rfl) (by kernel_rfl) (by kernel_rfl) (by decide) (fun _ _ _ h => h.elim) (.inl ⟨by kernel_rfl, fun w hw => by clear hw; go_simp⟩) (fun _ => HST.out _ BN0.out) ?_
   (try simp only [ax])
   refine LastN.one (i := 10) (by kernel_rfl) rfl (fun K hK => ?_)
   have c5 := (HST.out _ BN0.out).1
   have f5 : w1.drew.frozen? ⟨w.heap.size + 1, 6, none⟩ = false := frozen_of_block (HX.out _ (H1T.out _ BN0.out))
   have l5 : w.heap.size + 1 < w1.drew.heap.size := lt_of_block (HX.out _ (H1T.out _ BN0.out))
   go_simp
   refine hK.out _ _ (fun _ h => absurd rfl h) (fun _ => ?_)
   clear hK K
   (try simp only [ax])
   refine LastN.done (by kernel_rfl) ?_ _
   refine NoPanic.normal ?_
   clear HST
   have HD1 := Lib.hid (H1T.out _ BN0.out)
   obtain ⟨w3, hw3⟩ : ∃ W, W = (w1.setCell ⟨w.heap.size + 1, 6, none⟩ (.int .i64 (wrap64 (cq + y.qty)))).drew := ⟨_, rfl⟩
   rw [← hw3]
   replace hw3 : w3 = w1.drew.setCell ⟨w.heap.size + 1, 6, none⟩ (.int .i64 (wrap64 (cq + y.qty))) := by rw [hw3]; first | rfl | simp [go_sem]
   have HH3 : Hid (w3.heap[w.heap.size]? = some (.cells h.cells 37 (0, 0))) := Lib.hid (by rw [hw3]; exact (block_setCell_other (by omega) _).trans (HH.out _ HD1.out))
   have HX3 : Hid (w3.heap[w.heap.size + 1]? = some (.cells #[.string co, .int .i64 cn, .string cb, .string ci, .string cl, .int .i64 cs, .int .i64 (wrap64 (cq + y.qty)), .int .i64 ct] 46 (0, 0))) := Lib.hid (by rw [hw3, block_setCell (HX.out _ HD1.out)]; rfl)
   have HZ3 : Hid (w3.heap[w.heap.size + 2]? = some (.cells Hs.zero 37 (0, 0))) := Lib.hid (by rw [hw3]; exact (block_setCell_other (by omega) _).trans (HZ.out _ HD1.out))
   have HB3 : Hid (Below w.heap.size w w3) := Lib.hid (by rw [hw3]; exact (HBW.out _ HD1.out).1.setCell (by show w.heap.size ≤ w.heap.size + 1; omega) _)
   have HS3 : Hid (w.heap.size + 3 ≤ w3.heap.size) := Lib.hid (by rw [hw3]; simpa [World.setCell] using (HBW.out _ HD1.out).2)
   clear hw3
   have HPU := Lib.hid (fun W hW => HUP.out (wrap64 (cq + y.qty)) W hW)
   rw [← HLE0.out] at HPU
   go_wp2_with (first
    | (refine wpList_load_row rfl 37 (.tmp 2) rfl w.heap.size rfl _ _ _ _ HH3.out huh rfl (HSH.out _) ?_)
    | (refine wpList_load_row rfl 46 (.tmp 3) rfl (w.heap.size + 1) rfl _ _ _ _ HX3.out huHX rfl HSHX.out ?_)
    | fail)
   refine (HPU.out _ HB3.out).mono ?_
   rintro e w4 ⟨hb9, A, n, cc, hl, hown, rfl⟩
   have HZ4 := Lib.hid ((hb9.block _ (lt_of_block HZ3.out)).trans HZ3.out)
   have HB4 := Lib.hid (HB3.out.trans (hb9.mono HB3.out.size))
   have HO9 := Lib.hid hown
   have HLE := Lib.hid hl
   clear hb9 hown hl
   go_wp2_with (first
    | (refine wpList_store_row rfl 37 (.tmp 4) (.tmp 43) rfl (w.heap.size + 2) (h.set 8 A n cc).cells rfl rfl _ _ HZ4.out (HSH.out _) rfl (H1C.out _) ?_)
    | fail)
   exact bodyPost_ret (results_row_tmp rfl _ _ (w.heap.size + 2) _ _ _ _ rfl (setRow_heap _ _ _ _ _ _ HZ4.out) huh rfl (HSH.out _)) rfl ⟨setRow_below HB4.out (by omega) _, .inr ⟨HE.out, A, n, cc, HLE.out, own_rowed HO9.out (by have := HS3.out; omega) (by have := HS3.out; omega), rfl⟩⟩
end Go.Proofs.YtlkmccmbpnbgbaaGreat
