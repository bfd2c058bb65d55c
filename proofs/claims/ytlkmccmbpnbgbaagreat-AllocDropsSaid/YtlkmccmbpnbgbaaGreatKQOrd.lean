/-
 CONTRACT of the code's order of quants. (By wip/tools/gen_ord.py.)
-/
import Derived.Test.YtlkmccmbpnbgbaaGreatOPl
import Derived.Test.YtlkmccmbpnbgbaaGreatJHead
import Derived.Test.YtlkmccmbpnbgbaaGreatGT
import Derived.Deep.RegionHeld3
namespace Go.Proofs.YtlkmccmbpnbgbaaGreat
set_option linter.unusedVariables false
open Go.RowKit

theorem cmps_cons (a b : ByteArray) (l r : List ByteArray) : cmps (a :: l) (b :: r) = if Pl.cmp a b = 0 then cmps l r else Pl.cmp a b := by
 have hc : cmps (a :: l) (b :: r) = if Pl.lt a b = true then -1 else if Pl.lt b a = true then 1 else cmps l r := rfl
 have h1 := cmps_one a b
 have h2 : cmps [a] [b] = if Pl.lt a b = true then -1 else if Pl.lt b a = true then 1 else 0 := rfl
 rw [h2] at h1
 rw [hc, ← h1]
 by_cases x : Pl.lt a b = true
 · simp [x]
 · by_cases y : Pl.lt b a = true
   · simp [x, y]
   · simp [x, y]
theorem ordKy_or (a b : Ky) : ordKy a b = firstNZ [Pl.cmp a.bin b.bin, Pl.cmp a.item b.item, Pl.cmp a.lot b.lot, cmpI a.st b.st] := by
 unfold ordKy
 rw [cmps_cons, cmps_cons, cmps_cons, show cmps [] [] = 0 from rfl]
 simp only [firstNZ]
 by_cases h1 : Pl.cmp a.bin b.bin = 0
 · by_cases h2 : Pl.cmp a.item b.item = 0
   · by_cases h3 : Pl.cmp a.lot b.lot = 0
     · by_cases h4 : cmpI a.st b.st = 0
       · simp [h1, h2, h3, h4]
       · simp [h1, h2, h3, h4]
     · simp [h1, h2, h3]
   · simp [h1, h2]
 · simp [h1]
set_option maxRecDepth 100000 in
set_option maxHeartbeats 1600000 in
theorem orderQ_any (x y : List Value) (w : World) (hx : Fits kQuant x) (hy : Fits kQuant y) : Calls Tryz.prog 162 #[.agg x.toArray, .agg y.toArray] w fun e w' => e = .returned (.int .i64 (ordQuant x y)) ∧ Below w.heap.size w w' := by
 have hxr := qn_cells hx
 have hyr := qn_cells hy
 have HV : Hid (ordQuant x y = firstNZ [Pl.cmp (qnOf x).bin (qnOf y).bin, Pl.cmp (qnOf x).item (qnOf y).item, Pl.cmp (qnOf x).lot (qnOf y).lot, cmpI (qnOf x).st (qnOf y).st]) := Lib.hid (ordKy_or _ _)
 obtain ⟨p, hp⟩ : ∃ p, qnOf x = p := ⟨_, rfl⟩
 obtain ⟨q, hq⟩ : ∃ q, qnOf y = q := ⟨_, rfl⟩
 rw [hp] at hxr HV
 rw [hq] at hyr HV
 obtain ⟨v, hv⟩ : ∃ v, ordQuant x y = v := ⟨_, rfl⟩
 rw [hv] at HV ⊢
 subst hxr hyr
 clear hp hq hx hy hv
 obtain ⟨pb, pi, pl, ps, pq, ph⟩ := p
 obtain ⟨qb, qi, ql, qs, qq, qh⟩ := q
 unfold Qn.cells
 simp only [] at HV ⊢
 obtain ⟨W0, hW0⟩ : ∃ W0, W0 = ((w.alloc (.cells #[.string pb, .string pi, .string pl, .int .i64 ps, .int .i64 pq, .int .i64 ph] 62)).alloc (.cells #[.string qb, .string qi, .string ql, .int .i64 qs, .int .i64 qq, .int .i64 qh] 62)) := ⟨_, rfl⟩
 have B0 : Hid (Below w.heap.size w W0) := Lib.hid (by rw [hW0]; exact ((Below.refl _ _).alloc (Nat.le_refl _) _).alloc (by simp <;> omega) _)
 have HX0 : Hid (W0.heap[w.heap.size]? = some (.cells #[.string pb, .string pi, .string pl, .int .i64 ps, .int .i64 pq, .int .i64 ph] 62 (0, 0))) := Lib.hid (by
  rw [hW0]
  have hq := heap_alloc_new w (.cells #[.string pb, .string pi, .string pl, .int .i64 ps, .int .i64 pq, .int .i64 ph] 62)
  exact (Below.heap_alloc _ _ _ (by simp <;> omega)).trans (by simpa using hq))
 have HY0 : Hid (W0.heap[w.heap.size + 1]? = some (.cells #[.string qb, .string qi, .string ql, .int .i64 qs, .int .i64 qq, .int .i64 qh] 62 (0, 0))) := Lib.hid (by
  rw [hW0]
  have hq := heap_alloc_new (w.alloc (.cells #[.string pb, .string pi, .string pl, .int .i64 ps, .int .i64 pq, .int .i64 ph] 62)) (.cells #[.string qb, .string qi, .string ql, .int .i64 qs, .int .i64 qq, .int .i64 qh] 62)
  exact by simpa using hq)
 have huh := Tryz.underlying37
 have HSH : Hid (∀ a : Hs, (Tryz.prog.info? 37).map (·.size) = some a.cells.size) := Lib.hid (fun a => by kernel_rfl)
 have HSHL : Hid (∀ a : Hs, (Tryz.prog.info? 37).map (·.size) = some a.cells.toList.length) := Lib.hid (fun a => by kernel_rfl)
 have H1C : Hid (∀ a : Hs, a.cells.all (·.oneCell') = true) := Lib.hid (fun a => by simp [Hs.cells, Value.oneCell'])
 have huQuant := Tryz.underlying62
 have HSQuant : Hid ((Tryz.prog.info? 62).map (·.size) = some 6) := Lib.hid (by kernel_rfl)
 obtain ⟨w1, hw1⟩ : ∃ w1, w1 = W0 := ⟨_, rfl⟩
 have HX1 := HX0
 have HY1 := HY0
 have B1 := B0
 rw [← hw1] at HX1 HY1 B1
 have hsz : w.heap.size + 2 ≤ w1.heap.size := by rw [hw1, hW0]; simp
 have HBX : Hid (w.heap.size + 2 ≤ w1.heap.size) := Lib.hid hsz
 clear HX0 HY0 B0 hsz
 skip
 subst hW0
 go_enter Tryz.func162, Tryz.ntmps162
 go_wp2_with fail
 rw [← hw1]
 clear hw1
 have HST : Hid (∀ X, Below w1.heap.size w1 X → X.cell? ⟨w.heap.size, 0, none⟩ = some (.string pb) ∧ X.cell? ⟨(w.heap.size + 1), 0, none⟩ = some (.string qb) ∧ X.cell? ⟨w.heap.size, 1, none⟩ = some (.string pi) ∧ X.cell? ⟨(w.heap.size + 1), 1, none⟩ = some (.string qi) ∧ X.cell? ⟨w.heap.size, 2, none⟩ = some (.string pl) ∧ X.cell? ⟨(w.heap.size + 1), 2, none⟩ = some (.string ql) ∧ X.cell? ⟨w.heap.size, 3, none⟩ = some (.int .i64 ps) ∧ X.cell? ⟨(w.heap.size + 1), 3, none⟩ = some (.int .i64 qs)) := Lib.hid (fun X hX => ⟨(by rw [cell_of_block ((hX.block _ (lt_of_block HX1.out)).trans HX1.out)]; rfl), (by rw [cell_of_block ((hX.block _ (lt_of_block HY1.out)).trans HY1.out)]; rfl), (by rw [cell_of_block ((hX.block _ (lt_of_block HX1.out)).trans HX1.out)]; rfl), (by rw [cell_of_block ((hX.block _ (lt_of_block HY1.out)).trans HY1.out)]; rfl), (by rw [cell_of_block ((hX.block _ (lt_of_block HX1.out)).trans HX1.out)]; rfl), (by rw [cell_of_block ((hX.block _ (lt_of_block HY1.out)).trans HY1.out)]; rfl), (by rw [cell_of_block ((hX.block _ (lt_of_block HX1.out)).trans HX1.out)]; rfl), (by rw [cell_of_block ((hX.block _ (lt_of_block HY1.out)).trans HY1.out)]; rfl)⟩)
 have BN := Lib.hid (Below.refl w1.heap.size w1).drew
 have ST0 := HST.out _ BN.out
 refine wp_region_noPanic ?_
 refine wp_region_held_drew (S := (fun w' => w'.cell? ⟨w.heap.size, 0, none⟩ = some (.string pb) ∧ w'.cell? ⟨(w.heap.size + 1), 0, none⟩ = some (.string qb) ∧ w'.cell? ⟨w.heap.size, 1, none⟩ = some (.string pi) ∧ w'.cell? ⟨(w.heap.size + 1), 1, none⟩ = some (.string qi) ∧ w'.cell? ⟨w.heap.size, 2, none⟩ = some (.string pl) ∧ w'.cell? ⟨(w.heap.size + 1), 2, none⟩ = some (.string ql) ∧ w'.cell? ⟨w.heap.size, 3, none⟩ = some (.int .i64 ps) ∧ w'.cell? ⟨(w.heap.size + 1), 3, none⟩ = some (.int .i64 qs))) (by kernel_rfl) ST0 (fun dd0 => ?_)
 refine tkE 0 (.pointer (some ⟨w.heap.size, 0, none⟩)) rfl ?_
 (try simp only [ax])
 refine tkE 1 (.pointer (some ⟨w.heap.size, 0, none⟩)) rfl ?_
 (try simp only [ax])
 refine tkF 2 (.string pb) rfl (.inl ⟨by kernel_rfl, fun w h => by have hw := h.1; clear h; go_simp⟩) ?_
 (try simp only [ax])
 refine tkE 3 (.pointer (some ⟨(w.heap.size + 1), 0, none⟩)) rfl ?_
 (try simp only [ax])
 refine tkE 4 (.pointer (some ⟨(w.heap.size + 1), 0, none⟩)) rfl ?_
 (try simp only [ax])
 refine tkF 5 (.string qb) rfl (.inl ⟨by kernel_rfl, fun w h => by have hw := h.2.1; clear h; go_simp⟩) ?_
 (try simp only [ax])
 refine tkE 7 (.pointer (some ⟨w.heap.size, 0, none⟩)) rfl ?_
 (try simp only [ax])
 refine tkE 8 (.pointer (some ⟨w.heap.size, 1, none⟩)) rfl ?_
 (try simp only [ax])
 refine tkF 9 (.string pi) rfl (.inl ⟨by kernel_rfl, fun w h => by have hw := h.2.2.1; clear h; go_simp⟩) ?_
 (try simp only [ax])
 refine tkE 10 (.pointer (some ⟨(w.heap.size + 1), 0, none⟩)) rfl ?_
 (try simp only [ax])
 refine tkE 11 (.pointer (some ⟨(w.heap.size + 1), 1, none⟩)) rfl ?_
 (try simp only [ax])
 refine tkF 12 (.string qi) rfl (.inl ⟨by kernel_rfl, fun w h => by have hw := h.2.2.2.1; clear h; go_simp⟩) ?_
 (try simp only [ax])
 refine tkE 14 (.pointer (some ⟨w.heap.size, 0, none⟩)) rfl ?_
 (try simp only [ax])
 refine tkE 15 (.pointer (some ⟨w.heap.size, 2, none⟩)) rfl ?_
 (try simp only [ax])
 refine tkF 16 (.string pl) rfl (.inl ⟨by kernel_rfl, fun w h => by have hw := h.2.2.2.2.1; clear h; go_simp⟩) ?_
 (try simp only [ax])
 refine tkE 17 (.pointer (some ⟨(w.heap.size + 1), 0, none⟩)) rfl ?_
 (try simp only [ax])
 refine tkE 18 (.pointer (some ⟨(w.heap.size + 1), 2, none⟩)) rfl ?_
 (try simp only [ax])
 refine tkF 19 (.string ql) rfl (.inl ⟨by kernel_rfl, fun w h => by have hw := h.2.2.2.2.2.1; clear h; go_simp⟩) ?_
 (try simp only [ax])
 refine tkE 21 (.pointer (some ⟨w.heap.size, 0, none⟩)) rfl ?_
 (try simp only [ax])
 refine tkE 22 (.pointer (some ⟨w.heap.size, 3, none⟩)) rfl ?_
 (try simp only [ax])
 refine tkF 23 (.int .i64 ps) rfl (.inl ⟨by kernel_rfl, fun w h => by have hw := h.2.2.2.2.2.2.1; clear h; go_simp⟩) ?_
 (try simp only [ax])
 refine tkE 24 (.pointer (some ⟨(w.heap.size + 1), 0, none⟩)) rfl ?_
 (try simp only [ax])
 refine tkE 25 (.pointer (some ⟨(w.heap.size + 1), 3, none⟩)) rfl ?_
 (try simp only [ax])
 refine tkF 26 (.int .i64 qs) rfl (.inl ⟨by kernel_rfl, fun w h => by have hw := h.2.2.2.2.2.2.2; clear h; go_simp⟩) ?_
 (try simp only [ax])
 refine wpAnyH_ready (rs := [6]) (by kernel_rfl) (by simp) ?_
 refine AllReadyH.cons rfl (fun K' hK => ?_) AllReadyH.nil
 go_simp
 refine ((same_below (compare_any pb qb _))).mono ?_
 rintro e wn ⟨rfl, hbn⟩
 have BN := Lib.hid (BN.out.trans (hbn.mono BN.out.size))
 clear hbn
 refine hK.out _ _ (HST.out _ BN.out) (fun _ => ?_)
 clear hK K'
 (try simp only [ax])
 refine wpAnyH_ready (rs := [13]) (by kernel_rfl) (by simp) ?_
 refine AllReadyH.cons rfl (fun K' hK => ?_) AllReadyH.nil
 go_simp
 refine ((same_below (compare_any pi qi _))).mono ?_
 rintro e wn ⟨rfl, hbn⟩
 have BN := Lib.hid (BN.out.trans (hbn.mono BN.out.size))
 clear hbn
 refine hK.out _ _ (HST.out _ BN.out) (fun _ => ?_)
 clear hK K'
 (try simp only [ax])
 refine wpAnyH_ready (rs := [20]) (by kernel_rfl) (by simp) ?_
 refine AllReadyH.cons rfl (fun K' hK => ?_) AllReadyH.nil
 go_simp
 refine ((same_below (compare_any pl ql _))).mono ?_
 rintro e wn ⟨rfl, hbn⟩
 have BN := Lib.hid (BN.out.trans (hbn.mono BN.out.size))
 clear hbn
 refine hK.out _ _ (HST.out _ BN.out) (fun _ => ?_)
 clear hK K'
 (try simp only [ax])
 refine wpAnyH_ready (rs := [27]) (by kernel_rfl) (by simp) ?_
 refine AllReadyH.cons rfl (fun K' hK => ?_) AllReadyH.nil
 go_simp
 refine ((same_below (compareI_any ps qs _))).mono ?_
 rintro e wn ⟨rfl, hbn⟩
 have BN := Lib.hid (BN.out.trans (hbn.mono BN.out.size))
 clear hbn
 refine hK.out _ _ (HST.out _ BN.out) (fun _ => ?_)
 clear hK K'
 (try simp only [ax])
 refine wpAnyH_ready (rs := [28]) (by kernel_rfl) (by simp) ?_
 refine AllReadyH.cons rfl (fun K' hK => ?_) AllReadyH.nil
 go_simp
 obtain ⟨wb28, hwb⟩ : ∃ W, W = (wn.alloc (.cells #[.int .i64 (Pl.cmp pb qb), .int .i64 (Pl.cmp pi qi), .int .i64 (Pl.cmp pl ql), .int .i64 (cmpI ps qs)] 3)) := ⟨_, rfl⟩
 obtain ⟨gb28, hgb⟩ : ∃ g, g = wn.heap.size := ⟨_, rfl⟩
 have HBS28 : Hid (Rd wb28 wb28.heap.size (some ⟨gb28, 0, none⟩) [.int .i64 (Pl.cmp pb qb), .int .i64 (Pl.cmp pi qi), .int .i64 (Pl.cmp pl ql), .int .i64 (cmpI ps qs)]) := Lib.hid (by rw [hwb, hgb]; exact (rd_one wn [.int .i64 (Pl.cmp pb qb), .int .i64 (Pl.cmp pi qi), .int .i64 (Pl.cmp pl ql), .int .i64 (cmpI ps qs)] 3).mono (by simp))
 have hbn : Below wn.heap.size wn wb28 := by rw [hwb]; exact ((Below.refl _ _).alloc (Nat.le_refl _) _)
 have BN := Lib.hid (BN.out.trans (hbn.mono BN.out.size))
 rw [← hwb, ← hgb]
 clear hbn hwb hgb
 refine hK.out _ _ (HST.out _ BN.out) (fun _ => ?_)
 clear hK K'
 (try simp only [ax])
 refine wpAnyH_ready (rs := [29]) (by kernel_rfl) (by simp) ?_
 refine AllReadyH.cons rfl (fun K' hK => ?_) AllReadyH.nil
 go_simp
 refine ((same_below (or_any _ 4 4 [Pl.cmp pb qb, Pl.cmp pi qi, Pl.cmp pl ql, cmpI ps qs] _ rfl (by decide) (by have := HBS28.out; exact this)))).mono ?_
 rintro e wn ⟨rfl, hbn⟩
 have BN := Lib.hid (BN.out.trans (hbn.mono BN.out.size))
 clear hbn
 refine hK.out _ _ (HST.out _ BN.out) (fun _ => ?_)
 clear hK K'
 (try simp only [ax])
 refine tkE 30 (.int .i64 (firstNZ [Pl.cmp pb qb, Pl.cmp pi qi, Pl.cmp pl ql, cmpI ps qs])) rfl ?_
 (try simp only [ax])
 refine wpAnyH_done (by kernel_rfl) ?_ _
 refine NoPanic.normal ?_
 clear ST0
 go_wp2_with fail
 go_ret
 exact ⟨by rw [HV.out]; rfl, B1.out.trans (BN.out.mono B1.out.size)⟩
theorem tellsQ (w : World) : TellsO kQuant w 162 #[] ordQuant := ⟨fun args W => by kernel_rfl, fun W _ a b ha hb => orderQ_any a b W ha hb⟩
end Go.Proofs.YtlkmccmbpnbgbaaGreat
