/-
 CONTRACTS of the code's orders of rules and shelves. (By wip/tools/port14c.py.)
-/
import Derived.Test.YtgbilfkjfeheaaaGreatOPl
import Derived.Test.YtgbilfkjfeheaaaGreatVSrtA
import Derived.Test.YtgbilfkjfeheaaaGreatJHead
import Derived.Deep.RegionHeld3
namespace Go.Proofs.YtgbilfkjfeheaaaGreat
set_option linter.unusedVariables false
open Go.RowKit
/-- A rule that names an item comes ahead of one that does not. -/
def lastI (a b : Rl) : Int := if (!emp a.item && emp b.item) = true then -1 else if (emp a.item && !emp b.item) = true then 1 else 0
theorem lastI_three (a b : Rl) : lastI a b = -1 ∨ lastI a b = 0 ∨ lastI a b = 1 := by unfold lastI; split <;> (try split) <;> simp
theorem lastI_neg (a b : Rl) : decide (lastI a b < 0) = (!emp a.item && emp b.item) := by unfold lastI; cases emp a.item <;> cases emp b.item <;> simp
theorem lastI_pos (a b : Rl) : decide (0 < lastI a b) = (!emp b.item && emp a.item) := by unfold lastI; cases emp a.item <;> cases emp b.item <;> simp
set_option maxRecDepth 100000 in
set_option maxHeartbeats 1600000 in
theorem last_any (p0 p1 : ByteArray) (p2 : Int) (q0 q1 : ByteArray) (q2 : Int) (w : World) : Calls Tryz.prog 169 #[.agg #[.string p0, .string p1, .int .i64 p2], .agg #[.string q0, .string q1, .int .i64 q2]] w fun e w' => e = .returned (.int .i64 (lastI (Rl.mk p0 p1 p2) (Rl.mk q0 q1 q2))) ∧ Below w.heap.size w w' := by
 obtain ⟨r, hr⟩ : ∃ r, lastI (Rl.mk p0 p1 p2) (Rl.mk q0 q1 q2) = r := ⟨_, rfl⟩
 have HR : Hid (r = if (!p0.toList.isEmpty && q0.toList.isEmpty) = true then -1 else if (p0.toList.isEmpty && !q0.toList.isEmpty) = true then 1 else 0) := Lib.hid (by rw [← hr]; rfl)
 rw [hr]
 clear hr
 have HB : Hid (Below w.heap.size w ((w.alloc (.cells #[.string p0, .string p1, .int .i64 p2] 98)).alloc (.cells #[.string q0, .string q1, .int .i64 q2] 98))) := Lib.hid (((Below.refl _ _).alloc (Nat.le_refl _) _).alloc (by simp) _)
 cases hp : p0.toList.isEmpty with
 | true =>
  cases hq : q0.toList.isEmpty with
  | true =>
   have HE : Hid (r = 0) := Lib.hid (by rw [HR.out, hp, hq]; rfl)
   clear HR
   go_enter Tryz.func169, Tryz.ntmps169
   go_wp2_with fail
   go_ret
   exact ⟨by rw [HE.out]; rfl, HB.out⟩
  | false =>
   have HE : Hid (r = 1) := Lib.hid (by rw [HR.out, hp, hq]; rfl)
   clear HR
   go_enter Tryz.func169, Tryz.ntmps169
   go_wp2_with fail
   go_ret
   exact ⟨by rw [HE.out]; rfl, HB.out⟩
 | false =>
  cases hq : q0.toList.isEmpty with
  | true =>
   have HE : Hid (r = -1) := Lib.hid (by rw [HR.out, hp, hq]; rfl)
   clear HR
   go_enter Tryz.func169, Tryz.ntmps169
   go_wp2_with fail
   go_ret
   exact ⟨by rw [HE.out]; rfl, HB.out⟩
  | false =>
   have HE : Hid (r = 0) := Lib.hid (by rw [HR.out, hp, hq]; rfl)
   clear HR
   go_enter Tryz.func169, Tryz.ntmps169
   go_wp2_with fail
   go_ret
   exact ⟨by rw [HE.out]; rfl, HB.out⟩
end Go.Proofs.YtgbilfkjfeheaaaGreat

namespace Go.Proofs.YtgbilfkjfeheaaaGreat
set_option linter.unusedVariables false
open Go.RowKit

/-- The code's orders: of rules as they are asked, of shelves. -/
def ordAhead_ (a b : Rl) : Int := firstNZ [cmpI a.rank b.rank, lastI a b, Pl.cmp a.zone b.zone]
def ordAhead (x y : List Value) : Int := ordAhead_ (rlOf x) (rlOf y)
theorem ordAhead_eq (x y : List Value) : ordAhead x y = ordAhead_ (rlOf x) (rlOf y) := rfl
def ordNear_ (a b : Bn) : Int := firstNZ [cmpI a.aisle b.aisle, cmpI a.place b.place, Pl.cmp a.code b.code]
def ordNear (x y : List Value) : Int := ordNear_ (bnOf x) (bnOf y)
theorem ordNear_eq (x y : List Value) : ordNear x y = ordNear_ (bnOf x) (bnOf y) := rfl
theorem lt_last_or (a b : ByteArray) : decide (firstNZ [Pl.cmp a b] < 0) = Pl.lt a b := by
 rw [← cmp_neg]
 show decide ((if Pl.cmp a b = 0 then firstNZ [] else Pl.cmp a b) < 0) = _
 by_cases h : Pl.cmp a b = 0
 · rw [if_pos h, h]; rfl
 · rw [if_neg h]
theorem less_ahead (x y : List Value) : lessO ordAhead x y = aheadR (rlOf x) (rlOf y) := by
 unfold lessO ordAhead ordAhead_ aheadR Pl.lex
 rw [orI_neg _ _ (cmpI_three _ _), orI_neg _ _ (lastI_three _ _), cmpI_neg, cmpI_pos, lastI_neg, lastI_pos, lt_last_or]
theorem less_near (x y : List Value) : lessO ordNear x y = nearB (bnOf x) (bnOf y) := by
 unfold lessO ordNear ordNear_ nearB Pl.lex
 rw [orI_neg _ _ (cmpI_three _ _), orI_neg _ _ (cmpI_three _ _), cmpI_neg, cmpI_pos, cmpI_neg, cmpI_pos, lt_last_or]
theorem weak_ahead : Pl.Weak (lessO ordAhead) := by
 have e : lessO ordAhead = fun x y => aheadR (rlOf x) (rlOf y) := by funext x y; exact less_ahead x y
 rw [e]; exact aheadR_weak.on rlOf
theorem weak_near : Pl.Weak (lessO ordNear) := by
 have e : lessO ordNear = fun x y => nearB (bnOf x) (bnOf y) := by funext x y; exact less_near x y
 rw [e]; exact nearB_weak.on bnOf
set_option maxRecDepth 100000 in
set_option maxHeartbeats 1600000 in
theorem cordA_any (x y : List Value) (w : World) (hx : Fits kRule x) (hy : Fits kRule y) : Calls Tryz.prog 167 #[.agg x.toArray, .agg y.toArray] w fun e w' => e = .returned (.int .i64 (ordAhead x y)) ∧ Below w.heap.size w w' := by
 have hxr := rl_cells hx
 have hyr := rl_cells hy
 have HV : Hid (ordAhead x y = ordAhead_ (rlOf x) (rlOf y)) := Lib.hid (ordAhead_eq x y)
 obtain ⟨p, hp⟩ : ∃ p, rlOf x = p := ⟨_, rfl⟩
 obtain ⟨q, hq⟩ : ∃ q, rlOf y = q := ⟨_, rfl⟩
 rw [hp] at hxr HV
 rw [hq] at hyr HV
 obtain ⟨v, hv⟩ : ∃ v, ordAhead x y = v := ⟨_, rfl⟩
 rw [hv] at HV ⊢
 subst hxr hyr
 clear hp hq hx hy hv
 obtain ⟨p0, p1, p2⟩ := p
 obtain ⟨q0, q1, q2⟩ := q
 have HV2 : Hid (v = firstNZ [cmpI p2 q2, lastI (Rl.mk p0 p1 p2) (Rl.mk q0 q1 q2), Pl.cmp p1 q1]) := Lib.hid HV.out
 clear HV
 have HV := HV2
 clear HV2
 unfold Rl.cells
 obtain ⟨W0, hW0⟩ : ∃ W0, W0 = ((w.alloc (.cells #[.string p0, .string p1, .int .i64 p2] 98)).alloc (.cells #[.string q0, .string q1, .int .i64 q2] 98)) := ⟨_, rfl⟩
 have B0 : Hid (Below w.heap.size w W0) := Lib.hid (by rw [hW0]; exact ((Below.refl _ _).alloc (Nat.le_refl _) _).alloc (by simp <;> omega) _)
 have HX0 : Hid (W0.heap[w.heap.size]? = some (.cells #[.string p0, .string p1, .int .i64 p2] 98 (0, 0))) := Lib.hid (by
  rw [hW0]
  have hq := heap_alloc_new w (.cells #[.string p0, .string p1, .int .i64 p2] 98)
  exact (Below.heap_alloc _ _ _ (by simp <;> omega)).trans (by simpa using hq))
 have HY0 : Hid (W0.heap[w.heap.size + 1]? = some (.cells #[.string q0, .string q1, .int .i64 q2] 98 (0, 0))) := Lib.hid (by
  rw [hW0]
  have hq := heap_alloc_new (w.alloc (.cells #[.string p0, .string p1, .int .i64 p2] 98)) (.cells #[.string q0, .string q1, .int .i64 q2] 98)
  exact by simpa using hq)
 have huh := Tryz.underlying37
 have HSH : Hid (∀ a : Hs, (Tryz.prog.info? 37).map (·.size) = some a.cells.size) := Lib.hid (fun a => by kernel_rfl)
 have HSHL : Hid (∀ a : Hs, (Tryz.prog.info? 37).map (·.size) = some a.cells.toList.length) := Lib.hid (fun a => by kernel_rfl)
 have H1C : Hid (∀ a : Hs, a.cells.all (·.oneCell') = true) := Lib.hid (fun a => by simp [Hs.cells, Value.oneCell'])
 have huRule := Tryz.underlying98
 have HSRule : Hid ((Tryz.prog.info? 98).map (·.size) = some 3) := Lib.hid (by kernel_rfl)
 obtain ⟨w1, hw1⟩ : ∃ w1, w1 = W0 := ⟨_, rfl⟩
 have HX1 := HX0
 have HY1 := HY0
 have B1 := B0
 rw [← hw1] at HX1 HY1 B1
 have hsz : w.heap.size + 2 ≤ w1.heap.size := by rw [hw1, hW0]; simp
 have HBX : Hid (w.heap.size + 2 ≤ w1.heap.size) := Lib.hid hsz
 clear HX0 HY0 B0 hsz
 skip
 subst hW0
 go_enter Tryz.func167, Tryz.ntmps167
 go_wp2_with fail
 rw [← hw1]
 clear hw1
 have HST : Hid (∀ X, Below w1.heap.size w1 X → X.cell? ⟨w.heap.size, 2, none⟩ = some (.int .i64 p2) ∧ X.cell? ⟨(w.heap.size + 1), 2, none⟩ = some (.int .i64 q2) ∧ X.rangeAt w.heap.size 0 [.string p0, .string p1, .int .i64 p2] ∧ X.rangeAt (w.heap.size + 1) 0 [.string q0, .string q1, .int .i64 q2] ∧ X.cell? ⟨w.heap.size, 1, none⟩ = some (.string p1) ∧ X.cell? ⟨(w.heap.size + 1), 1, none⟩ = some (.string q1)) := Lib.hid (fun X hX => ⟨(by rw [cell_of_block ((hX.block _ (lt_of_block HX1.out)).trans HX1.out)]; rfl), (by rw [cell_of_block ((hX.block _ (lt_of_block HY1.out)).trans HY1.out)]; rfl), range_row0 ((hX.block _ (lt_of_block HX1.out)).trans HX1.out), range_row0 ((hX.block _ (lt_of_block HY1.out)).trans HY1.out), (by rw [cell_of_block ((hX.block _ (lt_of_block HX1.out)).trans HX1.out)]; rfl), (by rw [cell_of_block ((hX.block _ (lt_of_block HY1.out)).trans HY1.out)]; rfl)⟩)
 have BN := Lib.hid (Below.refl w1.heap.size w1).drew
 have ST0 := HST.out _ BN.out
 refine wp_region_noPanic ?_
 refine wp_region_held_drew (S := (fun w' => w'.cell? ⟨w.heap.size, 2, none⟩ = some (.int .i64 p2) ∧ w'.cell? ⟨(w.heap.size + 1), 2, none⟩ = some (.int .i64 q2) ∧ w'.rangeAt w.heap.size 0 [.string p0, .string p1, .int .i64 p2] ∧ w'.rangeAt (w.heap.size + 1) 0 [.string q0, .string q1, .int .i64 q2] ∧ w'.cell? ⟨w.heap.size, 1, none⟩ = some (.string p1) ∧ w'.cell? ⟨(w.heap.size + 1), 1, none⟩ = some (.string q1))) (by kernel_rfl) ST0 (fun dd0 => ?_)
 refine tkE 0 (.pointer (some ⟨w.heap.size, 2, none⟩)) rfl ?_
 (try simp only [ax])
 refine tkF 1 (.int .i64 p2) rfl (.inl ⟨by kernel_rfl, fun w h => by have hw := h.1; clear h; go_simp⟩) ?_
 (try simp only [ax])
 refine tkE 2 (.pointer (some ⟨(w.heap.size + 1), 2, none⟩)) rfl ?_
 (try simp only [ax])
 refine tkF 3 (.int .i64 q2) rfl (.inl ⟨by kernel_rfl, fun w h => by have hw := h.2.1; clear h; go_simp⟩) ?_
 (try simp only [ax])
 refine tkF 5 (.agg #[.string p0, .string p1, .int .i64 p2]) rfl (yieldsIf_load_mid (by kernel_rfl) 98 (.tmp 2) rfl w.heap.size 0 rfl [.string p0, .string p1, .int .i64 p2] _ (fun w h => h.2.2.1) huRule rfl HSRule.out) ?_
 (try simp only [ax])
 refine tkF 6 (.agg #[.string q0, .string q1, .int .i64 q2]) rfl (yieldsIf_load_mid (by kernel_rfl) 98 (.tmp 3) rfl (w.heap.size + 1) 0 rfl [.string q0, .string q1, .int .i64 q2] _ (fun w h => h.2.2.2.1) huRule rfl HSRule.out) ?_
 (try simp only [ax])
 refine tkE 8 (.pointer (some ⟨w.heap.size, 1, none⟩)) rfl ?_
 (try simp only [ax])
 refine tkF 9 (.string p1) rfl (.inl ⟨by kernel_rfl, fun w h => by have hw := h.2.2.2.2.1; clear h; go_simp⟩) ?_
 (try simp only [ax])
 refine tkE 10 (.pointer (some ⟨(w.heap.size + 1), 1, none⟩)) rfl ?_
 (try simp only [ax])
 refine tkF 11 (.string q1) rfl (.inl ⟨by kernel_rfl, fun w h => by have hw := h.2.2.2.2.2; clear h; go_simp⟩) ?_
 (try simp only [ax])
 refine wpAnyH_ready (rs := [4]) (by kernel_rfl) (by simp) ?_
 refine AllReadyH.cons rfl (fun K' hK => ?_) AllReadyH.nil
 go_simp
 refine ((same_below (compareI_any p2 q2 _))).mono ?_
 rintro e wn ⟨rfl, hbn⟩
 have BN := Lib.hid (BN.out.trans (hbn.mono BN.out.size))
 clear hbn
 refine hK.out _ _ (HST.out _ BN.out) (fun _ => ?_)
 clear hK K'
 (try simp only [ax])
 refine wpAnyH_ready (rs := [7]) (by kernel_rfl) (by simp) ?_
 refine AllReadyH.cons rfl (fun K' hK => ?_) AllReadyH.nil
 go_simp
 refine ((last_any p0 p1 p2 q0 q1 q2 _)).mono ?_
 rintro e wn ⟨rfl, hbn⟩
 have BN := Lib.hid (BN.out.trans (hbn.mono BN.out.size))
 clear hbn
 refine hK.out _ _ (HST.out _ BN.out) (fun _ => ?_)
 clear hK K'
 (try simp only [ax])
 refine wpAnyH_ready (rs := [12]) (by kernel_rfl) (by simp) ?_
 refine AllReadyH.cons rfl (fun K' hK => ?_) AllReadyH.nil
 go_simp
 refine ((same_below (compare_any p1 q1 _))).mono ?_
 rintro e wn ⟨rfl, hbn⟩
 have BN := Lib.hid (BN.out.trans (hbn.mono BN.out.size))
 clear hbn
 refine hK.out _ _ (HST.out _ BN.out) (fun _ => ?_)
 clear hK K'
 (try simp only [ax])
 refine wpAnyH_ready (rs := [13]) (by kernel_rfl) (by simp) ?_
 refine AllReadyH.cons rfl (fun K' hK => ?_) AllReadyH.nil
 go_simp
 obtain ⟨wb13, hwb⟩ : ∃ W, W = (wn.alloc (.cells #[.int .i64 (cmpI p2 q2), .int .i64 (lastI (Rl.mk p0 p1 p2) (Rl.mk q0 q1 q2)), .int .i64 (Pl.cmp p1 q1)] 3)) := ⟨_, rfl⟩
 obtain ⟨gb13, hgb⟩ : ∃ g, g = wn.heap.size := ⟨_, rfl⟩
 have HBS13 : Hid (Rd wb13 wb13.heap.size (some ⟨gb13, 0, none⟩) [.int .i64 (cmpI p2 q2), .int .i64 (lastI (Rl.mk p0 p1 p2) (Rl.mk q0 q1 q2)), .int .i64 (Pl.cmp p1 q1)]) := Lib.hid (by rw [hwb, hgb]; exact (rd_one wn [.int .i64 (cmpI p2 q2), .int .i64 (lastI (Rl.mk p0 p1 p2) (Rl.mk q0 q1 q2)), .int .i64 (Pl.cmp p1 q1)] 3).mono (by simp))
 have hbn : Below wn.heap.size wn wb13 := by rw [hwb]; exact ((Below.refl _ _).alloc (Nat.le_refl _) _)
 have BN := Lib.hid (BN.out.trans (hbn.mono BN.out.size))
 rw [← hwb, ← hgb]
 clear hbn hwb hgb
 refine hK.out _ _ (HST.out _ BN.out) (fun _ => ?_)
 clear hK K'
 (try simp only [ax])
 refine wpAnyH_ready (rs := [14]) (by kernel_rfl) (by simp) ?_
 refine AllReadyH.cons rfl (fun K' hK => ?_) AllReadyH.nil
 go_simp
 refine ((same_below (or_any _ 3 3 [cmpI p2 q2, lastI (Rl.mk p0 p1 p2) (Rl.mk q0 q1 q2), Pl.cmp p1 q1] _ rfl (by decide) (by have := HBS13.out; exact this)))).mono ?_
 rintro e wn ⟨rfl, hbn⟩
 have BN := Lib.hid (BN.out.trans (hbn.mono BN.out.size))
 clear hbn
 refine hK.out _ _ (HST.out _ BN.out) (fun _ => ?_)
 clear hK K'
 (try simp only [ax])
 refine tkE 15 (.int .i64 (firstNZ [cmpI p2 q2, lastI (Rl.mk p0 p1 p2) (Rl.mk q0 q1 q2), Pl.cmp p1 q1])) rfl ?_
 (try simp only [ax])
 refine wpAnyH_done (by kernel_rfl) ?_ _
 refine NoPanic.normal ?_
 clear ST0
 go_wp2_with fail
 go_ret
 exact ⟨by rw [HV.out]; rfl, B1.out.trans (BN.out.mono B1.out.size)⟩
theorem tellsA : TellsC kRule 167 ordAhead := ⟨fun args W => by kernel_rfl, fun W a b ha hb => cordA_any a b W ha hb⟩
set_option maxRecDepth 100000 in
set_option maxHeartbeats 1600000 in
theorem cordN_any (x y : List Value) (w : World) (hx : Fits kBin x) (hy : Fits kBin y) : Calls Tryz.prog 173 #[.agg x.toArray, .agg y.toArray] w fun e w' => e = .returned (.int .i64 (ordNear x y)) ∧ Below w.heap.size w w' := by
 have hxr := bn_cells hx
 have hyr := bn_cells hy
 have HV : Hid (ordNear x y = ordNear_ (bnOf x) (bnOf y)) := Lib.hid (ordNear_eq x y)
 obtain ⟨p, hp⟩ : ∃ p, bnOf x = p := ⟨_, rfl⟩
 obtain ⟨q, hq⟩ : ∃ q, bnOf y = q := ⟨_, rfl⟩
 rw [hp] at hxr HV
 rw [hq] at hyr HV
 obtain ⟨v, hv⟩ : ∃ v, ordNear x y = v := ⟨_, rfl⟩
 rw [hv] at HV ⊢
 subst hxr hyr
 clear hp hq hx hy hv
 obtain ⟨p0, p1, p2, p3, p4, p5, p6, p7⟩ := p
 obtain ⟨q0, q1, q2, q3, q4, q5, q6, q7⟩ := q
 have HV2 : Hid (v = firstNZ [cmpI p3 q3, cmpI p4 q4, Pl.cmp p0 q0]) := Lib.hid HV.out
 clear HV
 have HV := HV2
 clear HV2
 unfold Bn.cells
 obtain ⟨W0, hW0⟩ : ∃ W0, W0 = ((w.alloc (.cells #[.string p0, .string p1, .int .i64 p2, .int .i64 p3, .int .i64 p4, .int .i64 p5, .int .i64 p6, .bool p7] 64)).alloc (.cells #[.string q0, .string q1, .int .i64 q2, .int .i64 q3, .int .i64 q4, .int .i64 q5, .int .i64 q6, .bool q7] 64)) := ⟨_, rfl⟩
 have B0 : Hid (Below w.heap.size w W0) := Lib.hid (by rw [hW0]; exact ((Below.refl _ _).alloc (Nat.le_refl _) _).alloc (by simp <;> omega) _)
 have HX0 : Hid (W0.heap[w.heap.size]? = some (.cells #[.string p0, .string p1, .int .i64 p2, .int .i64 p3, .int .i64 p4, .int .i64 p5, .int .i64 p6, .bool p7] 64 (0, 0))) := Lib.hid (by
  rw [hW0]
  have hq := heap_alloc_new w (.cells #[.string p0, .string p1, .int .i64 p2, .int .i64 p3, .int .i64 p4, .int .i64 p5, .int .i64 p6, .bool p7] 64)
  exact (Below.heap_alloc _ _ _ (by simp <;> omega)).trans (by simpa using hq))
 have HY0 : Hid (W0.heap[w.heap.size + 1]? = some (.cells #[.string q0, .string q1, .int .i64 q2, .int .i64 q3, .int .i64 q4, .int .i64 q5, .int .i64 q6, .bool q7] 64 (0, 0))) := Lib.hid (by
  rw [hW0]
  have hq := heap_alloc_new (w.alloc (.cells #[.string p0, .string p1, .int .i64 p2, .int .i64 p3, .int .i64 p4, .int .i64 p5, .int .i64 p6, .bool p7] 64)) (.cells #[.string q0, .string q1, .int .i64 q2, .int .i64 q3, .int .i64 q4, .int .i64 q5, .int .i64 q6, .bool q7] 64)
  exact by simpa using hq)
 have huh := Tryz.underlying37
 have HSH : Hid (∀ a : Hs, (Tryz.prog.info? 37).map (·.size) = some a.cells.size) := Lib.hid (fun a => by kernel_rfl)
 have HSHL : Hid (∀ a : Hs, (Tryz.prog.info? 37).map (·.size) = some a.cells.toList.length) := Lib.hid (fun a => by kernel_rfl)
 have H1C : Hid (∀ a : Hs, a.cells.all (·.oneCell') = true) := Lib.hid (fun a => by simp [Hs.cells, Value.oneCell'])
 have huBin := Tryz.underlying64
 have HSBin : Hid ((Tryz.prog.info? 64).map (·.size) = some 8) := Lib.hid (by kernel_rfl)
 obtain ⟨w1, hw1⟩ : ∃ w1, w1 = W0 := ⟨_, rfl⟩
 have HX1 := HX0
 have HY1 := HY0
 have B1 := B0
 rw [← hw1] at HX1 HY1 B1
 have hsz : w.heap.size + 2 ≤ w1.heap.size := by rw [hw1, hW0]; simp
 have HBX : Hid (w.heap.size + 2 ≤ w1.heap.size) := Lib.hid hsz
 clear HX0 HY0 B0 hsz
 skip
 subst hW0
 go_enter Tryz.func173, Tryz.ntmps173
 go_wp2_with fail
 rw [← hw1]
 clear hw1
 have HST : Hid (∀ X, Below w1.heap.size w1 X → X.cell? ⟨w.heap.size, 3, none⟩ = some (.int .i64 p3) ∧ X.cell? ⟨(w.heap.size + 1), 3, none⟩ = some (.int .i64 q3) ∧ X.cell? ⟨w.heap.size, 4, none⟩ = some (.int .i64 p4) ∧ X.cell? ⟨(w.heap.size + 1), 4, none⟩ = some (.int .i64 q4) ∧ X.cell? ⟨w.heap.size, 0, none⟩ = some (.string p0) ∧ X.cell? ⟨(w.heap.size + 1), 0, none⟩ = some (.string q0)) := Lib.hid (fun X hX => ⟨(by rw [cell_of_block ((hX.block _ (lt_of_block HX1.out)).trans HX1.out)]; rfl), (by rw [cell_of_block ((hX.block _ (lt_of_block HY1.out)).trans HY1.out)]; rfl), (by rw [cell_of_block ((hX.block _ (lt_of_block HX1.out)).trans HX1.out)]; rfl), (by rw [cell_of_block ((hX.block _ (lt_of_block HY1.out)).trans HY1.out)]; rfl), (by rw [cell_of_block ((hX.block _ (lt_of_block HX1.out)).trans HX1.out)]; rfl), (by rw [cell_of_block ((hX.block _ (lt_of_block HY1.out)).trans HY1.out)]; rfl)⟩)
 have BN := Lib.hid (Below.refl w1.heap.size w1).drew
 have ST0 := HST.out _ BN.out
 refine wp_region_noPanic ?_
 refine wp_region_held_drew (S := (fun w' => w'.cell? ⟨w.heap.size, 3, none⟩ = some (.int .i64 p3) ∧ w'.cell? ⟨(w.heap.size + 1), 3, none⟩ = some (.int .i64 q3) ∧ w'.cell? ⟨w.heap.size, 4, none⟩ = some (.int .i64 p4) ∧ w'.cell? ⟨(w.heap.size + 1), 4, none⟩ = some (.int .i64 q4) ∧ w'.cell? ⟨w.heap.size, 0, none⟩ = some (.string p0) ∧ w'.cell? ⟨(w.heap.size + 1), 0, none⟩ = some (.string q0))) (by kernel_rfl) ST0 (fun dd0 => ?_)
 refine tkE 0 (.pointer (some ⟨w.heap.size, 3, none⟩)) rfl ?_
 (try simp only [ax])
 refine tkF 1 (.int .i64 p3) rfl (.inl ⟨by kernel_rfl, fun w h => by have hw := h.1; clear h; go_simp⟩) ?_
 (try simp only [ax])
 refine tkE 2 (.pointer (some ⟨(w.heap.size + 1), 3, none⟩)) rfl ?_
 (try simp only [ax])
 refine tkF 3 (.int .i64 q3) rfl (.inl ⟨by kernel_rfl, fun w h => by have hw := h.2.1; clear h; go_simp⟩) ?_
 (try simp only [ax])
 refine tkE 5 (.pointer (some ⟨w.heap.size, 4, none⟩)) rfl ?_
 (try simp only [ax])
 refine tkF 6 (.int .i64 p4) rfl (.inl ⟨by kernel_rfl, fun w h => by have hw := h.2.2.1; clear h; go_simp⟩) ?_
 (try simp only [ax])
 refine tkE 7 (.pointer (some ⟨(w.heap.size + 1), 4, none⟩)) rfl ?_
 (try simp only [ax])
 refine tkF 8 (.int .i64 q4) rfl (.inl ⟨by kernel_rfl, fun w h => by have hw := h.2.2.2.1; clear h; go_simp⟩) ?_
 (try simp only [ax])
 refine tkE 10 (.pointer (some ⟨w.heap.size, 0, none⟩)) rfl ?_
 (try simp only [ax])
 refine tkF 11 (.string p0) rfl (.inl ⟨by kernel_rfl, fun w h => by have hw := h.2.2.2.2.1; clear h; go_simp⟩) ?_
 (try simp only [ax])
 refine tkE 12 (.pointer (some ⟨(w.heap.size + 1), 0, none⟩)) rfl ?_
 (try simp only [ax])
 refine tkF 13 (.string q0) rfl (.inl ⟨by kernel_rfl, fun w h => by have hw := h.2.2.2.2.2; clear h; go_simp⟩) ?_
 (try simp only [ax])
 refine wpAnyH_ready (rs := [4]) (by kernel_rfl) (by simp) ?_
 refine AllReadyH.cons rfl (fun K' hK => ?_) AllReadyH.nil
 go_simp
 refine ((same_below (compareI_any p3 q3 _))).mono ?_
 rintro e wn ⟨rfl, hbn⟩
 have BN := Lib.hid (BN.out.trans (hbn.mono BN.out.size))
 clear hbn
 refine hK.out _ _ (HST.out _ BN.out) (fun _ => ?_)
 clear hK K'
 (try simp only [ax])
 refine wpAnyH_ready (rs := [9]) (by kernel_rfl) (by simp) ?_
 refine AllReadyH.cons rfl (fun K' hK => ?_) AllReadyH.nil
 go_simp
 refine ((same_below (compareI_any p4 q4 _))).mono ?_
 rintro e wn ⟨rfl, hbn⟩
 have BN := Lib.hid (BN.out.trans (hbn.mono BN.out.size))
 clear hbn
 refine hK.out _ _ (HST.out _ BN.out) (fun _ => ?_)
 clear hK K'
 (try simp only [ax])
 refine wpAnyH_ready (rs := [14]) (by kernel_rfl) (by simp) ?_
 refine AllReadyH.cons rfl (fun K' hK => ?_) AllReadyH.nil
 go_simp
 refine ((same_below (compare_any p0 q0 _))).mono ?_
 rintro e wn ⟨rfl, hbn⟩
 have BN := Lib.hid (BN.out.trans (hbn.mono BN.out.size))
 clear hbn
 refine hK.out _ _ (HST.out _ BN.out) (fun _ => ?_)
 clear hK K'
 (try simp only [ax])
 refine wpAnyH_ready (rs := [15]) (by kernel_rfl) (by simp) ?_
 refine AllReadyH.cons rfl (fun K' hK => ?_) AllReadyH.nil
 go_simp
 obtain ⟨wb15, hwb⟩ : ∃ W, W = (wn.alloc (.cells #[.int .i64 (cmpI p3 q3), .int .i64 (cmpI p4 q4), .int .i64 (Pl.cmp p0 q0)] 3)) := ⟨_, rfl⟩
 obtain ⟨gb15, hgb⟩ : ∃ g, g = wn.heap.size := ⟨_, rfl⟩
 have HBS15 : Hid (Rd wb15 wb15.heap.size (some ⟨gb15, 0, none⟩) [.int .i64 (cmpI p3 q3), .int .i64 (cmpI p4 q4), .int .i64 (Pl.cmp p0 q0)]) := Lib.hid (by rw [hwb, hgb]; exact (rd_one wn [.int .i64 (cmpI p3 q3), .int .i64 (cmpI p4 q4), .int .i64 (Pl.cmp p0 q0)] 3).mono (by simp))
 have hbn : Below wn.heap.size wn wb15 := by rw [hwb]; exact ((Below.refl _ _).alloc (Nat.le_refl _) _)
 have BN := Lib.hid (BN.out.trans (hbn.mono BN.out.size))
 rw [← hwb, ← hgb]
 clear hbn hwb hgb
 refine hK.out _ _ (HST.out _ BN.out) (fun _ => ?_)
 clear hK K'
 (try simp only [ax])
 refine wpAnyH_ready (rs := [16]) (by kernel_rfl) (by simp) ?_
 refine AllReadyH.cons rfl (fun K' hK => ?_) AllReadyH.nil
 go_simp
 refine ((same_below (or_any _ 3 3 [cmpI p3 q3, cmpI p4 q4, Pl.cmp p0 q0] _ rfl (by decide) (by have := HBS15.out; exact this)))).mono ?_
 rintro e wn ⟨rfl, hbn⟩
 have BN := Lib.hid (BN.out.trans (hbn.mono BN.out.size))
 clear hbn
 refine hK.out _ _ (HST.out _ BN.out) (fun _ => ?_)
 clear hK K'
 (try simp only [ax])
 refine tkE 17 (.int .i64 (firstNZ [cmpI p3 q3, cmpI p4 q4, Pl.cmp p0 q0])) rfl ?_
 (try simp only [ax])
 refine wpAnyH_done (by kernel_rfl) ?_ _
 refine NoPanic.normal ?_
 clear ST0
 go_wp2_with fail
 go_ret
 exact ⟨by rw [HV.out]; rfl, B1.out.trans (BN.out.mono B1.out.size)⟩
theorem tellsN : TellsC kBin 173 ordNear := ⟨fun args W => by kernel_rfl, fun W a b ha hb => cordN_any a b W ha hb⟩
end Go.Proofs.YtgbilfkjfeheaaaGreat
