/-
  CONTRACTS of cmp.Or, cmp.Compare and of whether a rule names an item. (By wip/tools/gen_vord.py.)
  CONTRACTS of the code's orders of rules and shelves. (By wip/tools/gen_vord.py.)
  (By wip/tools/merge.py.)
-/
import Derived.Test.YtjphjblcahadkaaGreatUPl
import Derived.Test.YtjphjblcahadkaaGreatOBase
import Derived.Test.YtjphjblcahadkaaGreatVSrtA
import Derived.Test.YtjphjblcahadkaaGreatVHead
import Derived.Deep.RegionHeld3
namespace Go.Proofs.YtjphjblcahadkaaGreat
set_option linter.unusedVariables false
open Go.RowKit

/-- -1, 0 or 1: by numbers. -/
def cmpI (a b : Int) : Int := if a < b then -1 else if b < a then 1 else 0
/-- The first number that is not 0. -/
def firstNZ : List Int → Int
  | [] => 0
  | z :: l => if z = 0 then firstNZ l else z
theorem or_any (A : Option Addr) (n c : Nat) (l : List Int) (w : World) (hn : n = l.length) (hn6 : n ≤ 1000) (hr : Rd w w.heap.size A (l.map (Value.int .i64))) :
    Calls Tryz.prog 59 #[.slice A n c] w fun e w' => e = .returned (.int .i64 (firstNZ l)) ∧ w' = w := by
  obtain ⟨r, hr0⟩ : ∃ r, firstNZ l = r := ⟨_, rfl⟩
  rw [hr0]
  have HR0 := Lib.hid hr0
  have HN := Lib.hid hn
  have HR := Lib.hid hr
  clear hr0 hr hn
  go_enter Tryz.func59, Tryz.ntmps59
  go_wp2_with fail
  go_loopw [8] (fun kv wr => ∃ k : Nat, k ≤ n ∧ kv = .int .i64 (k : Int) ∧ Hid (firstNZ (l.drop k) = r) ∧ Hid (wr = w)) (fun kv _ => n - (intOf kv).toNat)
  case atStart => exact ⟨0, by omega, rfl, Lib.hid HR0.out, Lib.hid (by first | rfl | trivial)⟩
  case round =>
    obtain ⟨k, hk, rfl, hd, hw⟩ := hrel
    obtain rfl := hw.out
    by_cases hlt : k < n
    · have hkl : k < l.length := by rw [← HN.out]; exact hlt
      obtain ⟨b, off, rfl, hb, hc⟩ := HR.out (by rw [List.length_map]; omega)
      have hs : firstNZ (l.drop k) = if l[k] = 0 then firstNZ (l.drop (k + 1)) else l[k] := by rw [List.drop_eq_getElem_cons hkl]; rfl
      have c0 : wr.cell? ⟨b, off + k, none⟩ = some (.int .i64 l[k]) := hc k _ (by rw [List.getElem?_map, List.getElem?_eq_getElem hkl]; rfl)
      rw [hd.out] at hs
      obtain ⟨z, hz⟩ : ∃ z, l[k] = z := ⟨_, rfl⟩
      rw [hz] at hs c0
      have HS := Lib.hid hs
      have h1 : (0 : Int) ≤ (k : Int) := by omega
      have h2 : (k : Int) < (n : Int) := by omega
      clear hs hz hc hkl
      by_cases hz0 : z = 0
      · have HE : Hid (firstNZ (l.drop (k + 1)) = r) := Lib.hid (by rw [HS.out, if_pos hz0])
        subst hz0
        go_wp2_with fail
        go_roundw
        case rel => exact ⟨k + 1, by omega, by go_num, HE, Lib.hid (by first | rfl | trivial)⟩
        case measure => simp [intOf]; omega
      · have HE : Hid (r = z) := Lib.hid (by rw [HS.out, if_neg hz0])
        have hz1 : (z != 0) = true := by simpa using hz0
        clear hz0
        go_wp2_with fail
        go_ret
        exact ⟨by rw [HE.out]; rfl, rfl⟩
    · have HE : Hid (r = 0) := Lib.hid (by rw [← hd.out, List.drop_eq_nil_of_le (by rw [← HN.out]; omega)]; rfl)
      go_wp2_with fail
      go_ret
      exact ⟨by rw [HE.out]; rfl, rfl⟩
theorem nan_any (z : Int) (w : World) : Calls Tryz.prog 95 #[.int .i64 z] w fun e w' => e = .returned (.bool false) ∧ w' = w := by
  go_enter Tryz.func95, Tryz.ntmps95
  go_wp2_with fail
  go_ret
  exact ⟨by simp, rfl⟩
theorem compareI_any (a b : Int) (w : World) : Calls Tryz.prog 72 #[.int .i64 a, .int .i64 b] w fun e w' => e = .returned (.int .i64 (cmpI a b)) ∧ w' = w := by
  obtain ⟨r, hr⟩ : ∃ r, cmpI a b = r := ⟨_, rfl⟩
  have HR : Hid (r = if a < b then -1 else if b < a then 1 else 0) := Lib.hid (by rw [← hr]; rfl)
  rw [hr]
  clear hr
  have HNA := Lib.hid nan_any
  go_enter Tryz.func72, Tryz.ntmps72
  go_wp2_with fail
  refine (HNA.out a _).mono ?_
  rintro e w1 ⟨rfl, rfl⟩
  go_wp2_with fail
  refine (HNA.out b _).mono ?_
  rintro e w2 ⟨rfl, rfl⟩
  by_cases h1 : a < b
  · have HE : Hid (r = -1) := Lib.hid (by rw [HR.out, if_pos h1])
    go_wp2_with fail
    go_ret
    exact ⟨by rw [HE.out]; rfl, rfl⟩
  · by_cases h2 : b < a
    · have HE : Hid (r = 1) := Lib.hid (by rw [HR.out, if_neg h1, if_pos h2])
      go_wp2_with fail
      go_ret
      exact ⟨by rw [HE.out]; rfl, rfl⟩
    · have HE : Hid (r = 0) := Lib.hid (by rw [HR.out, if_neg h1, if_neg h2])
      go_wp2_with fail
      go_ret
      exact ⟨by rw [HE.out]; rfl, rfl⟩
theorem same_below {P : Program} {f : FuncId} {args : Array Value} {w : World} {e0 : Ending} (h : Calls P f args w fun e w' => e = e0 ∧ w' = w) : Calls P f args w fun e w' => e = e0 ∧ Below w.heap.size w w' := h.mono (fun e w' h => ⟨h.1, by rw [h.2]; exact Below.refl _ _⟩)
theorem orI_neg (a : Int) (l : List Int) (h : a = -1 ∨ a = 0 ∨ a = 1) : decide (firstNZ (a :: l) < 0) = (decide (a < 0) || (!decide (0 < a) && decide (firstNZ l < 0))) := by
  show decide ((if a = 0 then firstNZ l else a) < 0) = _
  rcases h with rfl | rfl | rfl <;> simp
theorem cmpI_three (a b : Int) : cmpI a b = -1 ∨ cmpI a b = 0 ∨ cmpI a b = 1 := by unfold cmpI; split <;> (try split) <;> simp
theorem cmpI_neg (a b : Int) : decide (cmpI a b < 0) = decide (a < b) := by unfold cmpI; split <;> (try split) <;> simp <;> omega
theorem cmpI_pos (a b : Int) : decide (0 < cmpI a b) = decide (b < a) := by unfold cmpI; split <;> (try split) <;> simp <;> omega
theorem cmp_neg (a b : ByteArray) : decide (Pl.cmp a b < 0) = Pl.lt a b := by
  unfold Pl.cmp
  cases Pl.lt a b with
  | true => rfl
  | false =>
    rw [if_neg (by simp)]
    split <;> rfl
theorem firstNZ_nil : firstNZ [] = 0 := rfl
/-- A rule that names an item comes ahead of one that does not. -/
def lastI (a b : Rl) : Int := if (!emp a.item && emp b.item) = true then -1 else if (emp a.item && !emp b.item) = true then 1 else 0
theorem lastI_three (a b : Rl) : lastI a b = -1 ∨ lastI a b = 0 ∨ lastI a b = 1 := by unfold lastI; split <;> (try split) <;> simp
theorem lastI_neg (a b : Rl) : decide (lastI a b < 0) = (!emp a.item && emp b.item) := by unfold lastI; cases emp a.item <;> cases emp b.item <;> simp
theorem lastI_pos (a b : Rl) : decide (0 < lastI a b) = (!emp b.item && emp a.item) := by unfold lastI; cases emp a.item <;> cases emp b.item <;> simp
set_option maxRecDepth 100000 in
set_option maxHeartbeats 1600000 in
theorem last_any (p0 p1 : ByteArray) (p2 : Int) (q0 q1 : ByteArray) (q2 : Int) (w : World) : Calls Tryz.prog 73 #[.agg #[.string p0, .string p1, .int .i64 p2], .agg #[.string q0, .string q1, .int .i64 q2]] w fun e w' => e = .returned (.int .i64 (lastI (Rl.mk p0 p1 p2) (Rl.mk q0 q1 q2))) ∧ Below w.heap.size w w' := by
  obtain ⟨r, hr⟩ : ∃ r, lastI (Rl.mk p0 p1 p2) (Rl.mk q0 q1 q2) = r := ⟨_, rfl⟩
  have HR : Hid (r = if (!p0.toList.isEmpty && q0.toList.isEmpty) = true then -1 else if (p0.toList.isEmpty && !q0.toList.isEmpty) = true then 1 else 0) := Lib.hid (by rw [← hr]; rfl)
  rw [hr]
  clear hr
  have HB : Hid (Below w.heap.size w ((w.alloc (.cells #[.string p0, .string p1, .int .i64 p2] 39)).alloc (.cells #[.string q0, .string q1, .int .i64 q2] 39))) := Lib.hid (((Below.refl _ _).alloc (Nat.le_refl _) _).alloc (by simp) _)
  cases hp : p0.toList.isEmpty with
  | true =>
    cases hq : q0.toList.isEmpty with
    | true =>
      have HE : Hid (r = 0) := Lib.hid (by rw [HR.out, hp, hq]; rfl)
      clear HR
      go_enter Tryz.func73, Tryz.ntmps73
      go_wp2_with fail
      go_ret
      exact ⟨by rw [HE.out]; rfl, HB.out⟩
    | false =>
      have HE : Hid (r = 1) := Lib.hid (by rw [HR.out, hp, hq]; rfl)
      clear HR
      go_enter Tryz.func73, Tryz.ntmps73
      go_wp2_with fail
      go_ret
      exact ⟨by rw [HE.out]; rfl, HB.out⟩
  | false =>
    cases hq : q0.toList.isEmpty with
    | true =>
      have HE : Hid (r = -1) := Lib.hid (by rw [HR.out, hp, hq]; rfl)
      clear HR
      go_enter Tryz.func73, Tryz.ntmps73
      go_wp2_with fail
      go_ret
      exact ⟨by rw [HE.out]; rfl, HB.out⟩
    | false =>
      have HE : Hid (r = 0) := Lib.hid (by rw [HR.out, hp, hq]; rfl)
      clear HR
      go_enter Tryz.func73, Tryz.ntmps73
      go_wp2_with fail
      go_ret
      exact ⟨by rw [HE.out]; rfl, HB.out⟩
end Go.Proofs.YtjphjblcahadkaaGreat

namespace Go.Proofs.YtjphjblcahadkaaGreat
set_option linter.unusedVariables false
open Go.RowKit

/-- The code's orders: of rules as they are asked, of shelves. -/
def ordAhead_ (a b : Rl) : Int := firstNZ [cmpI a.rank b.rank, lastI a b, Pl.cmp a.zone b.zone]
def ordAhead (x y : List Value) : Int := ordAhead_ (rlOf x) (rlOf y)
theorem ordAhead_eq (x y : List Value) : ordAhead x y = ordAhead_ (rlOf x) (rlOf y) := rfl
def ordNear_ (a b : Bn) : Int := firstNZ [cmpI a.aisle b.aisle, cmpI a.place b.place, Pl.cmp a.code b.code]
def ordNear (x y : List Value) : Int := ordNear_ (bnOf x) (bnOf y)
theorem ordNear_eq (x y : List Value) : ordNear x y = ordNear_ (bnOf x) (bnOf y) := rfl
def ordRule_ (a b : Rl) : Int := firstNZ [Pl.cmp a.item b.item, Pl.cmp a.zone b.zone]
theorem ordRule_eq (x y : List Value) : ordRule x y = ordRule_ (rlOf x) (rlOf y) := by
  show (if Pl.cmp (rlOf x).item (rlOf y).item = 0 then Pl.cmp (rlOf x).zone (rlOf y).zone else Pl.cmp (rlOf x).item (rlOf y).item) = (if Pl.cmp (rlOf x).item (rlOf y).item = 0 then (if Pl.cmp (rlOf x).zone (rlOf y).zone = 0 then firstNZ [] else Pl.cmp (rlOf x).zone (rlOf y).zone) else Pl.cmp (rlOf x).item (rlOf y).item)
  by_cases h1 : Pl.cmp (rlOf x).item (rlOf y).item = 0
  · rw [if_pos h1, if_pos h1]
    by_cases h2 : Pl.cmp (rlOf x).zone (rlOf y).zone = 0
    · rw [if_pos h2, h2]; rfl
    · rw [if_neg h2]
  · rw [if_neg h1, if_neg h1]
theorem lt_last_or (a b : ByteArray) : decide (firstNZ [Pl.cmp a b] < 0) = Pl.lt a b := by
  rw [← cmp_neg]
  show decide ((if Pl.cmp a b = 0 then firstNZ [] else Pl.cmp a b) < 0) = _
  by_cases h : Pl.cmp a b = 0
  · rw [if_pos h, h]; rfl
  · rw [if_neg h]
theorem less_ahead (x y : List Value) : lessO ordAhead x y = aheadR (rlOf x) (rlOf y) := by
  unfold lessO ordAhead ordAhead_ aheadR Pl.lex
  rw [orI_neg _ _ (cmpI_three _ _), orI_neg _ _ (lastI_three _ _), cmpI_neg, cmpI_pos, lastI_neg, lastI_pos, lt_last_or]
theorem less_near (x y : List Value) : lessO ordNear x y = nearB (bnOf x) (bnOf y) := by
  unfold lessO ordNear ordNear_ nearB Pl.lex
  rw [orI_neg _ _ (cmpI_three _ _), orI_neg _ _ (cmpI_three _ _), cmpI_neg, cmpI_pos, cmpI_neg, cmpI_pos, lt_last_or]
theorem weak_ahead : Pl.Weak (lessO ordAhead) := by
  have e : lessO ordAhead = fun x y => aheadR (rlOf x) (rlOf y) := by funext x y; exact less_ahead x y
  rw [e]; exact aheadR_weak.on rlOf
theorem weak_near : Pl.Weak (lessO ordNear) := by
  have e : lessO ordNear = fun x y => nearB (bnOf x) (bnOf y) := by funext x y; exact less_near x y
  rw [e]; exact nearB_weak.on bnOf
set_option maxRecDepth 100000 in
set_option maxHeartbeats 1600000 in
theorem cordA_any (x y : List Value) (w : World) (hx : Fits kRule x) (hy : Fits kRule y) : Calls Tryz.prog 71 #[.agg x.toArray, .agg y.toArray] w fun e w' => e = .returned (.int .i64 (ordAhead x y)) ∧ Below w.heap.size w w' := by
  have hxr := rl_cells hx
  have hyr := rl_cells hy
  have HV : Hid (ordAhead x y = ordAhead_ (rlOf x) (rlOf y)) := Lib.hid (ordAhead_eq x y)
  obtain ⟨p, hp⟩ : ∃ p, rlOf x = p := ⟨_, rfl⟩
  obtain ⟨q, hq⟩ : ∃ q, rlOf y = q := ⟨_, rfl⟩
  rw [hp] at hxr HV
  rw [hq] at hyr HV
  obtain ⟨v, hv⟩ : ∃ v, ordAhead x y = v := ⟨_, rfl⟩
  rw [hv] at HV ⊢
  subst hxr hyr
  clear hp hq hx hy hv
  obtain ⟨p0, p1, p2⟩ := p
  obtain ⟨q0, q1, q2⟩ := q
  have HV2 : Hid (v = firstNZ [cmpI p2 q2, lastI (Rl.mk p0 p1 p2) (Rl.mk q0 q1 q2), Pl.cmp p1 q1]) := Lib.hid HV.out
  clear HV
  have HV := HV2
  clear HV2
  unfold Rl.cells
  obtain ⟨W0, hW0⟩ : ∃ W0, W0 = ((w.alloc (.cells #[.string p0, .string p1, .int .i64 p2] 39)).alloc (.cells #[.string q0, .string q1, .int .i64 q2] 39)) := ⟨_, rfl⟩
  have B0 : Hid (Below w.heap.size w W0) := Lib.hid (by rw [hW0]; exact ((Below.refl _ _).alloc (Nat.le_refl _) _).alloc (by simp <;> omega) _)
  have HX0 : Hid (W0.heap[w.heap.size]? = some (.cells #[.string p0, .string p1, .int .i64 p2] 39 (0, 0))) := Lib.hid (by
    rw [hW0]
    have hq := heap_alloc_new w (.cells #[.string p0, .string p1, .int .i64 p2] 39)
    exact (Below.heap_alloc _ _ _ (by simp <;> omega)).trans (by simpa using hq))
  have HY0 : Hid (W0.heap[w.heap.size + 1]? = some (.cells #[.string q0, .string q1, .int .i64 q2] 39 (0, 0))) := Lib.hid (by
    rw [hW0]
    have hq := heap_alloc_new (w.alloc (.cells #[.string p0, .string p1, .int .i64 p2] 39)) (.cells #[.string q0, .string q1, .int .i64 q2] 39)
    exact by simpa using hq)
  have huh := Tryz.underlying37
  have HSH : Hid (∀ a : Hs, (Tryz.prog.info? 37).map (·.size) = some a.cells.size) := Lib.hid (fun a => by kernel_rfl)
  have HSHL : Hid (∀ a : Hs, (Tryz.prog.info? 37).map (·.size) = some a.cells.toList.length) := Lib.hid (fun a => by kernel_rfl)
  have H1C : Hid (∀ a : Hs, a.cells.all (·.oneCell') = true) := Lib.hid (fun a => by simp [Hs.cells, Value.oneCell'])
  have huRule := Tryz.underlying39
  have HSRule : Hid ((Tryz.prog.info? 39).map (·.size) = some 3) := Lib.hid (by kernel_rfl)
  obtain ⟨w1, hw1⟩ : ∃ w1, w1 = W0 := ⟨_, rfl⟩
  have HX1 := HX0
  have HY1 := HY0
  have B1 := B0
  rw [← hw1] at HX1 HY1 B1
  have hsz : w.heap.size + 2 ≤ w1.heap.size := by rw [hw1, hW0]; simp
  have HBX : Hid (w.heap.size + 2 ≤ w1.heap.size) := Lib.hid hsz
  clear HX0 HY0 B0 hsz
  skip
  subst hW0
  go_enter Tryz.func71, Tryz.ntmps71
  go_wp2_with fail
  rw [← hw1]
  clear hw1
  have HST : Hid (∀ X, Below w1.heap.size w1 X → X.cell? ⟨w.heap.size, 2, none⟩ = some (.int .i64 p2) ∧ X.cell? ⟨(w.heap.size + 1), 2, none⟩ = some (.int .i64 q2) ∧ X.rangeAt w.heap.size 0 [.string p0, .string p1, .int .i64 p2] ∧ X.rangeAt (w.heap.size + 1) 0 [.string q0, .string q1, .int .i64 q2] ∧ X.cell? ⟨w.heap.size, 1, none⟩ = some (.string p1) ∧ X.cell? ⟨(w.heap.size + 1), 1, none⟩ = some (.string q1)) := Lib.hid (fun X hX => ⟨(by rw [cell_of_block ((hX.block _ (lt_of_block HX1.out)).trans HX1.out)]; rfl), (by rw [cell_of_block ((hX.block _ (lt_of_block HY1.out)).trans HY1.out)]; rfl), range_row0 ((hX.block _ (lt_of_block HX1.out)).trans HX1.out), range_row0 ((hX.block _ (lt_of_block HY1.out)).trans HY1.out), (by rw [cell_of_block ((hX.block _ (lt_of_block HX1.out)).trans HX1.out)]; rfl), (by rw [cell_of_block ((hX.block _ (lt_of_block HY1.out)).trans HY1.out)]; rfl)⟩)
  have BN := Lib.hid (Below.refl w1.heap.size w1).drew
  have ST0 := HST.out _ BN.out
  refine wp_region_noPanic ?_
  refine wp_region_held_drew (S := (fun w' => w'.cell? ⟨w.heap.size, 2, none⟩ = some (.int .i64 p2) ∧ w'.cell? ⟨(w.heap.size + 1), 2, none⟩ = some (.int .i64 q2) ∧ w'.rangeAt w.heap.size 0 [.string p0, .string p1, .int .i64 p2] ∧ w'.rangeAt (w.heap.size + 1) 0 [.string q0, .string q1, .int .i64 q2] ∧ w'.cell? ⟨w.heap.size, 1, none⟩ = some (.string p1) ∧ w'.cell? ⟨(w.heap.size + 1), 1, none⟩ = some (.string q1))) (by kernel_rfl) ST0 (fun dd0 => ?_)
  refine wpAnyH_take (i := 0) (v := .pointer (some ⟨w.heap.size, 2, none⟩)) rfl (by kernel_rfl) (by kernel_rfl) (by kernel_rfl) (fun _ _ _ h => h.elim) (.inl ⟨by kernel_rfl, fun w hw => by clear hw; go_simp⟩) (by assumption) ?_
  (try simp only [Act.put, List.getElem_toArray, List.getElem_cons_zero, List.setIfInBounds_toArray, List.set_cons_zero, List.set_cons_succ])
  refine wpAnyH_take (i := 1) (v := .int .i64 p2) rfl (by kernel_rfl) (by kernel_rfl) (by kernel_rfl) (fun _ _ _ h => h.elim) (.inl ⟨by kernel_rfl, fun w h => by have hw := h.1; clear h; go_simp⟩) (by assumption) ?_
  (try simp only [Act.put, List.getElem_toArray, List.getElem_cons_succ, List.getElem_cons_zero, List.setIfInBounds_toArray, List.set_cons_zero, List.set_cons_succ])
  refine wpAnyH_take (i := 2) (v := .pointer (some ⟨(w.heap.size + 1), 2, none⟩)) rfl (by kernel_rfl) (by kernel_rfl) (by kernel_rfl) (fun _ _ _ h => h.elim) (.inl ⟨by kernel_rfl, fun w hw => by clear hw; go_simp⟩) (by assumption) ?_
  (try simp only [Act.put, List.getElem_toArray, List.getElem_cons_succ, List.getElem_cons_zero, List.setIfInBounds_toArray, List.set_cons_zero, List.set_cons_succ])
  refine wpAnyH_take (i := 3) (v := .int .i64 q2) rfl (by kernel_rfl) (by kernel_rfl) (by kernel_rfl) (fun _ _ _ h => h.elim) (.inl ⟨by kernel_rfl, fun w h => by have hw := h.2.1; clear h; go_simp⟩) (by assumption) ?_
  (try simp only [Act.put, List.getElem_toArray, List.getElem_cons_succ, List.getElem_cons_zero, List.setIfInBounds_toArray, List.set_cons_zero, List.set_cons_succ])
  refine wpAnyH_take (i := 5) (v := .agg #[.string p0, .string p1, .int .i64 p2]) rfl (by kernel_rfl) (by kernel_rfl) (by kernel_rfl) (fun _ _ _ h => h.elim) (yieldsIf_load_mid (by kernel_rfl) 39 (.tmp 2) rfl w.heap.size 0 rfl [.string p0, .string p1, .int .i64 p2] _ (fun w h => h.2.2.1) huRule rfl HSRule.out) (by assumption) ?_
  (try simp only [Act.put, List.getElem_toArray, List.getElem_cons_succ, List.getElem_cons_zero, List.setIfInBounds_toArray, List.set_cons_zero, List.set_cons_succ])
  refine wpAnyH_take (i := 6) (v := .agg #[.string q0, .string q1, .int .i64 q2]) rfl (by kernel_rfl) (by kernel_rfl) (by kernel_rfl) (fun _ _ _ h => h.elim) (yieldsIf_load_mid (by kernel_rfl) 39 (.tmp 3) rfl (w.heap.size + 1) 0 rfl [.string q0, .string q1, .int .i64 q2] _ (fun w h => h.2.2.2.1) huRule rfl HSRule.out) (by assumption) ?_
  (try simp only [Act.put, List.getElem_toArray, List.getElem_cons_succ, List.getElem_cons_zero, List.setIfInBounds_toArray, List.set_cons_zero, List.set_cons_succ])
  refine wpAnyH_take (i := 8) (v := .pointer (some ⟨w.heap.size, 1, none⟩)) rfl (by kernel_rfl) (by kernel_rfl) (by kernel_rfl) (fun _ _ _ h => h.elim) (.inl ⟨by kernel_rfl, fun w hw => by clear hw; go_simp⟩) (by assumption) ?_
  (try simp only [Act.put, List.getElem_toArray, List.getElem_cons_succ, List.getElem_cons_zero, List.setIfInBounds_toArray, List.set_cons_zero, List.set_cons_succ])
  refine wpAnyH_take (i := 9) (v := .string p1) rfl (by kernel_rfl) (by kernel_rfl) (by kernel_rfl) (fun _ _ _ h => h.elim) (.inl ⟨by kernel_rfl, fun w h => by have hw := h.2.2.2.2.1; clear h; go_simp⟩) (by assumption) ?_
  (try simp only [Act.put, List.getElem_toArray, List.getElem_cons_succ, List.getElem_cons_zero, List.setIfInBounds_toArray, List.set_cons_zero, List.set_cons_succ])
  refine wpAnyH_take (i := 10) (v := .pointer (some ⟨(w.heap.size + 1), 1, none⟩)) rfl (by kernel_rfl) (by kernel_rfl) (by kernel_rfl) (fun _ _ _ h => h.elim) (.inl ⟨by kernel_rfl, fun w hw => by clear hw; go_simp⟩) (by assumption) ?_
  (try simp only [Act.put, List.getElem_toArray, List.getElem_cons_succ, List.getElem_cons_zero, List.setIfInBounds_toArray, List.set_cons_zero, List.set_cons_succ])
  refine wpAnyH_take (i := 11) (v := .string q1) rfl (by kernel_rfl) (by kernel_rfl) (by kernel_rfl) (fun _ _ _ h => h.elim) (.inl ⟨by kernel_rfl, fun w h => by have hw := h.2.2.2.2.2; clear h; go_simp⟩) (by assumption) ?_
  (try simp only [Act.put, List.getElem_toArray, List.getElem_cons_succ, List.getElem_cons_zero, List.setIfInBounds_toArray, List.set_cons_zero, List.set_cons_succ])
  refine wpAnyH_ready (rs := [4]) (by kernel_rfl) (by simp) ?_
  refine AllReadyH.cons rfl (fun K' hK => ?_) AllReadyH.nil
  go_simp
  refine ((same_below (compareI_any p2 q2 _))).mono ?_
  rintro e wn ⟨rfl, hbn⟩
  have BN := Lib.hid (BN.out.trans (hbn.mono BN.out.size))
  clear hbn
  refine hK.out _ _ (HST.out _ BN.out) (fun _ => ?_)
  clear hK K'
  (try simp only [Act.put, List.getElem_toArray, List.getElem_cons_succ, List.getElem_cons_zero, List.setIfInBounds_toArray, List.set_cons_zero, List.set_cons_succ])
  refine wpAnyH_ready (rs := [7]) (by kernel_rfl) (by simp) ?_
  refine AllReadyH.cons rfl (fun K' hK => ?_) AllReadyH.nil
  go_simp
  refine ((last_any p0 p1 p2 q0 q1 q2 _)).mono ?_
  rintro e wn ⟨rfl, hbn⟩
  have BN := Lib.hid (BN.out.trans (hbn.mono BN.out.size))
  clear hbn
  refine hK.out _ _ (HST.out _ BN.out) (fun _ => ?_)
  clear hK K'
  (try simp only [Act.put, List.getElem_toArray, List.getElem_cons_succ, List.getElem_cons_zero, List.setIfInBounds_toArray, List.set_cons_zero, List.set_cons_succ])
  refine wpAnyH_ready (rs := [12]) (by kernel_rfl) (by simp) ?_
  refine AllReadyH.cons rfl (fun K' hK => ?_) AllReadyH.nil
  go_simp
  refine ((same_below (compare_any p1 q1 _))).mono ?_
  rintro e wn ⟨rfl, hbn⟩
  have BN := Lib.hid (BN.out.trans (hbn.mono BN.out.size))
  clear hbn
  refine hK.out _ _ (HST.out _ BN.out) (fun _ => ?_)
  clear hK K'
  (try simp only [Act.put, List.getElem_toArray, List.getElem_cons_succ, List.getElem_cons_zero, List.setIfInBounds_toArray, List.set_cons_zero, List.set_cons_succ])
  refine wpAnyH_ready (rs := [13]) (by kernel_rfl) (by simp) ?_
  refine AllReadyH.cons rfl (fun K' hK => ?_) AllReadyH.nil
  go_simp
  obtain ⟨wb13, hwb⟩ : ∃ W, W = (wn.alloc (.cells #[.int .i64 (cmpI p2 q2), .int .i64 (lastI (Rl.mk p0 p1 p2) (Rl.mk q0 q1 q2)), .int .i64 (Pl.cmp p1 q1)] 3)) := ⟨_, rfl⟩
  obtain ⟨gb13, hgb⟩ : ∃ g, g = wn.heap.size := ⟨_, rfl⟩
  have HBS13 : Hid (Rd wb13 wb13.heap.size (some ⟨gb13, 0, none⟩) [.int .i64 (cmpI p2 q2), .int .i64 (lastI (Rl.mk p0 p1 p2) (Rl.mk q0 q1 q2)), .int .i64 (Pl.cmp p1 q1)]) := Lib.hid (by rw [hwb, hgb]; exact (rd_one wn [.int .i64 (cmpI p2 q2), .int .i64 (lastI (Rl.mk p0 p1 p2) (Rl.mk q0 q1 q2)), .int .i64 (Pl.cmp p1 q1)] 3).mono (by simp))
  have hbn : Below wn.heap.size wn wb13 := by rw [hwb]; exact ((Below.refl _ _).alloc (Nat.le_refl _) _)
  have BN := Lib.hid (BN.out.trans (hbn.mono BN.out.size))
  rw [← hwb, ← hgb]
  clear hbn hwb hgb
  refine hK.out _ _ (HST.out _ BN.out) (fun _ => ?_)
  clear hK K'
  (try simp only [Act.put, List.getElem_toArray, List.getElem_cons_succ, List.getElem_cons_zero, List.setIfInBounds_toArray, List.set_cons_zero, List.set_cons_succ])
  refine wpAnyH_ready (rs := [14]) (by kernel_rfl) (by simp) ?_
  refine AllReadyH.cons rfl (fun K' hK => ?_) AllReadyH.nil
  go_simp
  refine ((same_below (or_any _ 3 3 [cmpI p2 q2, lastI (Rl.mk p0 p1 p2) (Rl.mk q0 q1 q2), Pl.cmp p1 q1] _ rfl (by decide) (by have := HBS13.out; exact this)))).mono ?_
  rintro e wn ⟨rfl, hbn⟩
  have BN := Lib.hid (BN.out.trans (hbn.mono BN.out.size))
  clear hbn
  refine hK.out _ _ (HST.out _ BN.out) (fun _ => ?_)
  clear hK K'
  (try simp only [Act.put, List.getElem_toArray, List.getElem_cons_succ, List.getElem_cons_zero, List.setIfInBounds_toArray, List.set_cons_zero, List.set_cons_succ])
  refine wpAnyH_take (i := 15) (v := .int .i64 (firstNZ [cmpI p2 q2, lastI (Rl.mk p0 p1 p2) (Rl.mk q0 q1 q2), Pl.cmp p1 q1])) rfl (by kernel_rfl) (by kernel_rfl) (by kernel_rfl) (fun _ _ _ h => h.elim) (.inl ⟨by kernel_rfl, fun w hw => by clear hw; go_simp⟩) (by assumption) ?_
  (try simp only [Act.put, List.getElem_toArray, List.getElem_cons_succ, List.getElem_cons_zero, List.setIfInBounds_toArray, List.set_cons_zero, List.set_cons_succ])
  refine wpAnyH_done (by kernel_rfl) ?_ _
  refine NoPanic.normal ?_
  clear ST0
  go_wp2_with fail
  go_ret
  exact ⟨by rw [HV.out]; rfl, B1.out.trans (BN.out.mono B1.out.size)⟩
theorem tellsA : TellsC kRule 71 ordAhead := ⟨fun args W => by kernel_rfl, fun W a b ha hb => cordA_any a b W ha hb⟩
set_option maxRecDepth 100000 in
set_option maxHeartbeats 1600000 in
theorem cordN_any (x y : List Value) (w : World) (hx : Fits kBin x) (hy : Fits kBin y) : Calls Tryz.prog 78 #[.agg x.toArray, .agg y.toArray] w fun e w' => e = .returned (.int .i64 (ordNear x y)) ∧ Below w.heap.size w w' := by
  have hxr := bn_cells hx
  have hyr := bn_cells hy
  have HV : Hid (ordNear x y = ordNear_ (bnOf x) (bnOf y)) := Lib.hid (ordNear_eq x y)
  obtain ⟨p, hp⟩ : ∃ p, bnOf x = p := ⟨_, rfl⟩
  obtain ⟨q, hq⟩ : ∃ q, bnOf y = q := ⟨_, rfl⟩
  rw [hp] at hxr HV
  rw [hq] at hyr HV
  obtain ⟨v, hv⟩ : ∃ v, ordNear x y = v := ⟨_, rfl⟩
  rw [hv] at HV ⊢
  subst hxr hyr
  clear hp hq hx hy hv
  obtain ⟨p0, p1, p2, p3, p4, p5, p6, p7⟩ := p
  obtain ⟨q0, q1, q2, q3, q4, q5, q6, q7⟩ := q
  have HV2 : Hid (v = firstNZ [cmpI p3 q3, cmpI p4 q4, Pl.cmp p0 q0]) := Lib.hid HV.out
  clear HV
  have HV := HV2
  clear HV2
  unfold Bn.cells
  obtain ⟨W0, hW0⟩ : ∃ W0, W0 = ((w.alloc (.cells #[.string p0, .string p1, .int .i64 p2, .int .i64 p3, .int .i64 p4, .int .i64 p5, .int .i64 p6, .bool p7] 68)).alloc (.cells #[.string q0, .string q1, .int .i64 q2, .int .i64 q3, .int .i64 q4, .int .i64 q5, .int .i64 q6, .bool q7] 68)) := ⟨_, rfl⟩
  have B0 : Hid (Below w.heap.size w W0) := Lib.hid (by rw [hW0]; exact ((Below.refl _ _).alloc (Nat.le_refl _) _).alloc (by simp <;> omega) _)
  have HX0 : Hid (W0.heap[w.heap.size]? = some (.cells #[.string p0, .string p1, .int .i64 p2, .int .i64 p3, .int .i64 p4, .int .i64 p5, .int .i64 p6, .bool p7] 68 (0, 0))) := Lib.hid (by
    rw [hW0]
    have hq := heap_alloc_new w (.cells #[.string p0, .string p1, .int .i64 p2, .int .i64 p3, .int .i64 p4, .int .i64 p5, .int .i64 p6, .bool p7] 68)
    exact (Below.heap_alloc _ _ _ (by simp <;> omega)).trans (by simpa using hq))
  have HY0 : Hid (W0.heap[w.heap.size + 1]? = some (.cells #[.string q0, .string q1, .int .i64 q2, .int .i64 q3, .int .i64 q4, .int .i64 q5, .int .i64 q6, .bool q7] 68 (0, 0))) := Lib.hid (by
    rw [hW0]
    have hq := heap_alloc_new (w.alloc (.cells #[.string p0, .string p1, .int .i64 p2, .int .i64 p3, .int .i64 p4, .int .i64 p5, .int .i64 p6, .bool p7] 68)) (.cells #[.string q0, .string q1, .int .i64 q2, .int .i64 q3, .int .i64 q4, .int .i64 q5, .int .i64 q6, .bool q7] 68)
    exact by simpa using hq)
  have huh := Tryz.underlying37
  have HSH : Hid (∀ a : Hs, (Tryz.prog.info? 37).map (·.size) = some a.cells.size) := Lib.hid (fun a => by kernel_rfl)
  have HSHL : Hid (∀ a : Hs, (Tryz.prog.info? 37).map (·.size) = some a.cells.toList.length) := Lib.hid (fun a => by kernel_rfl)
  have H1C : Hid (∀ a : Hs, a.cells.all (·.oneCell') = true) := Lib.hid (fun a => by simp [Hs.cells, Value.oneCell'])
  have huBin := Tryz.underlying68
  have HSBin : Hid ((Tryz.prog.info? 68).map (·.size) = some 8) := Lib.hid (by kernel_rfl)
  obtain ⟨w1, hw1⟩ : ∃ w1, w1 = W0 := ⟨_, rfl⟩
  have HX1 := HX0
  have HY1 := HY0
  have B1 := B0
  rw [← hw1] at HX1 HY1 B1
  have hsz : w.heap.size + 2 ≤ w1.heap.size := by rw [hw1, hW0]; simp
  have HBX : Hid (w.heap.size + 2 ≤ w1.heap.size) := Lib.hid hsz
  clear HX0 HY0 B0 hsz
  skip
  subst hW0
  go_enter Tryz.func78, Tryz.ntmps78
  go_wp2_with fail
  rw [← hw1]
  clear hw1
  have HST : Hid (∀ X, Below w1.heap.size w1 X → X.cell? ⟨w.heap.size, 3, none⟩ = some (.int .i64 p3) ∧ X.cell? ⟨(w.heap.size + 1), 3, none⟩ = some (.int .i64 q3) ∧ X.cell? ⟨w.heap.size, 4, none⟩ = some (.int .i64 p4) ∧ X.cell? ⟨(w.heap.size + 1), 4, none⟩ = some (.int .i64 q4) ∧ X.cell? ⟨w.heap.size, 0, none⟩ = some (.string p0) ∧ X.cell? ⟨(w.heap.size + 1), 0, none⟩ = some (.string q0)) := Lib.hid (fun X hX => ⟨(by rw [cell_of_block ((hX.block _ (lt_of_block HX1.out)).trans HX1.out)]; rfl), (by rw [cell_of_block ((hX.block _ (lt_of_block HY1.out)).trans HY1.out)]; rfl), (by rw [cell_of_block ((hX.block _ (lt_of_block HX1.out)).trans HX1.out)]; rfl), (by rw [cell_of_block ((hX.block _ (lt_of_block HY1.out)).trans HY1.out)]; rfl), (by rw [cell_of_block ((hX.block _ (lt_of_block HX1.out)).trans HX1.out)]; rfl), (by rw [cell_of_block ((hX.block _ (lt_of_block HY1.out)).trans HY1.out)]; rfl)⟩)
  have BN := Lib.hid (Below.refl w1.heap.size w1).drew
  have ST0 := HST.out _ BN.out
  refine wp_region_noPanic ?_
  refine wp_region_held_drew (S := (fun w' => w'.cell? ⟨w.heap.size, 3, none⟩ = some (.int .i64 p3) ∧ w'.cell? ⟨(w.heap.size + 1), 3, none⟩ = some (.int .i64 q3) ∧ w'.cell? ⟨w.heap.size, 4, none⟩ = some (.int .i64 p4) ∧ w'.cell? ⟨(w.heap.size + 1), 4, none⟩ = some (.int .i64 q4) ∧ w'.cell? ⟨w.heap.size, 0, none⟩ = some (.string p0) ∧ w'.cell? ⟨(w.heap.size + 1), 0, none⟩ = some (.string q0))) (by kernel_rfl) ST0 (fun dd0 => ?_)
  refine wpAnyH_take (i := 0) (v := .pointer (some ⟨w.heap.size, 3, none⟩)) rfl (by kernel_rfl) (by kernel_rfl) (by kernel_rfl) (fun _ _ _ h => h.elim) (.inl ⟨by kernel_rfl, fun w hw => by clear hw; go_simp⟩) (by assumption) ?_
  (try simp only [Act.put, List.getElem_toArray, List.getElem_cons_zero, List.setIfInBounds_toArray, List.set_cons_zero, List.set_cons_succ])
  refine wpAnyH_take (i := 1) (v := .int .i64 p3) rfl (by kernel_rfl) (by kernel_rfl) (by kernel_rfl) (fun _ _ _ h => h.elim) (.inl ⟨by kernel_rfl, fun w h => by have hw := h.1; clear h; go_simp⟩) (by assumption) ?_
  (try simp only [Act.put, List.getElem_toArray, List.getElem_cons_succ, List.getElem_cons_zero, List.setIfInBounds_toArray, List.set_cons_zero, List.set_cons_succ])
  refine wpAnyH_take (i := 2) (v := .pointer (some ⟨(w.heap.size + 1), 3, none⟩)) rfl (by kernel_rfl) (by kernel_rfl) (by kernel_rfl) (fun _ _ _ h => h.elim) (.inl ⟨by kernel_rfl, fun w hw => by clear hw; go_simp⟩) (by assumption) ?_
  (try simp only [Act.put, List.getElem_toArray, List.getElem_cons_succ, List.getElem_cons_zero, List.setIfInBounds_toArray, List.set_cons_zero, List.set_cons_succ])
  refine wpAnyH_take (i := 3) (v := .int .i64 q3) rfl (by kernel_rfl) (by kernel_rfl) (by kernel_rfl) (fun _ _ _ h => h.elim) (.inl ⟨by kernel_rfl, fun w h => by have hw := h.2.1; clear h; go_simp⟩) (by assumption) ?_
  (try simp only [Act.put, List.getElem_toArray, List.getElem_cons_succ, List.getElem_cons_zero, List.setIfInBounds_toArray, List.set_cons_zero, List.set_cons_succ])
  refine wpAnyH_take (i := 5) (v := .pointer (some ⟨w.heap.size, 4, none⟩)) rfl (by kernel_rfl) (by kernel_rfl) (by kernel_rfl) (fun _ _ _ h => h.elim) (.inl ⟨by kernel_rfl, fun w hw => by clear hw; go_simp⟩) (by assumption) ?_
  (try simp only [Act.put, List.getElem_toArray, List.getElem_cons_succ, List.getElem_cons_zero, List.setIfInBounds_toArray, List.set_cons_zero, List.set_cons_succ])
  refine wpAnyH_take (i := 6) (v := .int .i64 p4) rfl (by kernel_rfl) (by kernel_rfl) (by kernel_rfl) (fun _ _ _ h => h.elim) (.inl ⟨by kernel_rfl, fun w h => by have hw := h.2.2.1; clear h; go_simp⟩) (by assumption) ?_
  (try simp only [Act.put, List.getElem_toArray, List.getElem_cons_succ, List.getElem_cons_zero, List.setIfInBounds_toArray, List.set_cons_zero, List.set_cons_succ])
  refine wpAnyH_take (i := 7) (v := .pointer (some ⟨(w.heap.size + 1), 4, none⟩)) rfl (by kernel_rfl) (by kernel_rfl) (by kernel_rfl) (fun _ _ _ h => h.elim) (.inl ⟨by kernel_rfl, fun w hw => by clear hw; go_simp⟩) (by assumption) ?_
  (try simp only [Act.put, List.getElem_toArray, List.getElem_cons_succ, List.getElem_cons_zero, List.setIfInBounds_toArray, List.set_cons_zero, List.set_cons_succ])
  refine wpAnyH_take (i := 8) (v := .int .i64 q4) rfl (by kernel_rfl) (by kernel_rfl) (by kernel_rfl) (fun _ _ _ h => h.elim) (.inl ⟨by kernel_rfl, fun w h => by have hw := h.2.2.2.1; clear h; go_simp⟩) (by assumption) ?_
  (try simp only [Act.put, List.getElem_toArray, List.getElem_cons_succ, List.getElem_cons_zero, List.setIfInBounds_toArray, List.set_cons_zero, List.set_cons_succ])
  refine wpAnyH_take (i := 10) (v := .pointer (some ⟨w.heap.size, 0, none⟩)) rfl (by kernel_rfl) (by kernel_rfl) (by kernel_rfl) (fun _ _ _ h => h.elim) (.inl ⟨by kernel_rfl, fun w hw => by clear hw; go_simp⟩) (by assumption) ?_
  (try simp only [Act.put, List.getElem_toArray, List.getElem_cons_succ, List.getElem_cons_zero, List.setIfInBounds_toArray, List.set_cons_zero, List.set_cons_succ])
  refine wpAnyH_take (i := 11) (v := .string p0) rfl (by kernel_rfl) (by kernel_rfl) (by kernel_rfl) (fun _ _ _ h => h.elim) (.inl ⟨by kernel_rfl, fun w h => by have hw := h.2.2.2.2.1; clear h; go_simp⟩) (by assumption) ?_
  (try simp only [Act.put, List.getElem_toArray, List.getElem_cons_succ, List.getElem_cons_zero, List.setIfInBounds_toArray, List.set_cons_zero, List.set_cons_succ])
  refine wpAnyH_take (i := 12) (v := .pointer (some ⟨(w.heap.size + 1), 0, none⟩)) rfl (by kernel_rfl) (by kernel_rfl) (by kernel_rfl) (fun _ _ _ h => h.elim) (.inl ⟨by kernel_rfl, fun w hw => by clear hw; go_simp⟩) (by assumption) ?_
  (try simp only [Act.put, List.getElem_toArray, List.getElem_cons_succ, List.getElem_cons_zero, List.setIfInBounds_toArray, List.set_cons_zero, List.set_cons_succ])
  refine wpAnyH_take (i := 13) (v := .string q0) rfl (by kernel_rfl) (by kernel_rfl) (by kernel_rfl) (fun _ _ _ h => h.elim) (.inl ⟨by kernel_rfl, fun w h => by have hw := h.2.2.2.2.2; clear h; go_simp⟩) (by assumption) ?_
  (try simp only [Act.put, List.getElem_toArray, List.getElem_cons_succ, List.getElem_cons_zero, List.setIfInBounds_toArray, List.set_cons_zero, List.set_cons_succ])
  refine wpAnyH_ready (rs := [4]) (by kernel_rfl) (by simp) ?_
  refine AllReadyH.cons rfl (fun K' hK => ?_) AllReadyH.nil
  go_simp
  refine ((same_below (compareI_any p3 q3 _))).mono ?_
  rintro e wn ⟨rfl, hbn⟩
  have BN := Lib.hid (BN.out.trans (hbn.mono BN.out.size))
  clear hbn
  refine hK.out _ _ (HST.out _ BN.out) (fun _ => ?_)
  clear hK K'
  (try simp only [Act.put, List.getElem_toArray, List.getElem_cons_succ, List.getElem_cons_zero, List.setIfInBounds_toArray, List.set_cons_zero, List.set_cons_succ])
  refine wpAnyH_ready (rs := [9]) (by kernel_rfl) (by simp) ?_
  refine AllReadyH.cons rfl (fun K' hK => ?_) AllReadyH.nil
  go_simp
  refine ((same_below (compareI_any p4 q4 _))).mono ?_
  rintro e wn ⟨rfl, hbn⟩
  have BN := Lib.hid (BN.out.trans (hbn.mono BN.out.size))
  clear hbn
  refine hK.out _ _ (HST.out _ BN.out) (fun _ => ?_)
  clear hK K'
  (try simp only [Act.put, List.getElem_toArray, List.getElem_cons_succ, List.getElem_cons_zero, List.setIfInBounds_toArray, List.set_cons_zero, List.set_cons_succ])
  refine wpAnyH_ready (rs := [14]) (by kernel_rfl) (by simp) ?_
  refine AllReadyH.cons rfl (fun K' hK => ?_) AllReadyH.nil
  go_simp
  refine ((same_below (compare_any p0 q0 _))).mono ?_
  rintro e wn ⟨rfl, hbn⟩
  have BN := Lib.hid (BN.out.trans (hbn.mono BN.out.size))
  clear hbn
  refine hK.out _ _ (HST.out _ BN.out) (fun _ => ?_)
  clear hK K'
  (try simp only [Act.put, List.getElem_toArray, List.getElem_cons_succ, List.getElem_cons_zero, List.setIfInBounds_toArray, List.set_cons_zero, List.set_cons_succ])
  refine wpAnyH_ready (rs := [15]) (by kernel_rfl) (by simp) ?_
  refine AllReadyH.cons rfl (fun K' hK => ?_) AllReadyH.nil
  go_simp
  obtain ⟨wb15, hwb⟩ : ∃ W, W = (wn.alloc (.cells #[.int .i64 (cmpI p3 q3), .int .i64 (cmpI p4 q4), .int .i64 (Pl.cmp p0 q0)] 3)) := ⟨_, rfl⟩
  obtain ⟨gb15, hgb⟩ : ∃ g, g = wn.heap.size := ⟨_, rfl⟩
  have HBS15 : Hid (Rd wb15 wb15.heap.size (some ⟨gb15, 0, none⟩) [.int .i64 (cmpI p3 q3), .int .i64 (cmpI p4 q4), .int .i64 (Pl.cmp p0 q0)]) := Lib.hid (by rw [hwb, hgb]; exact (rd_one wn [.int .i64 (cmpI p3 q3), .int .i64 (cmpI p4 q4), .int .i64 (Pl.cmp p0 q0)] 3).mono (by simp))
  have hbn : Below wn.heap.size wn wb15 := by rw [hwb]; exact ((Below.refl _ _).alloc (Nat.le_refl _) _)
  have BN := Lib.hid (BN.out.trans (hbn.mono BN.out.size))
  rw [← hwb, ← hgb]
  clear hbn hwb hgb
  refine hK.out _ _ (HST.out _ BN.out) (fun _ => ?_)
  clear hK K'
  (try simp only [Act.put, List.getElem_toArray, List.getElem_cons_succ, List.getElem_cons_zero, List.setIfInBounds_toArray, List.set_cons_zero, List.set_cons_succ])
  refine wpAnyH_ready (rs := [16]) (by kernel_rfl) (by simp) ?_
  refine AllReadyH.cons rfl (fun K' hK => ?_) AllReadyH.nil
  go_simp
  refine ((same_below (or_any _ 3 3 [cmpI p3 q3, cmpI p4 q4, Pl.cmp p0 q0] _ rfl (by decide) (by have := HBS15.out; exact this)))).mono ?_
  rintro e wn ⟨rfl, hbn⟩
  have BN := Lib.hid (BN.out.trans (hbn.mono BN.out.size))
  clear hbn
  refine hK.out _ _ (HST.out _ BN.out) (fun _ => ?_)
  clear hK K'
  (try simp only [Act.put, List.getElem_toArray, List.getElem_cons_succ, List.getElem_cons_zero, List.setIfInBounds_toArray, List.set_cons_zero, List.set_cons_succ])
  refine wpAnyH_take (i := 17) (v := .int .i64 (firstNZ [cmpI p3 q3, cmpI p4 q4, Pl.cmp p0 q0])) rfl (by kernel_rfl) (by kernel_rfl) (by kernel_rfl) (fun _ _ _ h => h.elim) (.inl ⟨by kernel_rfl, fun w hw => by clear hw; go_simp⟩) (by assumption) ?_
  (try simp only [Act.put, List.getElem_toArray, List.getElem_cons_succ, List.getElem_cons_zero, List.setIfInBounds_toArray, List.set_cons_zero, List.set_cons_succ])
  refine wpAnyH_done (by kernel_rfl) ?_ _
  refine NoPanic.normal ?_
  clear ST0
  go_wp2_with fail
  go_ret
  exact ⟨by rw [HV.out]; rfl, B1.out.trans (BN.out.mono B1.out.size)⟩
theorem tellsN : TellsC kBin 78 ordNear := ⟨fun args W => by kernel_rfl, fun W a b ha hb => cordN_any a b W ha hb⟩
set_option maxRecDepth 100000 in
set_option maxHeartbeats 1600000 in
theorem cordI_any (x y : List Value) (w : World) (hx : Fits kRule x) (hy : Fits kRule y) : Calls Tryz.prog 58 #[.agg x.toArray, .agg y.toArray] w fun e w' => e = .returned (.int .i64 (ordRule x y)) ∧ Below w.heap.size w w' := by
  have hxr := rl_cells hx
  have hyr := rl_cells hy
  have HV : Hid (ordRule x y = ordRule_ (rlOf x) (rlOf y)) := Lib.hid (ordRule_eq x y)
  obtain ⟨p, hp⟩ : ∃ p, rlOf x = p := ⟨_, rfl⟩
  obtain ⟨q, hq⟩ : ∃ q, rlOf y = q := ⟨_, rfl⟩
  rw [hp] at hxr HV
  rw [hq] at hyr HV
  obtain ⟨v, hv⟩ : ∃ v, ordRule x y = v := ⟨_, rfl⟩
  rw [hv] at HV ⊢
  subst hxr hyr
  clear hp hq hx hy hv
  obtain ⟨p0, p1, p2⟩ := p
  obtain ⟨q0, q1, q2⟩ := q
  have HV2 : Hid (v = firstNZ [Pl.cmp p0 q0, Pl.cmp p1 q1]) := Lib.hid HV.out
  clear HV
  have HV := HV2
  clear HV2
  unfold Rl.cells
  obtain ⟨W0, hW0⟩ : ∃ W0, W0 = ((w.alloc (.cells #[.string p0, .string p1, .int .i64 p2] 39)).alloc (.cells #[.string q0, .string q1, .int .i64 q2] 39)) := ⟨_, rfl⟩
  have B0 : Hid (Below w.heap.size w W0) := Lib.hid (by rw [hW0]; exact ((Below.refl _ _).alloc (Nat.le_refl _) _).alloc (by simp <;> omega) _)
  have HX0 : Hid (W0.heap[w.heap.size]? = some (.cells #[.string p0, .string p1, .int .i64 p2] 39 (0, 0))) := Lib.hid (by
    rw [hW0]
    have hq := heap_alloc_new w (.cells #[.string p0, .string p1, .int .i64 p2] 39)
    exact (Below.heap_alloc _ _ _ (by simp <;> omega)).trans (by simpa using hq))
  have HY0 : Hid (W0.heap[w.heap.size + 1]? = some (.cells #[.string q0, .string q1, .int .i64 q2] 39 (0, 0))) := Lib.hid (by
    rw [hW0]
    have hq := heap_alloc_new (w.alloc (.cells #[.string p0, .string p1, .int .i64 p2] 39)) (.cells #[.string q0, .string q1, .int .i64 q2] 39)
    exact by simpa using hq)
  have huh := Tryz.underlying37
  have HSH : Hid (∀ a : Hs, (Tryz.prog.info? 37).map (·.size) = some a.cells.size) := Lib.hid (fun a => by kernel_rfl)
  have HSHL : Hid (∀ a : Hs, (Tryz.prog.info? 37).map (·.size) = some a.cells.toList.length) := Lib.hid (fun a => by kernel_rfl)
  have H1C : Hid (∀ a : Hs, a.cells.all (·.oneCell') = true) := Lib.hid (fun a => by simp [Hs.cells, Value.oneCell'])
  have huRule := Tryz.underlying39
  have HSRule : Hid ((Tryz.prog.info? 39).map (·.size) = some 3) := Lib.hid (by kernel_rfl)
  obtain ⟨w1, hw1⟩ : ∃ w1, w1 = W0 := ⟨_, rfl⟩
  have HX1 := HX0
  have HY1 := HY0
  have B1 := B0
  rw [← hw1] at HX1 HY1 B1
  have hsz : w.heap.size + 2 ≤ w1.heap.size := by rw [hw1, hW0]; simp
  have HBX : Hid (w.heap.size + 2 ≤ w1.heap.size) := Lib.hid hsz
  clear HX0 HY0 B0 hsz
  skip
  subst hW0
  go_enter Tryz.func58, Tryz.ntmps58
  go_wp2_with fail
  rw [← hw1]
  clear hw1
  have HST : Hid (∀ X, Below w1.heap.size w1 X → X.cell? ⟨w.heap.size, 0, none⟩ = some (.string p0) ∧ X.cell? ⟨(w.heap.size + 1), 0, none⟩ = some (.string q0) ∧ X.cell? ⟨w.heap.size, 1, none⟩ = some (.string p1) ∧ X.cell? ⟨(w.heap.size + 1), 1, none⟩ = some (.string q1)) := Lib.hid (fun X hX => ⟨(by rw [cell_of_block ((hX.block _ (lt_of_block HX1.out)).trans HX1.out)]; rfl), (by rw [cell_of_block ((hX.block _ (lt_of_block HY1.out)).trans HY1.out)]; rfl), (by rw [cell_of_block ((hX.block _ (lt_of_block HX1.out)).trans HX1.out)]; rfl), (by rw [cell_of_block ((hX.block _ (lt_of_block HY1.out)).trans HY1.out)]; rfl)⟩)
  have BN := Lib.hid (Below.refl w1.heap.size w1).drew
  have ST0 := HST.out _ BN.out
  refine wp_region_noPanic ?_
  refine wp_region_held_drew (S := (fun w' => w'.cell? ⟨w.heap.size, 0, none⟩ = some (.string p0) ∧ w'.cell? ⟨(w.heap.size + 1), 0, none⟩ = some (.string q0) ∧ w'.cell? ⟨w.heap.size, 1, none⟩ = some (.string p1) ∧ w'.cell? ⟨(w.heap.size + 1), 1, none⟩ = some (.string q1))) (by kernel_rfl) ST0 (fun dd0 => ?_)
  refine wpAnyH_take (i := 0) (v := .pointer (some ⟨w.heap.size, 0, none⟩)) rfl (by kernel_rfl) (by kernel_rfl) (by kernel_rfl) (fun _ _ _ h => h.elim) (.inl ⟨by kernel_rfl, fun w hw => by clear hw; go_simp⟩) (by assumption) ?_
  (try simp only [Act.put, List.getElem_toArray, List.getElem_cons_zero, List.setIfInBounds_toArray, List.set_cons_zero, List.set_cons_succ])
  refine wpAnyH_take (i := 1) (v := .string p0) rfl (by kernel_rfl) (by kernel_rfl) (by kernel_rfl) (fun _ _ _ h => h.elim) (.inl ⟨by kernel_rfl, fun w h => by have hw := h.1; clear h; go_simp⟩) (by assumption) ?_
  (try simp only [Act.put, List.getElem_toArray, List.getElem_cons_succ, List.getElem_cons_zero, List.setIfInBounds_toArray, List.set_cons_zero, List.set_cons_succ])
  refine wpAnyH_take (i := 2) (v := .pointer (some ⟨(w.heap.size + 1), 0, none⟩)) rfl (by kernel_rfl) (by kernel_rfl) (by kernel_rfl) (fun _ _ _ h => h.elim) (.inl ⟨by kernel_rfl, fun w hw => by clear hw; go_simp⟩) (by assumption) ?_
  (try simp only [Act.put, List.getElem_toArray, List.getElem_cons_succ, List.getElem_cons_zero, List.setIfInBounds_toArray, List.set_cons_zero, List.set_cons_succ])
  refine wpAnyH_take (i := 3) (v := .string q0) rfl (by kernel_rfl) (by kernel_rfl) (by kernel_rfl) (fun _ _ _ h => h.elim) (.inl ⟨by kernel_rfl, fun w h => by have hw := h.2.1; clear h; go_simp⟩) (by assumption) ?_
  (try simp only [Act.put, List.getElem_toArray, List.getElem_cons_succ, List.getElem_cons_zero, List.setIfInBounds_toArray, List.set_cons_zero, List.set_cons_succ])
  refine wpAnyH_take (i := 5) (v := .pointer (some ⟨w.heap.size, 1, none⟩)) rfl (by kernel_rfl) (by kernel_rfl) (by kernel_rfl) (fun _ _ _ h => h.elim) (.inl ⟨by kernel_rfl, fun w hw => by clear hw; go_simp⟩) (by assumption) ?_
  (try simp only [Act.put, List.getElem_toArray, List.getElem_cons_succ, List.getElem_cons_zero, List.setIfInBounds_toArray, List.set_cons_zero, List.set_cons_succ])
  refine wpAnyH_take (i := 6) (v := .string p1) rfl (by kernel_rfl) (by kernel_rfl) (by kernel_rfl) (fun _ _ _ h => h.elim) (.inl ⟨by kernel_rfl, fun w h => by have hw := h.2.2.1; clear h; go_simp⟩) (by assumption) ?_
  (try simp only [Act.put, List.getElem_toArray, List.getElem_cons_succ, List.getElem_cons_zero, List.setIfInBounds_toArray, List.set_cons_zero, List.set_cons_succ])
  refine wpAnyH_take (i := 7) (v := .pointer (some ⟨(w.heap.size + 1), 1, none⟩)) rfl (by kernel_rfl) (by kernel_rfl) (by kernel_rfl) (fun _ _ _ h => h.elim) (.inl ⟨by kernel_rfl, fun w hw => by clear hw; go_simp⟩) (by assumption) ?_
  (try simp only [Act.put, List.getElem_toArray, List.getElem_cons_succ, List.getElem_cons_zero, List.setIfInBounds_toArray, List.set_cons_zero, List.set_cons_succ])
  refine wpAnyH_take (i := 8) (v := .string q1) rfl (by kernel_rfl) (by kernel_rfl) (by kernel_rfl) (fun _ _ _ h => h.elim) (.inl ⟨by kernel_rfl, fun w h => by have hw := h.2.2.2; clear h; go_simp⟩) (by assumption) ?_
  (try simp only [Act.put, List.getElem_toArray, List.getElem_cons_succ, List.getElem_cons_zero, List.setIfInBounds_toArray, List.set_cons_zero, List.set_cons_succ])
  refine wpAnyH_ready (rs := [4]) (by kernel_rfl) (by simp) ?_
  refine AllReadyH.cons rfl (fun K' hK => ?_) AllReadyH.nil
  go_simp
  refine ((same_below (compare_any p0 q0 _))).mono ?_
  rintro e wn ⟨rfl, hbn⟩
  have BN := Lib.hid (BN.out.trans (hbn.mono BN.out.size))
  clear hbn
  refine hK.out _ _ (HST.out _ BN.out) (fun _ => ?_)
  clear hK K'
  (try simp only [Act.put, List.getElem_toArray, List.getElem_cons_succ, List.getElem_cons_zero, List.setIfInBounds_toArray, List.set_cons_zero, List.set_cons_succ])
  refine wpAnyH_ready (rs := [9]) (by kernel_rfl) (by simp) ?_
  refine AllReadyH.cons rfl (fun K' hK => ?_) AllReadyH.nil
  go_simp
  refine ((same_below (compare_any p1 q1 _))).mono ?_
  rintro e wn ⟨rfl, hbn⟩
  have BN := Lib.hid (BN.out.trans (hbn.mono BN.out.size))
  clear hbn
  refine hK.out _ _ (HST.out _ BN.out) (fun _ => ?_)
  clear hK K'
  (try simp only [Act.put, List.getElem_toArray, List.getElem_cons_succ, List.getElem_cons_zero, List.setIfInBounds_toArray, List.set_cons_zero, List.set_cons_succ])
  refine wpAnyH_ready (rs := [10]) (by kernel_rfl) (by simp) ?_
  refine AllReadyH.cons rfl (fun K' hK => ?_) AllReadyH.nil
  go_simp
  obtain ⟨wb10, hwb⟩ : ∃ W, W = (wn.alloc (.cells #[.int .i64 (Pl.cmp p0 q0), .int .i64 (Pl.cmp p1 q1)] 3)) := ⟨_, rfl⟩
  obtain ⟨gb10, hgb⟩ : ∃ g, g = wn.heap.size := ⟨_, rfl⟩
  have HBS10 : Hid (Rd wb10 wb10.heap.size (some ⟨gb10, 0, none⟩) [.int .i64 (Pl.cmp p0 q0), .int .i64 (Pl.cmp p1 q1)]) := Lib.hid (by rw [hwb, hgb]; exact (rd_one wn [.int .i64 (Pl.cmp p0 q0), .int .i64 (Pl.cmp p1 q1)] 3).mono (by simp))
  have hbn : Below wn.heap.size wn wb10 := by rw [hwb]; exact ((Below.refl _ _).alloc (Nat.le_refl _) _)
  have BN := Lib.hid (BN.out.trans (hbn.mono BN.out.size))
  rw [← hwb, ← hgb]
  clear hbn hwb hgb
  refine hK.out _ _ (HST.out _ BN.out) (fun _ => ?_)
  clear hK K'
  (try simp only [Act.put, List.getElem_toArray, List.getElem_cons_succ, List.getElem_cons_zero, List.setIfInBounds_toArray, List.set_cons_zero, List.set_cons_succ])
  refine wpAnyH_ready (rs := [11]) (by kernel_rfl) (by simp) ?_
  refine AllReadyH.cons rfl (fun K' hK => ?_) AllReadyH.nil
  go_simp
  refine ((same_below (or_any _ 2 2 [Pl.cmp p0 q0, Pl.cmp p1 q1] _ rfl (by decide) (by have := HBS10.out; exact this)))).mono ?_
  rintro e wn ⟨rfl, hbn⟩
  have BN := Lib.hid (BN.out.trans (hbn.mono BN.out.size))
  clear hbn
  refine hK.out _ _ (HST.out _ BN.out) (fun _ => ?_)
  clear hK K'
  (try simp only [Act.put, List.getElem_toArray, List.getElem_cons_succ, List.getElem_cons_zero, List.setIfInBounds_toArray, List.set_cons_zero, List.set_cons_succ])
  refine wpAnyH_take (i := 12) (v := .int .i64 (firstNZ [Pl.cmp p0 q0, Pl.cmp p1 q1])) rfl (by kernel_rfl) (by kernel_rfl) (by kernel_rfl) (fun _ _ _ h => h.elim) (.inl ⟨by kernel_rfl, fun w hw => by clear hw; go_simp⟩) (by assumption) ?_
  (try simp only [Act.put, List.getElem_toArray, List.getElem_cons_succ, List.getElem_cons_zero, List.setIfInBounds_toArray, List.set_cons_zero, List.set_cons_succ])
  refine wpAnyH_done (by kernel_rfl) ?_ _
  refine NoPanic.normal ?_
  clear ST0
  go_wp2_with fail
  go_ret
  exact ⟨by rw [HV.out]; rfl, B1.out.trans (BN.out.mono B1.out.size)⟩
theorem tellsI (w : World) : TellsO kRule w 58 #[] ordRule := ⟨fun args W => by kernel_rfl, fun W _ a b ha hb => cordI_any a b W ha hb⟩
end Go.Proofs.YtjphjblcahadkaaGreat
