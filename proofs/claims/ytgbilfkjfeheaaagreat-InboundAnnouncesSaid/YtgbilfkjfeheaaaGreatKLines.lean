/-
 CONTRACTS of slices.ContainsFunc over lines, of inbound's checkUnused, checkLine, Lines. (By wip/tools/gen_kin.py.)
-/
import Derived.Test.YtgbilfkjfeheaaaGreatKLn
import Derived.Test.YtgbilfkjfeheaaaGreatKF
import Derived.Test.YtgbilfkjfeheaaaGreatJHead
import Derived.BigQuiet
import Derived.Deep.CutRange
namespace Go.Proofs.YtgbilfkjfeheaaaGreat
set_option linter.unusedVariables false
open Go.RowKit
open Pl (firstG findG putG It firstG_none firstG_some)

set_option maxRecDepth 100000 in
theorem hasLine (A : Option Addr) (n c K : Nat) (cap : Array Value) (f : List Value → Bool) (L : List (List Value)) (w : World) (hn : n = L.length) (hn63 : n ≤ 1000000) (hL : Things kLine L)
 (hr : Rd w w.heap.size A L.flatten) (hT : TellsF kLine w K cap f) :
 Calls Tryz.prog 64 #[.slice A n c, .func (.func K) #[] cap] w fun e w' => e = .returned (.bool (L.any f)) ∧ Below w.heap.size w w' := by
 have H := Lib.hid (indexLine A n c K cap f L w hn hn63 hL hr hT)
 have HA := Lib.hid (idx_any f L)
 clear hr hT hL hn
 go_enter Tryz.func64, Tryz.ntmps64
 go_wp2_with fail
 refine H.out.mono ?_
 rintro e w1 ⟨rfl, hb1⟩
 have B1 := Lib.hid hb1
 clear hb1
 obtain ⟨r, hr⟩ : ∃ r, idxI (firstG f L) = r := ⟨_, rfl⟩
 rw [hr]
 have HR := Lib.hid hr
 clear hr
 go_wp2_with fail
 go_ret
 exact ⟨by rw [← HA.out, HR.out]; rfl, B1.out⟩

set_option maxRecDepth 100000 in
set_option maxHeartbeats 3200000 in
theorem cunused (xi : ByteArray) (xa xg xb xp xo : Int) (w : World) (hx : emp xi = true) : Calls Tryz.prog 97 #[.agg #[.string xi, .int .i64 xa, .int .i64 xg, .int .i64 xb, .int .i64 xp, .int .i64 xo]] w fun e w' => e = .returned (.int .i64 ((if Ln.nil (Ln.mk xi xa xg xb xp xo) = true then 0 else 5 : Nat) : Int)) ∧ Below w.heap.size w w' := by
 have hxi : xi = ⟨#[]⟩ := emp_eq hx
 obtain ⟨q, hq⟩ : ∃ q : Nat, (if Ln.nil (Ln.mk xi xa xg xb xp xo) = true then 0 else 5) = q := ⟨_, rfl⟩
 rw [hq]
 have HB : Hid (Below w.heap.size w (w.alloc (.cells #[.string xi, .int .i64 xa, .int .i64 xg, .int .i64 xb, .int .i64 xp, .int .i64 xo] 39))) := Lib.hid ((Below.refl _ _).alloc (Nat.le_refl _) _)
 have HX : Hid ((w.alloc (.cells #[.string xi, .int .i64 xa, .int .i64 xg, .int .i64 xb, .int .i64 xp, .int .i64 xo] 39)).heap[w.heap.size]? = some (.cells #[.string xi, .int .i64 xa, .int .i64 xg, .int .i64 xb, .int .i64 xp, .int .i64 xo] 39 (0, 0))) := Lib.hid (heap_alloc_new _ _)
 have hu := Tryz.underlying39
 have HS : Hid ((Tryz.prog.info? 39).map (·.size) = some (#[.string xi, .int .i64 xa, .int .i64 xg, .int .i64 xb, .int .i64 xp, .int .i64 xo] : Array Value).size) := Lib.hid (by kernel_rfl)
 by_cases hz : Ln.nil (Ln.mk xi xa xg xb xp xo) = true
 · have hne : ∀ W, (binOp .neq 39 (.agg #[.string xi, .int .i64 xa, .int .i64 xg, .int .i64 xb, .int .i64 xp, .int .i64 xo]) (.agg #[.string ⟨#[]⟩, .int .i64 0, .int .i64 0, .int .i64 0, .int .i64 0, .int .i64 0])).run Tryz.prog W = .ok (.bool false) W := fun W => by
    obtain ⟨b, e1, e2⟩ := neq_struct (P := Tryz.prog) eqLine (by decide) [.string xi, .int .i64 xa, .int .i64 xg, .int .i64 xb, .int .i64 xp, .int .i64 xo] [.string ⟨#[]⟩, .int .i64 0, .int .i64 0, .int .i64 0, .int .i64 0, .int .i64 0] W ⟨⟨_, rfl⟩, ⟨_, rfl⟩, ⟨_, rfl⟩, ⟨_, rfl⟩, ⟨_, rfl⟩, ⟨_, rfl⟩, trivial⟩ ⟨⟨_, rfl⟩, ⟨_, rfl⟩, ⟨_, rfl⟩, ⟨_, rfl⟩, ⟨_, rfl⟩, ⟨_, rfl⟩, trivial⟩
    have hb : b = false := by
     simp [Ln.nil] at hz
     obtain ⟨⟨⟨⟨z1, z2⟩, z3⟩, z4⟩, z5⟩ := hz
     exact e2.2 (by rw [hxi, z1, z2, z3, z4, z5])
    rw [hb] at e1
    exact e1
   have HV : Hid (q = 0) := Lib.hid (by rw [← hq]; exact if_pos hz)
   clear hz hxi hx hq
   go_enter Tryz.func97, Tryz.ntmps97
   go_wp2_with (first
    | (refine wpList_load_row rfl 39 (.tmp 1) rfl w.heap.size rfl _ _ _ _ HX.out hu rfl HS.out ?_)
    | fail)
   go_ret
   exact ⟨by rw [HV.out]; rfl, HB.out⟩
 · have hne : ∀ W, (binOp .neq 39 (.agg #[.string xi, .int .i64 xa, .int .i64 xg, .int .i64 xb, .int .i64 xp, .int .i64 xo]) (.agg #[.string ⟨#[]⟩, .int .i64 0, .int .i64 0, .int .i64 0, .int .i64 0, .int .i64 0])).run Tryz.prog W = .ok (.bool true) W := fun W => by
    obtain ⟨b, e1, e2⟩ := neq_struct (P := Tryz.prog) eqLine (by decide) [.string xi, .int .i64 xa, .int .i64 xg, .int .i64 xb, .int .i64 xp, .int .i64 xo] [.string ⟨#[]⟩, .int .i64 0, .int .i64 0, .int .i64 0, .int .i64 0, .int .i64 0] W ⟨⟨_, rfl⟩, ⟨_, rfl⟩, ⟨_, rfl⟩, ⟨_, rfl⟩, ⟨_, rfl⟩, ⟨_, rfl⟩, trivial⟩ ⟨⟨_, rfl⟩, ⟨_, rfl⟩, ⟨_, rfl⟩, ⟨_, rfl⟩, ⟨_, rfl⟩, ⟨_, rfl⟩, trivial⟩
    have hb : b = true := by
     cases b with
     | true => rfl
     | false =>
      have h := e2.1 rfl
      simp only [List.cons.injEq, Value.int.injEq, true_and, and_true] at h
      exact absurd (by simp [Ln.nil, h]) hz
    rw [hb] at e1
    exact e1
   have HV : Hid (q = 5) := Lib.hid (by rw [← hq]; exact if_neg hz)
   clear hz hxi hx hq
   go_enter Tryz.func97, Tryz.ntmps97
   go_wp2_with (first
    | (refine wpList_load_row rfl 39 (.tmp 1) rfl w.heap.size rfl _ _ _ _ HX.out hu rfl HS.out ?_)
    | fail)
   go_ret
   exact ⟨by rw [HV.out]; rfl, HB.out⟩
/-- What is wrong with a line, some ahead of it being of its item. -/
def chkE (LI : List (List Value)) (x : Ln) (b : Bool) : Nat :=
 if emp x.item = true then (if x.nil = true then 0 else 5)
 else if (atItem LI x.item).isSome = false then 12 else if b = true then 11
 else if x.asked < 1 ∨ 1000000000 < x.asked then 10
 else if x.got ≠ 0 ∨ x.back ≠ 0 ∨ x.packed ≠ 0 ∨ x.out ≠ 0 then 5 else 0
theorem chk_line (LI : List (List Value)) (l : List Value) (i : Nat) : chkE LI (lnAt l i) ((lnsL l i).any (forC (lnAt l i).item)) = lineE LI l i := by
 rw [lineE_at LI l i _ rfl]
 unfold chkE
 cases he : emp (lnAt l i).item with
 | true => rfl
 | false =>
  have ha : (lnsL l i).any (forC (lnAt l i).item) = (List.range i).any fun k => Pl.eqv (lnAt l k).item (lnAt l i).item := by
   unfold lnsL
   rw [List.any_map]
   congr 1
   funext k
   show (!(emp (lnAt l k).item) && Pl.eqv (lnAt l k).item (lnAt l i).item) = _
   cases hq : Pl.eqv (lnAt l k).item (lnAt l i).item with
   | false => simp
   | true => rw [(Pl.eqv_iff _ _).1 hq, he]; rfl
  rw [ha]
theorem used_any (l : List Value) (n : Nat) : (lnsL l n).any usedB = decide (usedN l n ≠ 0) := by
 unfold lnsL usedN
 rw [List.any_map]
 cases h : (List.range n).any (usedB ∘ fun i => (lnAt l i).cells) with
 | true =>
  obtain ⟨k, hk, hp⟩ := List.any_eq_true.1 h
  have : k ∈ (List.range n).filter fun i => !(emp (lnAt l i).item) := List.mem_filter.2 ⟨hk, hp⟩
  have := List.length_pos_of_mem this
  symm; simp only [ne_eq, decide_eq_true_eq]; omega
 | false =>
  have h2 : (List.range n).filter (fun i => !(emp (lnAt l i).item)) = [] := List.filter_eq_nil_iff.2 (fun k hk => by
   have := List.any_eq_false.1 h k hk
   exact this)
  rw [h2]; rfl
set_option maxRecDepth 100000 in
set_option maxHeartbeats 3200000 in
theorem cchkl (h : Hs) (L : Nat → List (List Value)) (xi : ByteArray) (xa xg xb xp xo : Int) (A : Option Addr) (n c : Nat) (LA : List (List Value)) (w : World) (hh : HT h L w) (hn : n = LA.length) (hn6 : n ≤ 1000000) (hL : Things kLine LA) (hr : Rd w w.heap.size A LA.flatten) :
 Calls Tryz.prog 63 #[.agg h.cells, .agg #[.string xi, .int .i64 xa, .int .i64 xg, .int .i64 xb, .int .i64 xp, .int .i64 xo], .slice A n c] w fun e w' => e = .returned (.int .i64 (chkE (L 0) (Ln.mk xi xa xg xb xp xo) (LA.any (forC xi)) : Nat)) ∧ Below w.heap.size w w' := by
 obtain ⟨r, hr0⟩ : ∃ r, chkE (L 0) (Ln.mk xi xa xg xb xp xo) (LA.any (forC xi)) = r := ⟨_, rfl⟩
 rw [hr0]
 obtain ⟨y, hy, _⟩ := item_it hh xi
 obtain ⟨is, his⟩ : ∃ z, (atItem (L 0) xi).isSome = z := ⟨_, rfl⟩
 obtain ⟨z, hz⟩ : ∃ z, idxI (firstG (forC xi) LA) = z := ⟨_, rfl⟩
 obtain ⟨u, hu⟩ : ∃ u, emp xi = u := ⟨_, rfl⟩
 obtain ⟨un, hun⟩ : ∃ z : Nat, (if Ln.nil (Ln.mk xi xa xg xb xp xo) = true then 0 else 5) = z := ⟨_, rfl⟩
 have HA : Hid (r = if u = true then un else if is = false then 12 else if 0 ≤ z then 11 else if xa < 1 ∨ 1000000000 < xa then 10 else if xg ≠ 0 ∨ xb ≠ 0 ∨ xp ≠ 0 ∨ xo ≠ 0 then 5 else 0) := Lib.hid (by
  rw [← hr0, ← hun, ← hu, ← his, ← idx_any, hz]
  unfold chkE
  simp only [decide_eq_true_eq])
 have CU : Hid (∀ W, Calls Tryz.prog 65 #[.agg #[.string xi, .int .i64 xa, .int .i64 xg, .int .i64 xb, .int .i64 xp, .int .i64 xo]] W fun e w' => e = .returned (.bool (!u)) ∧ Below W.heap.size W w') := Lib.hid (fun W => by rw [← hu]; exact cuse xi xa xg xb xp xo W)
 have CUN : Hid (u = true → ∀ W, Calls Tryz.prog 97 #[.agg #[.string xi, .int .i64 xa, .int .i64 xg, .int .i64 xb, .int .i64 xp, .int .i64 xo]] W fun e w' => e = .returned (.int .i64 (un : Nat)) ∧ Below W.heap.size W w') := Lib.hid (fun hut W => by rw [← hun]; exact cunused xi xa xg xb xp xo W (hu.trans hut))
 have CI : Hid (∀ W, Below w.heap.size w W → Calls Tryz.prog 68 #[.agg h.cells, .string xi] W fun e w' => e = .returned (.tuple #[.agg #[.string y.code, .string (y.nm 0), .int .i64 (y.fc 0), .string (y.nm 1), .int .i64 (y.fc 1), .string (y.nm 2), .int .i64 (y.fc 2), .string (y.nm 3), .int .i64 (y.fc 3), .int .i64 y.vol, .int .i64 y.wei, .bool y.lots, .bool y.serial, .bool y.chk], .bool is]) ∧ Below W.heap.size W w') := Lib.hid (fun W hW => by have := fcItem (hh.below hW) xi; rw [hy, his] at this; exact this)
 have CL : Hid (∀ W, Below w.heap.size w W → Calls Tryz.prog 67 #[.slice A n c, .string xi] W fun e w' => e = .returned (.int .i64 z) ∧ Below W.heap.size W w') := Lib.hid (fun W hW => by have := clineOf A n c LA xi W hn hn6 hL ((hr.below hW).mono hW.size); rw [hz] at this; exact this)
 clear hr0 hy his hz hu hun
 obtain ⟨W0, hW0⟩ : ∃ W0, W0 = ((w.alloc (.cells h.cells 37)).alloc (.cells #[.string xi, .int .i64 xa, .int .i64 xg, .int .i64 xb, .int .i64 xp, .int .i64 xo] 39)) := ⟨_, rfl⟩
 have hb0 : Below w.heap.size w W0 := by rw [hW0]; exact ((Below.refl _ _).alloc (Nat.le_refl _) _).alloc (by simp <;> omega) _
 have hs0 : W0.heap.size = w.heap.size + 2 := by rw [hW0]; simp
 have HH : Hid (∀ W, Below W0.heap.size W0 W → W.heap[w.heap.size]? = some (.cells h.cells 37 (0, 0))) := Lib.hid (fun W hW => (hW.block _ (by omega)).trans (by
  rw [hW0]
  have hq := heap_alloc_new w (.cells h.cells 37)
  exact (Below.heap_alloc _ _ _ (by simp <;> omega)).trans ((by simpa using hq))))
 have HX : Hid (∀ W, Below W0.heap.size W0 W → W.heap[w.heap.size + 1]? = some (.cells #[.string xi, .int .i64 xa, .int .i64 xg, .int .i64 xb, .int .i64 xp, .int .i64 xo] 39 (0, 0))) := Lib.hid (fun W hW => (hW.block _ (by omega)).trans (by
  rw [hW0]
  have hq := heap_alloc_new (w.alloc (.cells h.cells 37)) (.cells #[.string xi, .int .i64 xa, .int .i64 xg, .int .i64 xb, .int .i64 xp, .int .i64 xo] 39)
  exact (by simpa using hq)))
 have HBW : Hid (∀ W, Below W0.heap.size W0 W → Below w.heap.size w W ∧ w.heap.size + 2 ≤ W.heap.size) := Lib.hid (fun W hW => ⟨hb0.trans (hW.mono (by omega)), by have := hW.size; omega⟩)
 have huh := Tryz.underlying37
 have HSH : Hid (∀ a : Hs, (Tryz.prog.info? 37).map (·.size) = some a.cells.size) := Lib.hid (fun a => by kernel_rfl)
 have huHX := Tryz.underlying39
 have HSHX : Hid ((Tryz.prog.info? 39).map (·.size) = some 6) := Lib.hid (by kernel_rfl)
 have HCHX : Hid (∀ W, Below W0.heap.size W0 W → W.cell? ⟨w.heap.size + 1, 0, none⟩ = some (.string xi) ∧ W.cell? ⟨w.heap.size + 1, 1, none⟩ = some (.int .i64 xa) ∧ W.cell? ⟨w.heap.size + 1, 2, none⟩ = some (.int .i64 xg) ∧ W.cell? ⟨w.heap.size + 1, 3, none⟩ = some (.int .i64 xb) ∧ W.cell? ⟨w.heap.size + 1, 4, none⟩ = some (.int .i64 xp) ∧ W.cell? ⟨w.heap.size + 1, 5, none⟩ = some (.int .i64 xo) ∧ w.heap.size + 1 < W.heap.size) := Lib.hid (fun W hW => ⟨by rw [cell_of_block (HX.out W hW)]; rfl, by rw [cell_of_block (HX.out W hW)]; rfl, by rw [cell_of_block (HX.out W hW)]; rfl, by rw [cell_of_block (HX.out W hW)]; rfl, by rw [cell_of_block (HX.out W hW)]; rfl, by rw [cell_of_block (HX.out W hW)]; rfl, by have := hW.size; omega⟩)
 have H0 := Lib.hid (Below.refl W0.heap.size W0)
 clear hb0 hs0 hh hn hn6 hL hr
 subst hW0
 go_enter Tryz.func63, Tryz.ntmps63
 go_wp2_with (first
  | (refine wpList_load_row rfl 39 (.tmp 4) rfl (w.heap.size + 1) rfl _ _ _ _ (HX.out _ H0.out) huHX rfl HSHX.out ?_)
  | fail)
 refine (CU.out _).mono ?_
 rintro e w1 ⟨rfl, hb1⟩
 have H1 := Lib.hid (H0.out.trans (hb1.mono H0.out.size))
 clear hb1
 cases u with
 | true =>
  go_wp2_with (first
   | (refine wpList_load_row rfl 39 (.tmp 4) rfl (w.heap.size + 1) rfl _ _ _ _ (HX.out _ H1.out) huHX rfl HSHX.out ?_)
   | fail)
  refine (CUN.out (by first | rfl | trivial) _).mono ?_
  rintro e w2 ⟨rfl, hb2⟩
  have H2 := Lib.hid (H1.out.trans (hb2.mono H1.out.size))
  clear hb2
  have HE : Hid (r = un) := Lib.hid (by rw [HA.out]; simp)
  go_wp2_with fail
  go_ret
  exact ⟨by rw [HE.out]; rfl, (HBW.out _ H2.out).1⟩
 | false =>
  obtain ⟨hx0, hx1, hx2, hx3, hx4, hx5, hlthx⟩ := HCHX.out _ H1.out
  go_wp2_with (first
   | (refine wpList_load_row rfl 37 (.tmp 3) rfl w.heap.size rfl _ _ _ _ (HH.out _ H1.out) huh rfl (HSH.out _) ?_)
   | fail)
  refine (CI.out _ (HBW.out _ H1.out).1).mono ?_
  rintro e w2 ⟨rfl, hb2⟩
  have H2 := Lib.hid (H1.out.trans (hb2.mono H1.out.size))
  clear hb2
  clear hx0 hx1 hx2 hx3 hx4 hx5 hlthx
  have H3 := Lib.hid (H2.out.alloc H2.out.size (.cells #[.string y.code, .string (y.nm 0), .int .i64 (y.fc 0), .string (y.nm 1), .int .i64 (y.fc 1), .string (y.nm 2), .int .i64 (y.fc 2), .string (y.nm 3), .int .i64 (y.fc 3), .int .i64 y.vol, .int .i64 y.wei, .bool y.lots, .bool y.serial, .bool y.chk] 87))
  have HA2 : Hid (r = if is = false then 12 else if 0 ≤ z then 11 else if xa < 1 ∨ 1000000000 < xa then 10 else if xg ≠ 0 ∨ xb ≠ 0 ∨ xp ≠ 0 ∨ xo ≠ 0 then 5 else 0) := Lib.hid (by rw [HA.out]; simp)
  cases is with
  | false =>
   have HE : Hid (r = 12) := Lib.hid (by rw [HA2.out]; simp)
   go_wp2_with fail
   go_ret
   exact ⟨by rw [HE.out]; rfl, (HBW.out _ H3.out).1⟩
  | true =>
   obtain ⟨w3, hw3⟩ : ∃ W, W = w2.alloc (.cells #[.string y.code, .string (y.nm 0), .int .i64 (y.fc 0), .string (y.nm 1), .int .i64 (y.fc 1), .string (y.nm 2), .int .i64 (y.fc 2), .string (y.nm 3), .int .i64 (y.fc 3), .int .i64 y.vol, .int .i64 y.wei, .bool y.lots, .bool y.serial, .bool y.chk] 87) := ⟨_, rfl⟩
   have HW3 := Lib.hid hw3
   rw [← hw3] at H3
   clear hw3
   go_upto_region 6 with fail
   rw [← HW3.out]
   obtain ⟨hx0, hx1, hx2, hx3, hx4, hx5, hlthx⟩ := HCHX.out _ H3.out
   go_wp2_with fail
   refine (CL.out _ (HBW.out _ H3.out).1).mono ?_
   rintro e w4 ⟨rfl, hb4⟩
   have H4 := Lib.hid (H3.out.trans (hb4.mono H3.out.size))
   clear hb4
   clear hx0 hx1 hx2 hx3 hx4 hx5 hlthx
   obtain ⟨hx0, hx1, hx2, hx3, hx4, hx5, hlthx⟩ := HCHX.out _ H4.out
   by_cases qz : 0 ≤ z
   ·
    have HE : Hid (r = 11) := Lib.hid (by rw [HA2.out]; simp [qz])
    go_wp2_with fail
    go_ret
    exact ⟨by rw [HE.out]; rfl, (HBW.out _ H4.out).1⟩
   ·
    have HA3 : Hid (r = if xa < 1 ∨ 1000000000 < xa then 10 else if xg ≠ 0 ∨ xb ≠ 0 ∨ xp ≠ 0 ∨ xo ≠ 0 then 5 else 0) := Lib.hid (by rw [HA2.out]; simp [qz])
    by_cases q1 : xa < 1
    ·
     have HE : Hid (r = 10) := Lib.hid (by rw [HA3.out, if_pos (.inl q1)])
     go_wp2_with fail
     go_ret
     exact ⟨by rw [HE.out]; rfl, (HBW.out _ H4.out).1⟩
    · by_cases q2 : 1000000000 < xa
      ·
       have HE : Hid (r = 10) := Lib.hid (by rw [HA3.out, if_pos (.inr q2)])
       go_wp2_with fail
       go_ret
       exact ⟨by rw [HE.out]; rfl, (HBW.out _ H4.out).1⟩
      · have HA4 : Hid (r = if xg ≠ 0 ∨ xb ≠ 0 ∨ xp ≠ 0 ∨ xo ≠ 0 then 5 else 0) := Lib.hid (by rw [HA3.out, if_neg (by omega)])
        by_cases z_xg : xg = 0
        ·
         subst z_xg
         by_cases z_xb : xb = 0
         ·
          subst z_xb
          by_cases z_xp : xp = 0
          ·
           subst z_xp
           by_cases z_xo : xo = 0
           ·
            subst z_xo
            have HE : Hid (r = 0) := Lib.hid (by rw [HA4.out]; simp)
            go_wp2_with fail
            go_ret
            exact ⟨by rw [HE.out]; rfl, (HBW.out _ H4.out).1⟩
           ·
            have b_xo : (xo != 0) = true := by simpa using z_xo
            have HE : Hid (r = 5) := Lib.hid (by rw [HA4.out]; simp [z_xo])
            clear z_xo
            go_wp2_with fail
            go_ret
            exact ⟨by rw [HE.out]; rfl, (HBW.out _ H4.out).1⟩
          ·
           have b_xp : (xp != 0) = true := by simpa using z_xp
           have HE : Hid (r = 5) := Lib.hid (by rw [HA4.out]; simp [z_xp])
           clear z_xp
           go_wp2_with fail
           go_ret
           exact ⟨by rw [HE.out]; rfl, (HBW.out _ H4.out).1⟩
         ·
          have b_xb : (xb != 0) = true := by simpa using z_xb
          have HE : Hid (r = 5) := Lib.hid (by rw [HA4.out]; simp [z_xb])
          clear z_xb
          go_wp2_with fail
          go_ret
          exact ⟨by rw [HE.out]; rfl, (HBW.out _ H4.out).1⟩
        ·
         have b_xg : (xg != 0) = true := by simpa using z_xg
         have HE : Hid (r = 5) := Lib.hid (by rw [HA4.out]; simp [z_xg])
         clear z_xg
         go_wp2_with fail
         go_ret
         exact ⟨by rw [HE.out]; rfl, (HBW.out _ H4.out).1⟩
set_option maxRecDepth 100000 in
theorem index_line {ls : List Value} (hf : Fits kLine8 ls) {k : Nat} (hk : k < 8) (W : World) : (Instr.index 40 (.agg ls.toArray) (.int .i64 (k : Int))).run Tryz.prog W = .ok (.agg (lnAt ls k).cells.toArray) W := by
 have hx := lnAt_cells hf hk
 have hu : Tryz.prog.underlying 40 = some (.array 8 39) := by kernel_rfl
 simp [Instr.index, run_underlying hu, asIntOf, go_sem]
 rw [if_pos hk, hx]
set_option maxRecDepth 100000 in
theorem slice_lines (b o k : Nat) (hk : k ≤ 8) (W : World) : (Instr.sliceAt 40 (.pointer (some ⟨b, o, none⟩)) none (some (.int .i64 (k : Int))) none).run Tryz.prog W = .ok (.slice (some ⟨b, o, none⟩) k 8) W := by
 have hk2 : (k : Int) ≤ 8 := by omega
 simp [go_sem, hk2]
set_option maxRecDepth 100000 in
set_option maxHeartbeats 3200000 in
theorem clines (h : Hs) (L : Nat → List (List Value)) (ls : List Value) (w : World) (hh : HT h L w) (hf : Fits kLine8 ls) :
 Calls Tryz.prog 17 #[.agg h.cells, .agg ls.toArray] w fun e w' => e = .returned (.int .i64 (linesE (L 0) ls : Nat)) ∧ Below w.heap.size w w' := by
 have HHT := Lib.hid hh
 have HF := Lib.hid hf
 obtain ⟨r, hr⟩ : ∃ r, linesE (L 0) ls = r := ⟨_, rfl⟩
 rw [hr]
 have HR : Hid (r = if firstE (lineE (L 0) ls) 8 ≠ 0 then firstE (lineE (L 0) ls) 8 else if usedN ls 8 = 0 then 12 else 0) := Lib.hid hr.symm
 clear hr
 have HSLI : Hid ((Tryz.prog.info? 39).map (·.size) = some 6) := Lib.hid (by kernel_rfl)
 have huLI := Tryz.underlying39
 have HSL8 : Hid ((Tryz.prog.info? 40).map (·.size) = some ls.length) := Lib.hid (by rw [hf.length]; kernel_rfl)
 have HSHL : Hid (∀ a : Hs, (Tryz.prog.info? 37).map (·.size) = some a.cells.toList.length) := Lib.hid (fun a => by kernel_rfl)
 obtain ⟨W0, hW0⟩ : ∃ W0, W0 = ((w.alloc (.cells h.cells 37)).alloc (.cells ls.toArray 40)) := ⟨_, rfl⟩
 have hb0 : Below w.heap.size w W0 := by rw [hW0]; exact ((Below.refl _ _).alloc (Nat.le_refl _) _).alloc (by simp <;> omega) _
 have hs0 : W0.heap.size = w.heap.size + 2 := by rw [hW0]; simp
 have HH : Hid (∀ W, Below W0.heap.size W0 W → W.heap[w.heap.size]? = some (.cells h.cells 37 (0, 0))) := Lib.hid (fun W hW => (hW.block _ (by omega)).trans (by
  rw [hW0]
  have hq := heap_alloc_new w (.cells h.cells 37)
  exact (Below.heap_alloc _ _ _ (by simp <;> omega)).trans ((by simpa using hq))))
 have HX : Hid (∀ W, Below W0.heap.size W0 W → W.heap[w.heap.size + 1]? = some (.cells ls.toArray 40 (0, 0))) := Lib.hid (fun W hW => (hW.block _ (by omega)).trans (by
  rw [hW0]
  have hq := heap_alloc_new (w.alloc (.cells h.cells 37)) (.cells ls.toArray 40)
  exact (by simpa using hq)))
 have HBW : Hid (∀ W, Below W0.heap.size W0 W → Below w.heap.size w W ∧ w.heap.size + 2 ≤ W.heap.size) := Lib.hid (fun W hW => ⟨hb0.trans (hW.mono (by omega)), by have := hW.size; omega⟩)
 have huh := Tryz.underlying37
 have HSH : Hid (∀ a : Hs, (Tryz.prog.info? 37).map (·.size) = some a.cells.size) := Lib.hid (fun a => by kernel_rfl)
 have huHX := Tryz.underlying40
 have HRW : Hid (∀ W, Below W0.heap.size W0 W → W.rangeAt (w.heap.size + 1) 0 ls ∧ w.heap.size + 1 < W.heap.size) := Lib.hid (fun W hW => ⟨range_cells (HX.out W hW), lt_of_block (HX.out W hW)⟩)
 have H0 := Lib.hid (Below.refl W0.heap.size W0)
 clear hb0 hs0 hh hf
 subst hW0
 go_enter Tryz.func17, Tryz.ntmps17
 obtain ⟨hx0, hxlt⟩ := HRW.out _ H0.out
 go_wp2_with (first
  | (refine wpList_load_mid rfl 40 (.tmp 3) rfl (w.heap.size + 1) 0 rfl ls _ hx0 huHX rfl HSL8.out ?_)
  | fail)
 clear hx0 hxlt
 go_loopw [9] (fun i wr => ∃ k : Nat, k ≤ 8 ∧ i = .int .i64 (k : Int) ∧ Hid (firstE (lineE (L 0) ls) k = 0) ∧ Hid (Below ((w.alloc (.cells h.cells 37)).alloc (.cells ls.toArray 40)).heap.size ((w.alloc (.cells h.cells 37)).alloc (.cells ls.toArray 40)) wr)) (fun i _ => 8 - (intOf i).toNat)
 case atStart => exact ⟨0, by omega, rfl, Lib.hid rfl, H0⟩
 case round =>
  obtain ⟨k, hk, rfl, hno, hw⟩ := hrel
  by_cases hlt : k < 8
  · obtain ⟨x, hx⟩ : ∃ x, lnAt ls k = x := ⟨_, rfl⟩
    have HL8 := Lib.hid hlt
    have hle := chk_line (L 0) ls k
    rw [hx] at hle
    have hhit := firstE_hit (lineE (L 0) ls) hlt hno.out
    have hgo : lineE (L 0) ls k = 0 → firstE (lineE (L 0) ls) (k + 1) = 0 := fun h => by show (if firstE (lineE (L 0) ls) k ≠ 0 then _ else _) = _; rw [if_neg (by rw [hno.out]; simp)]; exact h
    have hidx : ∀ W, (Instr.index 40 (.agg ls.toArray) (.int .i64 (k : Int))).run Tryz.prog W = .ok (.agg x.cells.toArray) W := fun W => by rw [← hx]; exact index_line HF.out hlt W
    obtain ⟨xi, xa, xg, xb, xp, xo⟩ := x
    obtain ⟨le, hle2⟩ : ∃ e, lineE (L 0) ls k = e := ⟨_, rfl⟩
    rw [hle2] at hle hhit hgo
    have HHIT : Hid (le ≠ 0 → r = le) := Lib.hid (fun h => by rw [HR.out, if_pos (by rw [hhit h]; exact h), hhit h])
    have HGO := Lib.hid hgo
    have HLE := Lib.hid hle
    have CC : Hid (∀ W, Below ((w.alloc (.cells h.cells 37)).alloc (.cells ls.toArray 40)).heap.size ((w.alloc (.cells h.cells 37)).alloc (.cells ls.toArray 40)) W → Calls Tryz.prog 63 #[.agg h.cells, .agg #[.string xi, .int .i64 xa, .int .i64 xg, .int .i64 xb, .int .i64 xp, .int .i64 xo], .slice (some ⟨w.heap.size + 1, 0, none⟩) k 8] W fun e w' => e = .returned (.int .i64 (le : Nat)) ∧ Below W.heap.size W w') := Lib.hid (fun W hW => by
     obtain ⟨g1, g2⟩ := HRW.out _ hW
     have := cchkl h L xi xa xg xb xp xo (some ⟨w.heap.size + 1, 0, none⟩) k 8 (lnsL ls k) W (HHT.out.below (HBW.out _ hW).1) (lnsL_len ls k).symm (by omega) (lnsL_things ls k) (lines_rd HF.out g1 g2 (by omega))
     rw [HLE.out] at this
     exact this)
    have HSLK : Hid (∀ W, (Instr.sliceAt 40 (.pointer (some ⟨w.heap.size + 1, 0, none⟩)) none (some (.int .i64 (k : Int))) none).run Tryz.prog W = .ok (.slice (some ⟨w.heap.size + 1, 0, none⟩) k 8) W) := Lib.hid (fun W => slice_lines _ _ k (by omega) W)
    unfold Ln.cells at hidx
    clear hle hle2 hhit hgo hx
    obtain ⟨w1, hw1⟩ : ∃ w1, w1 = wr.alloc (.cells #[.string xi, .int .i64 xa, .int .i64 xg, .int .i64 xb, .int .i64 xp, .int .i64 xo] 39) := ⟨_, rfl⟩
    have hb1 : Below wr.heap.size wr w1 := by rw [hw1]; exact (Below.refl _ _).alloc (Nat.le_refl _) _
    have HX1 : Hid (∀ W, Below w1.heap.size w1 W → W.heap[wr.heap.size]? = some (.cells #[.string xi, .int .i64 xa, .int .i64 xg, .int .i64 xb, .int .i64 xp, .int .i64 xo] 39 (0, 0))) := Lib.hid (fun W hW => (hW.block _ (by rw [hw1]; simp)).trans (by rw [hw1]; exact heap_alloc_new _ _))
    have HW1 := Lib.hid hw1
    have HB1 := Lib.hid (hw.out.trans (hb1.mono hw.out.size))
    have h1 : (0 : Int) ≤ (k : Int) := by omega
    have h2 : (k : Int) < 8 := by omega
    clear hb1 hw1
    go_upto_region 4 with fail
    rw [← HW1.out]
    obtain ⟨hx0, hxlt⟩ := HRW.out _ HB1.out
    have RH : Hid (∀ X : BW w1, X.W.heap[w.heap.size]? = some (.cells h.cells 37 (0, 0))) := Lib.hid (fun X => HH.out _ (HB1.out.trans (X.h.mono HB1.out.size)))
    have RX : Hid (∀ X : BW w1, X.W.heap[wr.heap.size]? = some (.cells #[.string xi, .int .i64 xa, .int .i64 xg, .int .i64 xb, .int .i64 xp, .int .i64 xo] 39 (0, 0))) := Lib.hid (fun X => HX1.out _ X.h)
    have CCX : Hid (∀ X : BW w1, Calls Tryz.prog 63 #[.agg h.cells, .agg #[.string xi, .int .i64 xa, .int .i64 xg, .int .i64 xb, .int .i64 xp, .int .i64 xo], .slice (some ⟨w.heap.size + 1, 0, none⟩) k 8] X.W fun e w' => e = .returned (.int .i64 (le : Nat)) ∧ Below X.W.heap.size X.W w') := Lib.hid (fun X => CC.out _ (HB1.out.trans (X.h.mono HB1.out.size)))
    go_wp2_with fail
    refine wp_grow w1 (by kernel_rfl) (by kernel_rfl) (Below.refl _ _) ?_
    simp only []
    refine BigFrame.wpQuiet_want (by kernel_rfl) (fun K hK => quiet_load_mid 37 (.tmp 2) rfl w.heap.size 0 rfl h.cells.toList _ (fun W ⟨X, hX⟩ => by rw [hX]; exact range_row0 (RH.out X)) huh rfl (HSHL.out _) (hK _ ?_))
    simp only [ax]
    refine BigFrame.wpQuiet_want (by kernel_rfl) (fun K hK => quiet_load_mid 39 (.tmp 6) rfl wr.heap.size 0 rfl [.string xi, .int .i64 xa, .int .i64 xg, .int .i64 xb, .int .i64 xp, .int .i64 xo] _ (fun W ⟨X, hX⟩ => by rw [hX]; exact range_row0 (RX.out X)) huLI rfl HSLI.out (hK _ ?_))
    simp only [ax]
    have hsl := HSLK.out
    iterate 2 go_big_quiet_step (fail)
    clear hsl
    go_big_quiet_step (exact grow_call _ (CCX.out _))
    go_big_quiet_step (fail)
    refine wpQuiet_nil ?_
    intro X
    obtain ⟨w2, hb2⟩ := X
    simp only []
    have H2 := Lib.hid (HB1.out.trans (hb2.mono HB1.out.size))
    clear hb2 hidx hx0 hxlt
    by_cases q : le = 0
    · have HV : Hid (firstE (lineE (L 0) ls) (k + 1) = 0) := Lib.hid (HGO.out q)
      subst q
      go_wp2_with fail
      go_roundw
      case rel => exact ⟨k + 1, by omega, by go_num, HV, H2⟩
      case measure => simp [intOf]; omega
    · have bn : ((le : Int) != 0) = true := by simpa using q
      have HV : Hid (r = le) := Lib.hid (HHIT.out q)
      clear q
      go_wp2_with fail
      go_ret
      exact ⟨by rw [HV.out]; rfl, (HBW.out _ H2.out).1⟩
  · have hk8 : k = 8 := by omega
    subst hk8
    have HTL : Hid (TellsF kLine wr 65 #[] usedB) := Lib.hid ⟨fun args W => by kernel_rfl, fun W hW e he => by
     have h1 := cuse (lnOf e).item (lnOf e).asked (lnOf e).got (lnOf e).back (lnOf e).packed (lnOf e).out W
     have h2 : e.toArray = (lnOf e).cells.toArray := by conv => lhs; rw [ln_cells he]
     rw [h2]
     exact h1⟩
    obtain ⟨g1, g2⟩ := HRW.out _ hw.out
    obtain ⟨b, hb⟩ : ∃ b, decide (usedN ls 8 ≠ 0) = b := ⟨_, rfl⟩
    have hK := hasLine (some ⟨w.heap.size + 1, 0, none⟩) 8 8 65 #[] usedB (lnsL ls 8) wr (lnsL_len ls 8).symm (by omega) (lnsL_things ls 8) (lines_rd HF.out g1 g2 (by omega)) HTL.out
    rw [used_any, hb] at hK
    have HK := Lib.hid hK
    have HV : Hid (r = if b = true then 0 else 12) := Lib.hid (by rw [HR.out, if_neg (by rw [hno.out]; simp), ← hb]; by_cases h0 : usedN ls 8 = 0 <;> simp [h0])
    clear hK hb g1
    go_wp2_with fail
    refine HK.out.mono ?_
    rintro e w2 ⟨rfl, hb2⟩
    have H2 := Lib.hid (hw.out.trans (hb2.mono hw.out.size))
    clear hb2 g2
    cases b with
    | true =>
     have HE : Hid (r = 0) := Lib.hid (by rw [HV.out]; simp)
     go_wp2_with fail
     go_ret
     exact ⟨by rw [HE.out]; rfl, (HBW.out _ H2.out).1⟩
    | false =>
     have HE : Hid (r = 12) := Lib.hid (by rw [HV.out]; simp)
     go_wp2_with fail
     go_ret
     exact ⟨by rw [HE.out]; rfl, (HBW.out _ H2.out).1⟩
end Go.Proofs.YtgbilfkjfeheaaaGreat
