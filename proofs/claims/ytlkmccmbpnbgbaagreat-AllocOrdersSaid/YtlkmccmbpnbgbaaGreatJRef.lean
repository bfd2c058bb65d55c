/-
 CONTRACTS of the reference's Zoned, Lines. (By wip/tools/gen_jref.py.)
-/
import Derived.Test.YtlkmccmbpnbgbaaGreatOPl
import Derived.Test.YtlkmccmbpnbgbaaGreatRSite
namespace Go.Proofs.YtlkmccmbpnbgbaaGreat
set_option linter.unusedVariables false
open Go.RowKit
open Pl (firstG findG putG It)

theorem frItem {h : Hs} {L : Nat → List (List Value)} {w : World} (hh : HT h L w) (s : ByteArray) : Calls Tryz.prog 83 #[.agg h.cells, .string s] w fun e w' => e = .returned (.tuple #[.agg (gotItem (L 0) s).toArray, .bool (atItem (L 0) s).isSome]) ∧ Below w.heap.size w w' :=
 rfindItem h (L 0) s w (hh 0 (by decide)).1 (hh 0 (by decide)).2.1 (hh 0 (by decide)).2.2.1 (hh 0 (by decide)).2.2.2

/-- A zone at its place. -/
theorem zone_at {h : Hs} {L : Nat → List (List Value)} {w : World} (hh : HT h L w) {k : Nat} (hk : k < (L 2).length) : ∃ b off, h.A 2 = some ⟨b, off, none⟩ ∧ b < w.heap.size ∧ w.rangeAt b (off + k * 2) [.string (codeOf (L 2)[k]), .string (siteZ (L 2)[k])] := by
 obtain ⟨b, off, hA, hb, hc⟩ := (hh 2 (by decide)).2.2.2.thing (hh 2 (by decide)).2.2.1 (by decide) hk
 have := hc k hk
 rw [show (kOf 2).length = 2 from rfl] at this
 exact ⟨b, off, hA, hb, by rw [← zone_cells ((hh 2 (by decide)).2.2.1 _ (List.getElem_mem hk))]; exact this⟩

set_option maxRecDepth 100000 in
set_option maxHeartbeats 3200000 in
theorem rzoned_any (h : Hs) (L : Nat → List (List Value)) (s : ByteArray) (w : World) (hh : HT h L w) :
 Calls Tryz.prog 44 #[.agg h.cells, .string s] w fun e w' => e = .returned (.bool (zonedB (L 2) s)) ∧ Below w.heap.size w w' := by
 have HHT := Lib.hid hh
 have hn9 := (hh 2 (by decide)).2.1
 obtain ⟨m, hmm⟩ : ∃ m, h.n 2 = m := ⟨_, rfl⟩
 have HNM : Hid (m = (L 2).length) := Lib.hid (by rw [← hmm]; exact (hh 2 (by decide)).1)
 rw [hmm] at hn9
 have HMM := Lib.hid hmm
 obtain ⟨r, hr⟩ : ∃ r, zonedB (L 2) s = r := ⟨_, rfl⟩
 rw [hr]
 have HR := Lib.hid hr
 clear hr hmm
 obtain ⟨W0, hW0⟩ : ∃ W0, W0 = (w.alloc (.cells h.cells 37)) := ⟨_, rfl⟩
 have hb0 : Below w.heap.size w W0 := by rw [hW0]; exact (Below.refl _ _).alloc (Nat.le_refl _) _
 have hs0 : W0.heap.size = w.heap.size + 1 := by rw [hW0]; simp
 have HH : Hid (∀ W, Below W0.heap.size W0 W → W.heap[w.heap.size]? = some (.cells h.cells 37 (0, 0))) := Lib.hid (fun W hW => (hW.block _ (by omega)).trans (by
  rw [hW0]
  have hq := heap_alloc_new w (.cells h.cells 37)
  exact (by simpa using hq)))
 have HBW : Hid (∀ W, Below W0.heap.size W0 W → Below w.heap.size w W ∧ w.heap.size + 1 ≤ W.heap.size) := Lib.hid (fun W hW => ⟨hb0.trans (hW.mono (by omega)), by have := hW.size; omega⟩)
 have huh := Tryz.underlying37
 have HSH : Hid (∀ a : Hs, (Tryz.prog.info? 37).map (·.size) = some a.cells.size) := Lib.hid (fun a => by kernel_rfl)
 have HL2 : Hid (∀ W, Below W0.heap.size W0 W → W.cell? ⟨w.heap.size, 2, none⟩ = some (.slice (h.A 2) m (h.c 2)) ∧ w.heap.size < W.heap.size) := Lib.hid (fun W hW => ⟨by rw [cell_of_block (HH.out W hW), ← HMM.out]; rfl, by have := hW.size; omega⟩)
 have H0 := Lib.hid (Below.refl W0.heap.size W0)
 clear hb0 hs0 hh
 subst hW0
 go_enter Tryz.func44, Tryz.ntmps44
 go_wp2_with fail
 go_loopw [5] (fun i wr => ∃ k : Nat, k ≤ m ∧ i = .int .i64 (k : Int) ∧ Hid (zonedB ((L 2).take k) s = false) ∧ Hid (Below (w.alloc (.cells h.cells 37)).heap.size (w.alloc (.cells h.cells 37)) wr)) (fun i _ => m - (intOf i).toNat)
 case atStart => exact ⟨0, by omega, rfl, Lib.hid rfl, H0⟩
 case round =>
  obtain ⟨k, hk, rfl, hno, hw⟩ := hrel
  obtain ⟨d2, dlt⟩ := HL2.out _ hw.out
  by_cases hlt : k < m
  · have hkl : k < (L 2).length := by rw [← HNM.out]; exact hlt
    obtain ⟨b, off, hA, hb, r1⟩ := zone_at (HHT.out.below (HBW.out _ hw.out).1) hkl
    have hsn := zonedB_snoc (L 2) s k hkl
    rw [hno.out, Bool.false_or] at hsn
    obtain ⟨c0, hc0⟩ : ∃ z, codeOf (L 2)[k] = z := ⟨_, rfl⟩
    obtain ⟨c1, hc1⟩ : ∃ z, siteZ (L 2)[k] = z := ⟨_, rfl⟩
    rw [hc0, hc1] at r1
    have hmem : Pl.eqv c1 s = true → zonedB (L 2) s = true := fun h => List.any_eq_true.2 ⟨_, List.getElem_mem hkl, by rw [hc1]; exact h⟩
    rw [hc1] at hsn
    have HSN := Lib.hid hsn
    have HMEM := Lib.hid hmem
    have z1 := r1 1 (.string c1) rfl
    rw [hA] at d2
    have h1 : (0 : Int) ≤ (k : Int) := by omega
    have h2 : (k : Int) < (m : Int) := by omega
    clear hc0 hc1 hmem hsn r1 hkl hA
    cases he : Pl.eqv c1 s with
    | true =>
     have he' : (c1.toList == s.toList) = true := he
     have HV : Hid (r = true) := Lib.hid (by rw [← HR.out]; exact HMEM.out he)
     clear he
     go_wp2_with fail
     go_ret
     exact ⟨by rw [HV.out]; rfl, (HBW.out _ hw.out).1⟩
    | false =>
     have he' : (c1.toList == s.toList) = false := he
     have HV : Hid (zonedB ((L 2).take (k + 1)) s = false) := Lib.hid (by rw [HSN.out]; exact he)
     clear he
     go_wp2_with fail
     go_roundw
     case rel => exact ⟨k + 1, by omega, by go_num, HV, hw⟩
     case measure => simp [intOf]; omega
  · have hkm : k = m := by omega
    have HV : Hid (r = false) := Lib.hid (by have := hno.out; rw [List.take_of_length_le (by rw [← HNM.out]; omega), HR.out] at this; exact this)
    go_wp2_with fail
    go_ret
    exact ⟨by rw [HV.out]; rfl, (HBW.out _ hw.out).1⟩

set_option maxRecDepth 100000 in
set_option maxHeartbeats 3200000 in
theorem rlines_any (h : Hs) (L : Nat → List (List Value)) (ls : List Value) (w : World) (hh : HT h L w) (hf : Fits kLine8 ls) :
 Calls Tryz.prog 45 #[.agg h.cells, .agg ls.toArray] w fun e w' => e = .returned (.int .i64 (linesE (L 0) ls : Nat)) ∧ Below w.heap.size w w' := by
 have HHT := Lib.hid hh
 have HF := Lib.hid hf
 obtain ⟨r, hr⟩ : ∃ r, linesE (L 0) ls = r := ⟨_, rfl⟩
 rw [hr]
 have HR : Hid (r = if firstE (lineE (L 0) ls) 8 ≠ 0 then firstE (lineE (L 0) ls) 8 else if usedN ls 8 = 0 then 12 else 0) := Lib.hid hr.symm
 clear hr
 have HSLI : Hid ((Tryz.prog.info? 39).map (·.size) = some 6) := Lib.hid (by kernel_rfl)
 have huLI := Tryz.underlying39
 obtain ⟨W0, hW0⟩ : ∃ W0, W0 = ((w.alloc (.cells h.cells 37)).alloc (.cells ls.toArray 40)) := ⟨_, rfl⟩
 have hb0 : Below w.heap.size w W0 := by rw [hW0]; exact ((Below.refl _ _).alloc (Nat.le_refl _) _).alloc (by simp <;> omega) _
 have hs0 : W0.heap.size = w.heap.size + 2 := by rw [hW0]; simp
 have HH : Hid (∀ W, Below W0.heap.size W0 W → W.heap[w.heap.size]? = some (.cells h.cells 37 (0, 0))) := Lib.hid (fun W hW => (hW.block _ (by omega)).trans (by
  rw [hW0]
  have hq := heap_alloc_new w (.cells h.cells 37)
  exact (Below.heap_alloc _ _ _ (by simp <;> omega)).trans ((by simpa using hq))))
 have HX : Hid (∀ W, Below W0.heap.size W0 W → W.heap[w.heap.size + 1]? = some (.cells ls.toArray 40 (0, 0))) := Lib.hid (fun W hW => (hW.block _ (by omega)).trans (by
  rw [hW0]
  have hq := heap_alloc_new (w.alloc (.cells h.cells 37)) (.cells ls.toArray 40)
  exact (by simpa using hq)))
 have HBW : Hid (∀ W, Below W0.heap.size W0 W → Below w.heap.size w W ∧ w.heap.size + 2 ≤ W.heap.size) := Lib.hid (fun W hW => ⟨hb0.trans (hW.mono (by omega)), by have := hW.size; omega⟩)
 have huh := Tryz.underlying37
 have HSH : Hid (∀ a : Hs, (Tryz.prog.info? 37).map (·.size) = some a.cells.size) := Lib.hid (fun a => by kernel_rfl)
 have huHX := Tryz.underlying40
 have H0 := Lib.hid (Below.refl W0.heap.size W0)
 clear hb0 hs0 hh hf
 subst hW0
 go_enter Tryz.func45, Tryz.ntmps45
 go_wp2_with fail
 go_loopw [5, 6] (fun n i wr => ∃ k : Nat, k ≤ 8 ∧ n = .int .i64 (usedN ls k : Nat) ∧ i = .int .i64 (k : Int) ∧ Hid (firstE (lineE (L 0) ls) k = 0) ∧ Hid (Below ((w.alloc (.cells h.cells 37)).alloc (.cells ls.toArray 40)).heap.size ((w.alloc (.cells h.cells 37)).alloc (.cells ls.toArray 40)) wr)) (fun _ i _ => 8 - (intOf i).toNat)
 case atStart => exact ⟨0, by omega, rfl, rfl, Lib.hid rfl, H0⟩
 case round =>
  obtain ⟨k, hk, rfl, rfl, hno, hw⟩ := hrel
  by_cases hlt : k < 8
  · obtain ⟨x, hx⟩ : ∃ x, lnAt ls k = x := ⟨_, rfl⟩
    have r1 := line_at HF.out (range_cells (HX.out _ hw.out)) hlt
    rw [hx, Nat.zero_add] at r1
    have HL8 := Lib.hid hlt
    have hus := usedN_succ ls k
    rw [hx] at hus
    have hle := lineE_at (L 0) ls k x hx
    have hhit := firstE_hit (lineE (L 0) ls) hlt hno.out
    have hgo : lineE (L 0) ls k = 0 → firstE (lineE (L 0) ls) (k + 1) = 0 := fun h => by show (if firstE (lineE (L 0) ls) k ≠ 0 then _ else _) = _; rw [if_neg (by rw [hno.out]; simp)]; exact h
    obtain ⟨xi, xa, xg, xb, xp, xo⟩ := x
    simp only [] at hle hus
    have HLE := Lib.hid hle
    have HUS := Lib.hid hus
    have HHIT : Hid (lineE (L 0) ls k ≠ 0 → r = lineE (L 0) ls k) := Lib.hid (fun h => by rw [HR.out, if_pos (by rw [hhit h]; exact h), hhit h])
    have HGO := Lib.hid hgo
    have HRE : Hid (wr.rangeAt (w.heap.size + 1) (k * 6) [.string xi, .int .i64 xa, .int .i64 xg, .int .i64 xb, .int .i64 xp, .int .i64 xo]) := Lib.hid r1
    obtain ⟨u, hu⟩ : ∃ u, usedN ls k = u := ⟨_, rfl⟩
    have hul := usedN_le ls k
    rw [hu] at hul hus ⊢
    have HUU := Lib.hid hu
    clear hle hhit hgo r1 hus hu
    obtain ⟨w1, hw1⟩ : ∃ w1, w1 = wr.alloc (.cells #[.string xi, .int .i64 xa, .int .i64 xg, .int .i64 xb, .int .i64 xp, .int .i64 xo] 39) := ⟨_, rfl⟩
    have hb1 : Below wr.heap.size wr w1 := by rw [hw1]; exact (Below.refl _ _).alloc (Nat.le_refl _) _
    have HX1 : Hid (∀ W, Below w1.heap.size w1 W → W.heap[wr.heap.size]? = some (.cells #[.string xi, .int .i64 xa, .int .i64 xg, .int .i64 xb, .int .i64 xp, .int .i64 xo] 39 (0, 0))) := Lib.hid (fun W hW => (hW.block _ (by rw [hw1]; simp)).trans (by rw [hw1]; exact heap_alloc_new _ _))
    have HW1 := Lib.hid hw1
    have HB1 := Lib.hid (hw.out.trans (hb1.mono hw.out.size))
    have HLT1 : Hid (wr.heap.size < w1.heap.size) := Lib.hid (by rw [hw1]; simp)
    have h1 : (0 : Int) ≤ (k : Int) := by omega
    have h2 : (k : Int) < 8 := by omega
    clear hb1 hw1 hx
    have hw1 := HW1.out
    have e0 : w1.cell? ⟨wr.heap.size, 0, none⟩ = some (.string xi) := by rw [cell_of_block (HX1.out _ (Below.refl _ _))]; rfl
    have elt := HLT1.out
    rw [hw1] at e0 elt
    clear hw1
    cases he : emp xi with
    | true =>
     have he' : xi.toList.isEmpty = true := he
     have HEE := Lib.hid he
     have hxi : xi = ⟨#[]⟩ := emp_eq he
     clear he
     by_cases hz : Ln.nil ⟨xi, xa, xg, xb, xp, xo⟩ = true
     · have hne : ∀ W, (binOp .neq 39 (.agg #[.string xi, .int .i64 xa, .int .i64 xg, .int .i64 xb, .int .i64 xp, .int .i64 xo]) (.agg #[.string ⟨#[]⟩, .int .i64 0, .int .i64 0, .int .i64 0, .int .i64 0, .int .i64 0])).run Tryz.prog W = .ok (.bool false) W := fun W => by
        obtain ⟨b, e1, e2⟩ := neq_struct (P := Tryz.prog) eqLine (by decide) [.string xi, .int .i64 xa, .int .i64 xg, .int .i64 xb, .int .i64 xp, .int .i64 xo] [.string ⟨#[]⟩, .int .i64 0, .int .i64 0, .int .i64 0, .int .i64 0, .int .i64 0] W ⟨⟨_, rfl⟩, ⟨_, rfl⟩, ⟨_, rfl⟩, ⟨_, rfl⟩, ⟨_, rfl⟩, ⟨_, rfl⟩, trivial⟩ ⟨⟨_, rfl⟩, ⟨_, rfl⟩, ⟨_, rfl⟩, ⟨_, rfl⟩, ⟨_, rfl⟩, ⟨_, rfl⟩, trivial⟩
        have hb : b = false := by
         simp [Ln.nil] at hz
         obtain ⟨⟨⟨⟨z1, z2⟩, z3⟩, z4⟩, z5⟩ := hz
         exact e2.2 (by rw [hxi, z1, z2, z3, z4, z5])
        rw [hb] at e1
        exact e1
       have HV : Hid (firstE (lineE (L 0) ls) (k + 1) = 0) := Lib.hid (HGO.out (by rw [HLE.out, if_pos HEE.out, if_pos hz]))
       have HU2 : Hid (usedN ls (k + 1) = u) := Lib.hid (by rw [HUS.out, if_pos HEE.out]; exact HUU.out)
       clear hz hxi
       go_wp2_with (first
        | (refine wpList_load_mid rfl 39 (.tmp 16) rfl (w.heap.size + 1) (k * 6) rfl [.string xi, .int .i64 xa, .int .i64 xg, .int .i64 xb, .int .i64 xp, .int .i64 xo] _ HRE.out huLI rfl HSLI.out ?_)
        | (refine wpList_load_row rfl 39 (.tmp 7) rfl wr.heap.size rfl _ _ _ _ (heap_alloc_new _ _) huLI rfl HSLI.out ?_)
        | fail)
       go_roundw
       case rel => exact ⟨k + 1, by omega, by rw [HU2.out], by go_num, HV, by rw [← HW1.out]; exact HB1⟩
       case measure => simp [intOf]; omega
     · have hne : ∀ W, (binOp .neq 39 (.agg #[.string xi, .int .i64 xa, .int .i64 xg, .int .i64 xb, .int .i64 xp, .int .i64 xo]) (.agg #[.string ⟨#[]⟩, .int .i64 0, .int .i64 0, .int .i64 0, .int .i64 0, .int .i64 0])).run Tryz.prog W = .ok (.bool true) W := fun W => by
        obtain ⟨b, e1, e2⟩ := neq_struct (P := Tryz.prog) eqLine (by decide) [.string xi, .int .i64 xa, .int .i64 xg, .int .i64 xb, .int .i64 xp, .int .i64 xo] [.string ⟨#[]⟩, .int .i64 0, .int .i64 0, .int .i64 0, .int .i64 0, .int .i64 0] W ⟨⟨_, rfl⟩, ⟨_, rfl⟩, ⟨_, rfl⟩, ⟨_, rfl⟩, ⟨_, rfl⟩, ⟨_, rfl⟩, trivial⟩ ⟨⟨_, rfl⟩, ⟨_, rfl⟩, ⟨_, rfl⟩, ⟨_, rfl⟩, ⟨_, rfl⟩, ⟨_, rfl⟩, trivial⟩
        have hb : b = true := by
         cases b with
         | true => rfl
         | false =>
          have h := e2.1 rfl
          simp only [List.cons.injEq, Value.int.injEq, true_and, and_true] at h
          exact absurd (by simp [Ln.nil, h]) hz
        rw [hb] at e1
        exact e1
       have HV : Hid (r = 5) := Lib.hid (by
        have h5 : lineE (L 0) ls k = 5 := by rw [HLE.out, if_pos HEE.out, if_neg hz]
        rw [HHIT.out (by rw [h5]; decide), h5])
       clear hz hxi
       go_wp2_with (first
        | (refine wpList_load_mid rfl 39 (.tmp 16) rfl (w.heap.size + 1) (k * 6) rfl [.string xi, .int .i64 xa, .int .i64 xg, .int .i64 xb, .int .i64 xp, .int .i64 xo] _ HRE.out huLI rfl HSLI.out ?_)
        | (refine wpList_load_row rfl 39 (.tmp 7) rfl wr.heap.size rfl _ _ _ _ (heap_alloc_new _ _) huLI rfl HSLI.out ?_)
        | fail)
       go_ret
       exact ⟨by rw [HV.out]; rfl, by rw [← HW1.out]; exact (HBW.out _ HB1.out).1⟩
    | false =>
     have he' : xi.toList.isEmpty = false := he
     have HEE := Lib.hid he
     clear he
     have HT1 := Lib.hid (HHT.out.below (HBW.out _ HB1.out).1)
     obtain ⟨y, hy, _⟩ := item_it HT1.out xi
     obtain ⟨is, his⟩ : ∃ z, (atItem (L 0) xi).isSome = z := ⟨_, rfl⟩
     have HFI : Hid (Calls Tryz.prog 83 #[.agg h.cells, .string xi] w1 fun e w' => e = .returned (.tuple #[.agg #[.string y.code, .string (y.nm 0), .int .i64 (y.fc 0), .string (y.nm 1), .int .i64 (y.fc 1), .string (y.nm 2), .int .i64 (y.fc 2), .string (y.nm 3), .int .i64 (y.fc 3), .int .i64 y.vol, .int .i64 y.wei, .bool y.lots, .bool y.serial, .bool y.chk], .bool is]) ∧ Below w1.heap.size w1 w') := Lib.hid (by have := frItem HT1.out xi; rw [hy, his] at this; exact this)
     have HIS := Lib.hid his
     clear hy his
     have hbx := HW1.out ▸ HH.out _ HB1.out
     go_wp2_with (first
      | (refine wpList_load_mid rfl 39 (.tmp 16) rfl (w.heap.size + 1) (k * 6) rfl [.string xi, .int .i64 xa, .int .i64 xg, .int .i64 xb, .int .i64 xp, .int .i64 xo] _ HRE.out huLI rfl HSLI.out ?_)
      | (refine wpList_load_row rfl 37 (.tmp 2) rfl w.heap.size rfl _ _ _ _ hbx huh rfl (HSH.out _) ?_)
      | fail)
     rw [← HW1.out]
     refine HFI.out.mono ?_
     rintro e w2 ⟨rfl, hb2⟩
     have HB2 := Lib.hid (HB1.out.trans (hb2.mono HB1.out.size))
     have HB12 := Lib.hid hb2
     clear hb2 hbx e0 elt
     have HLE2 : Hid (lineE (L 0) ls k = if is = false then 12 else if ((List.range k).any fun k => Pl.eqv (lnAt ls k).item xi) = true then 11 else if xa < 1 ∨ 1000000000 < xa then 10 else if xg ≠ 0 ∨ xb ≠ 0 ∨ xp ≠ 0 ∨ xo ≠ 0 then 5 else 0) := Lib.hid (by rw [HLE.out, if_neg (by rw [HEE.out]; decide), HIS.out])
     have HU2 : Hid (usedN ls (k + 1) = u + 1) := Lib.hid (by rw [HUS.out, if_neg (by rw [HEE.out]; decide), HUU.out])
     cases is with
     | false =>
      have HV : Hid (r = 12) := Lib.hid (by
       have h5 : lineE (L 0) ls k = 12 := by rw [HLE2.out]; rfl
       rw [HHIT.out (by rw [h5]; decide), h5])
      go_wp2_with fail
      go_ret
      exact ⟨by rw [HV.out]; rfl, (HBW.out _ (HB2.out.alloc HB2.out.size _)).1⟩
     | true =>
      obtain ⟨w3, hw3⟩ : ∃ w3, w3 = w2.alloc (.cells #[.string y.code, .string (y.nm 0), .int .i64 (y.fc 0), .string (y.nm 1), .int .i64 (y.fc 1), .string (y.nm 2), .int .i64 (y.fc 2), .string (y.nm 3), .int .i64 (y.fc 3), .int .i64 y.vol, .int .i64 y.wei, .bool y.lots, .bool y.serial, .bool y.chk] 70) := ⟨_, rfl⟩
      have HW3 := Lib.hid hw3
      have hb3 : Below w2.heap.size w2 w3 := by rw [hw3]; exact (Below.refl _ _).alloc (Nat.le_refl _) _
      have HB3 := Lib.hid (HB2.out.trans (hb3.mono HB2.out.size))
      have HB13 := Lib.hid (HB12.out.trans (hb3.mono HB12.out.size))
      clear hw3 hb3
      go_wp2_with fail
      rw [← HW3.out]
      go_loopw [10] (fun j wx => ∃ W : World, W = wx ∧ ∃ q : Nat, q ≤ k ∧ j = .int .i64 (q : Int) ∧ Hid (((List.range q).any fun k => Pl.eqv (lnAt ls k).item xi) = false) ∧ Hid (Below w3.heap.size w3 wx)) (fun j _ => k - (intOf j).toNat)
      case atStart => exact ⟨_, rfl, 0, by omega, rfl, Lib.hid rfl, Lib.hid (Below.refl _ _)⟩
      case round =>
       obtain ⟨wx, rfl, q, hq, rfl, hnq, hx⟩ := hrel
       have HXX := Lib.hid (HB13.out.trans (hx.out.mono HB13.out.size))
       have HWX := Lib.hid (HB3.out.trans (hx.out.mono HB3.out.size))
       have hbl := HX1.out _ HXX.out
       have y0 : wx.cell? ⟨wr.heap.size, 0, none⟩ = some (.string xi) := by rw [cell_of_block hbl]; rfl
       have ylt : wr.heap.size < wx.heap.size := lt_of_block hbl
       by_cases hqt : q < k
       · have hq8 : q < 8 := by omega
         have r2 := line_at HF.out (range_cells (HX.out _ HWX.out)) hq8
         rw [Nat.zero_add] at r2
         obtain ⟨yi, hyi⟩ : ∃ z, (lnAt ls q).item = z := ⟨_, rfl⟩
         have z0 : wx.cell? ⟨w.heap.size + 1, q * 6, none⟩ = some (.string yi) := by have := r2 0 (.string (lnAt ls q).item) rfl; rw [hyi] at this; simpa using this
         have zlt : w.heap.size + 1 < wx.heap.size := lt_of_block (HX.out _ HWX.out)
         have hsn := any_snoc (fun k => Pl.eqv (lnAt ls k).item xi) q
         rw [hnq.out, Bool.false_or, hyi] at hsn
         have HSN := Lib.hid hsn
         have HYI := Lib.hid hyi
         have i1 : (0 : Int) ≤ (q : Int) := by omega
         have i2 : (q : Int) < 8 := by omega
         clear hbl r2 hsn hyi
         cases hf : Pl.eqv yi xi with
         | true =>
          have hf' : (yi.toList == xi.toList) = true := hf
          have HV : Hid (r = 11) := Lib.hid (by
           have ha : ((List.range k).any fun k => Pl.eqv (lnAt ls k).item xi) = true := List.any_eq_true.2 ⟨q, List.mem_range.2 hqt, by rw [HYI.out]; exact hf⟩
           have h5 : lineE (L 0) ls k = 11 := by rw [HLE2.out, if_neg (by decide), if_pos ha]
           rw [HHIT.out (by rw [h5]; decide), h5])
          clear hf
          go_wp2_with fail
          go_quiet (fail)
          go_wp2_with fail
          go_ret
          exact ⟨by rw [HV.out]; rfl, below_drewN (HBW.out _ HWX.out).1 _⟩
         | false =>
          have hf' : (yi.toList == xi.toList) = false := hf
          have HNQ : Hid (((List.range (q + 1)).any fun k => Pl.eqv (lnAt ls k).item xi) = false) := Lib.hid (by rw [HSN.out]; exact hf)
          clear hf
          go_wp2_with fail
          go_quiet (fail)
          go_wp2_with fail
          go_roundw
          case rel => exact ⟨_, rfl, q + 1, by omega, by go_num, HNQ, Lib.hid (below_drewN hx.out _)⟩
          case measure => simp [intOf]; omega
       · have hqe : q = k := by omega
         have HAN : Hid (((List.range k).any fun k => Pl.eqv (lnAt ls k).item xi) = false) := Lib.hid (by rw [← hqe]; exact hnq.out)
         have HLE3 : Hid (lineE (L 0) ls k = if xa < 1 ∨ 1000000000 < xa then 10 else if xg ≠ 0 ∨ xb ≠ 0 ∨ xp ≠ 0 ∨ xo ≠ 0 then 5 else 0) := Lib.hid (by rw [HLE2.out, if_neg (by decide), if_neg (by rw [HAN.out]; decide)])
         have y1 : wx.cell? ⟨wr.heap.size, 1, none⟩ = some (.int .i64 xa) := by rw [cell_of_block hbl]; rfl
         have y2 : wx.cell? ⟨wr.heap.size, 2, none⟩ = some (.int .i64 xg) := by rw [cell_of_block hbl]; rfl
         have y3 : wx.cell? ⟨wr.heap.size, 3, none⟩ = some (.int .i64 xb) := by rw [cell_of_block hbl]; rfl
         have y4 : wx.cell? ⟨wr.heap.size, 4, none⟩ = some (.int .i64 xp) := by rw [cell_of_block hbl]; rfl
         have y5 : wx.cell? ⟨wr.heap.size, 5, none⟩ = some (.int .i64 xo) := by rw [cell_of_block hbl]; rfl
         clear hbl hnq hqt hq
         by_cases q1 : xa < 1
         ·
          have HV : Hid (r = 10) := Lib.hid (by
           have h5 : lineE (L 0) ls k = 10 := by rw [HLE3.out]; rw [if_pos (.inl q1)]
           rw [HHIT.out (by rw [h5]; decide), h5])
          go_wp2_with fail
          go_ret
          exact ⟨by rw [HV.out]; rfl, (HBW.out _ HWX.out).1⟩
         · by_cases q2 : 1000000000 < xa
           ·
            have HV : Hid (r = 10) := Lib.hid (by
             have h5 : lineE (L 0) ls k = 10 := by rw [HLE3.out]; rw [if_pos (.inr q2)]
             rw [HHIT.out (by rw [h5]; decide), h5])
            go_wp2_with fail
            go_ret
            exact ⟨by rw [HV.out]; rfl, (HBW.out _ HWX.out).1⟩
           · have HLE4 : Hid (lineE (L 0) ls k = if xg ≠ 0 ∨ xb ≠ 0 ∨ xp ≠ 0 ∨ xo ≠ 0 then 5 else 0) := Lib.hid (by rw [HLE3.out, if_neg (by omega)])
             by_cases z_xg : xg = 0
             ·
              subst z_xg
              by_cases z_xb : xb = 0
              ·
               subst z_xb
               by_cases z_xp : xp = 0
               ·
                subst z_xp
                by_cases z_xo : xo = 0
                ·
                 subst z_xo
                 have HV : Hid (firstE (lineE (L 0) ls) (k + 1) = 0) := Lib.hid (HGO.out (by rw [HLE4.out]; simp))
                 go_wp2_with fail
                 go_roundw
                 case rel => exact ⟨k + 1, by omega, by rw [HU2.out]; go_num, by go_num, HV, HWX⟩
                 case measure => simp [intOf]; omega
                ·
                 have b_xo : (xo != 0) = true := by simpa using z_xo
                 have HV : Hid (r = 5) := Lib.hid (by
                  have h5 : lineE (L 0) ls k = 5 := by rw [HLE4.out]; simp [z_xo]
                  rw [HHIT.out (by rw [h5]; decide), h5])
                 clear z_xo
                 go_wp2_with fail
                 go_ret
                 exact ⟨by rw [HV.out]; rfl, (HBW.out _ HWX.out).1⟩
               ·
                have b_xp : (xp != 0) = true := by simpa using z_xp
                have HV : Hid (r = 5) := Lib.hid (by
                 have h5 : lineE (L 0) ls k = 5 := by rw [HLE4.out]; simp [z_xp]
                 rw [HHIT.out (by rw [h5]; decide), h5])
                clear z_xp
                go_wp2_with fail
                go_ret
                exact ⟨by rw [HV.out]; rfl, (HBW.out _ HWX.out).1⟩
              ·
               have b_xb : (xb != 0) = true := by simpa using z_xb
               have HV : Hid (r = 5) := Lib.hid (by
                have h5 : lineE (L 0) ls k = 5 := by rw [HLE4.out]; simp [z_xb]
                rw [HHIT.out (by rw [h5]; decide), h5])
               clear z_xb
               go_wp2_with fail
               go_ret
               exact ⟨by rw [HV.out]; rfl, (HBW.out _ HWX.out).1⟩
             ·
              have b_xg : (xg != 0) = true := by simpa using z_xg
              have HV : Hid (r = 5) := Lib.hid (by
               have h5 : lineE (L 0) ls k = 5 := by rw [HLE4.out]; simp [z_xg]
               rw [HHIT.out (by rw [h5]; decide), h5])
              clear z_xg
              go_wp2_with fail
              go_ret
              exact ⟨by rw [HV.out]; rfl, (HBW.out _ HWX.out).1⟩
  · have hk8 : k = 8 := by omega
    subst hk8
    obtain ⟨u, hu⟩ : ∃ u, usedN ls 8 = u := ⟨_, rfl⟩
    have HV : Hid (r = if u = 0 then 12 else 0) := Lib.hid (by rw [HR.out, if_neg (by rw [hno.out]; simp), hu])
    rw [hu]
    clear hu
    by_cases q1 : u = 0
    · have HE : Hid (r = 12) := Lib.hid (by rw [HV.out, if_pos q1])
      subst q1
      go_wp2_with fail
      go_ret
      exact ⟨by rw [HE.out]; rfl, (HBW.out _ hw.out).1⟩
    · have HE : Hid (r = 0) := Lib.hid (by rw [HV.out, if_neg q1])
      have b1 : ((u : Int) == 0) = false := by simpa using q1
      clear q1
      go_wp2_with fail
      go_ret
      exact ⟨by rw [HE.out]; rfl, (HBW.out _ hw.out).1⟩

end Go.Proofs.YtlkmccmbpnbgbaaGreat
