/-
  CONTRACTS of the law's pairs (are two lists the same?), nut, awake.
-/
import Derived.Test.YtdcnkchhdmppeaaUSplit
import Derived.Test.YtdcnkchhdmppeaaHEqs
import Derived.Test.YtdcnkchhdmppeaaHTypes
import Derived.Test.YtdcnkchhdmppeaaHRow
import Derived.BigQuiet
import Derived.Deep.RegionHeld3
namespace Go.Proofs.Ytdcnkchhdmppeaa
set_option linter.unusedVariables false
open Go.RowKit
open Pl (It)

set_option maxRecDepth 100000 in
set_option maxHeartbeats 1600000 in
theorem samePair (A A2 : Option Addr) (n c m c2 : Nat) (L X : List (List Value)) (w : World) (hn : n = L.length) (hm : m = X.length) (hn4 : n ≤ 1000000) (hL : Things kPair L) (hX : Things kPair X) (hr : Rd w w.heap.size A L.flatten) (hr2 : Rd w w.heap.size A2 X.flatten) :
    Calls Try.prog 10 #[.slice A n c, .slice A2 m c2] w fun e w' => (∃ b : Bool, e = .returned (.bool b) ∧ (b = true ↔ L = X)) ∧ ∃ q, w' = w.drewN q := by
  by_cases hnm : n = m
  · subst hnm
    have HN := Lib.hid hn
    have HM := Lib.hid hm
    have HR := Lib.hid hr
    have HR2 := Lib.hid hr2
    have HL := Lib.hid hL
    have HX := Lib.hid hX
    have hk : kPair.length = 2 := by decide
    clear hn hr hr2 hm hL hX
    go_enter Try.func10, Try.ntmps10
    go_wp2_with fail
    go_loopw [5] (fun i wr => ∃ k : Nat, k ≤ n ∧ i = .int .i64 (k : Int) ∧ Hid (L.take k = X.take k) ∧ Hid (∃ q, wr = w.drewN q)) (fun i _ => n - (intOf i).toNat)
    case atStart => exact ⟨0, by omega, rfl, Lib.hid rfl, Lib.hid ⟨0, rfl⟩⟩
    case round =>
      obtain ⟨k, hkn, rfl, hE, hq⟩ := hrel
      by_cases hlt : k < n
      · have hl : k < L.length := by rw [← HN.out]; exact hlt
        have hx : k < X.length := by rw [← HM.out]; exact hlt
        obtain ⟨b, off, rfl, hb, hc⟩ := HR.out.thing HL.out (by rw [hk]; decide) hl
        obtain ⟨b2, off2, rfl, hb2, hc2⟩ := HR2.out.thing HX.out (by rw [hk]; decide) hx
        have fx := HL.out _ (List.getElem_mem hl)
        have fy := HX.out _ (List.getElem_mem hx)
        have r1 := hc k hl
        have r2 := hc2 k hx
        rw [hk] at r1 r2
        have HT : Hid ((L.take (k + 1) = X.take (k + 1) ↔ L[k] = X[k]) ∧ (L = X → L[k] = X[k])) := Lib.hid (by
          refine ⟨?_, fun h => by subst h; rfl⟩
          rw [List.take_succ_eq_append_getElem hl, List.take_succ_eq_append_getElem hx, hE.out]
          exact ⟨fun h => by have := List.append_cancel_left h; injection this, fun h => by rw [h]⟩)
        generalize L[k] = x at fx r1 HT
        generalize X[k] = y at fy r2 HT
        have hi : (Try.prog.info? 36).map (·.size) = some 2 := by kernel_rfl
        have hu := Try.underlying36
        have hix : (Try.prog.info? 36).map (·.size) = some x.length := by rw [hi, fx.length, hk]
        have hiy : (Try.prog.info? 36).map (·.size) = some y.length := by rw [hi, fy.length, hk]
        have HR1 : Hid (∀ W, Below w.heap.size w W → W.rangeAt b (off + k * 2) x ∧ W.rangeAt b2 (off2 + k * 2) y) := Lib.hid (fun W hW => ⟨rangeAt_below r1 hb hW, rangeAt_below r2 hb2 hW⟩)
        have HWB : Hid (Below w.heap.size w wr) := Lib.hid (by obtain ⟨q0, hq0⟩ := hq.out; rw [hq0]; exact below_drewN (Below.refl _ _) _)
        have hq2 : Hid (∀ z, ∃ q, wr.drewN z = w.drewN q) := Lib.hid (fun z => by obtain ⟨q0, hq0⟩ := hq.out; rw [hq0]; exact ⟨_, World.drewN_drewN _ _ _⟩)
        have h1 : (0 : Int) ≤ (k : Int) := by omega
        have h2 : (k : Int) < (n : Int) := by omega
        by_cases hxy : x = y
        · have hne : ∀ W, (binOp .neq 36 (.agg x.toArray) (.agg y.toArray)).run Try.prog W = .ok (.bool false) W := fun W => by
            obtain ⟨b0, h1, h2⟩ := neq_struct eqPair (by decide) x y W fx fy
            rw [h2.2 hxy] at h1
            exact h1
          have HXY := Lib.hid hxy
          clear r1 r2 hc hc2 hb hb2 fx fy hi hk hl hx hxy
          go_wp2_with fail
          apply region_to
          · refine wp_region_held_drew (S := (fun w' => w'.rangeAt b (off + k * 2) x ∧ w'.rangeAt b2 (off2 + k * 2) y)) (by kernel_rfl) (HR1.out _ HWB.out.drew) (fun dd0 => ?_)
            refine wpAnyH_take (i := 0) (v := .slice (some ⟨b, off, none⟩) n c) rfl (by kernel_rfl) (by kernel_rfl) (by kernel_rfl) (fun _ _ _ h => nomatch h.1) (.inl ⟨by kernel_rfl, fun w hw => by clear hw; go_simp⟩) (by assumption) ?_
            (try simp only [Act.put, List.getElem_toArray, List.getElem_cons_zero, List.setIfInBounds_toArray, List.set_cons_zero, List.set_cons_succ])
            refine wpAnyH_take (i := 1) (v := .int .i64 (k : Int)) rfl (by kernel_rfl) (by kernel_rfl) (by kernel_rfl) (fun _ _ _ h => nomatch h.1) (.inl ⟨by kernel_rfl, fun w hw => by clear hw; go_simp⟩) (by assumption) ?_
            (try simp only [Act.put, List.getElem_toArray, List.getElem_cons_succ, List.getElem_cons_zero, List.setIfInBounds_toArray, List.set_cons_zero, List.set_cons_succ])
            refine wpAnyH_take (i := 2) (v := .pointer (some ⟨b, off + k * 2, none⟩)) rfl (by kernel_rfl) (by kernel_rfl) (by kernel_rfl) (fun _ _ _ h => nomatch h.1) (.inl ⟨by kernel_rfl, fun w hw => by clear hw; go_simp⟩) (by assumption) ?_
            (try simp only [Act.put, List.getElem_toArray, List.getElem_cons_succ, List.getElem_cons_zero, List.setIfInBounds_toArray, List.set_cons_zero, List.set_cons_succ])
            refine wpAnyH_take (i := 3) (v := .agg x.toArray) rfl (by kernel_rfl) (by kernel_rfl) (by kernel_rfl) (fun _ _ _ h => nomatch h.1) (yieldsIf_load_mid (by kernel_rfl) 36 (.tmp 19) rfl b _ rfl x _ (fun w h => h.1) hu rfl hix) (by assumption) ?_
            (try simp only [Act.put, List.getElem_toArray, List.getElem_cons_succ, List.getElem_cons_zero, List.setIfInBounds_toArray, List.set_cons_zero, List.set_cons_succ])
            refine wpAnyH_take (i := 4) (v := .slice (some ⟨b2, off2, none⟩) n c2) rfl (by kernel_rfl) (by kernel_rfl) (by kernel_rfl) (fun _ _ _ h => nomatch h.1) (.inl ⟨by kernel_rfl, fun w hw => by clear hw; go_simp⟩) (by assumption) ?_
            (try simp only [Act.put, List.getElem_toArray, List.getElem_cons_succ, List.getElem_cons_zero, List.setIfInBounds_toArray, List.set_cons_zero, List.set_cons_succ])
            refine wpAnyH_take (i := 5) (v := .int .i64 (k : Int)) rfl (by kernel_rfl) (by kernel_rfl) (by kernel_rfl) (fun _ _ _ h => nomatch h.1) (.inl ⟨by kernel_rfl, fun w hw => by clear hw; go_simp⟩) (by assumption) ?_
            (try simp only [Act.put, List.getElem_toArray, List.getElem_cons_succ, List.getElem_cons_zero, List.setIfInBounds_toArray, List.set_cons_zero, List.set_cons_succ])
            refine wpAnyH_take (i := 6) (v := .pointer (some ⟨b2, off2 + k * 2, none⟩)) rfl (by kernel_rfl) (by kernel_rfl) (by kernel_rfl) (fun _ _ _ h => nomatch h.1) (.inl ⟨by kernel_rfl, fun w hw => by clear hw; go_simp⟩) (by assumption) ?_
            (try simp only [Act.put, List.getElem_toArray, List.getElem_cons_succ, List.getElem_cons_zero, List.setIfInBounds_toArray, List.set_cons_zero, List.set_cons_succ])
            refine wpAnyH_take (i := 7) (v := .agg y.toArray) rfl (by kernel_rfl) (by kernel_rfl) (by kernel_rfl) (fun _ _ _ h => nomatch h.1) (yieldsIf_load_mid (by kernel_rfl) 36 (.tmp 23) rfl b2 _ rfl y _ (fun w h => h.2) hu rfl hiy) (by assumption) ?_
            (try simp only [Act.put, List.getElem_toArray, List.getElem_cons_succ, List.getElem_cons_zero, List.setIfInBounds_toArray, List.set_cons_zero, List.set_cons_succ])
            refine wpAnyH_take (i := 8) (v := .bool false) rfl (by kernel_rfl) (by kernel_rfl) (by kernel_rfl) (fun _ _ _ h => nomatch h.1) (.inl ⟨by kernel_rfl, fun w hw => by clear hw; go_simp⟩) (by assumption) ?_
            (try simp only [Act.put, List.getElem_toArray, List.getElem_cons_succ, List.getElem_cons_zero, List.setIfInBounds_toArray, List.set_cons_zero, List.set_cons_succ])
            refine wpAnyH_done (by kernel_rfl) ?_ _
            exact ⟨rfl, rfl, rfl⟩
          go_wp2_with fail
          go_roundw
          case rel => exact ⟨k + 1, by omega, by go_num, Lib.hid (HT.out.1.2 HXY.out), Lib.hid (hq2.out 1)⟩
          case measure => simp [intOf]; omega
        · have hne : ∀ W, (binOp .neq 36 (.agg x.toArray) (.agg y.toArray)).run Try.prog W = .ok (.bool true) W := fun W => by
            obtain ⟨b0, h1, h2⟩ := neq_struct eqPair (by decide) x y W fx fy
            cases b0 with
            | false => exact absurd (h2.1 rfl) hxy
            | true => exact h1
          have HXY : Hid (L ≠ X) := Lib.hid (fun h => hxy (HT.out.2 h))
          clear r1 r2 hc hc2 hb hb2 fx fy hi hk hl hx hxy
          go_wp2_with fail
          apply region_to
          · refine wp_region_held_drew (S := (fun w' => w'.rangeAt b (off + k * 2) x ∧ w'.rangeAt b2 (off2 + k * 2) y)) (by kernel_rfl) (HR1.out _ HWB.out.drew) (fun dd0 => ?_)
            refine wpAnyH_take (i := 0) (v := .slice (some ⟨b, off, none⟩) n c) rfl (by kernel_rfl) (by kernel_rfl) (by kernel_rfl) (fun _ _ _ h => nomatch h.1) (.inl ⟨by kernel_rfl, fun w hw => by clear hw; go_simp⟩) (by assumption) ?_
            (try simp only [Act.put, List.getElem_toArray, List.getElem_cons_zero, List.setIfInBounds_toArray, List.set_cons_zero, List.set_cons_succ])
            refine wpAnyH_take (i := 1) (v := .int .i64 (k : Int)) rfl (by kernel_rfl) (by kernel_rfl) (by kernel_rfl) (fun _ _ _ h => nomatch h.1) (.inl ⟨by kernel_rfl, fun w hw => by clear hw; go_simp⟩) (by assumption) ?_
            (try simp only [Act.put, List.getElem_toArray, List.getElem_cons_succ, List.getElem_cons_zero, List.setIfInBounds_toArray, List.set_cons_zero, List.set_cons_succ])
            refine wpAnyH_take (i := 2) (v := .pointer (some ⟨b, off + k * 2, none⟩)) rfl (by kernel_rfl) (by kernel_rfl) (by kernel_rfl) (fun _ _ _ h => nomatch h.1) (.inl ⟨by kernel_rfl, fun w hw => by clear hw; go_simp⟩) (by assumption) ?_
            (try simp only [Act.put, List.getElem_toArray, List.getElem_cons_succ, List.getElem_cons_zero, List.setIfInBounds_toArray, List.set_cons_zero, List.set_cons_succ])
            refine wpAnyH_take (i := 3) (v := .agg x.toArray) rfl (by kernel_rfl) (by kernel_rfl) (by kernel_rfl) (fun _ _ _ h => nomatch h.1) (yieldsIf_load_mid (by kernel_rfl) 36 (.tmp 19) rfl b _ rfl x _ (fun w h => h.1) hu rfl hix) (by assumption) ?_
            (try simp only [Act.put, List.getElem_toArray, List.getElem_cons_succ, List.getElem_cons_zero, List.setIfInBounds_toArray, List.set_cons_zero, List.set_cons_succ])
            refine wpAnyH_take (i := 4) (v := .slice (some ⟨b2, off2, none⟩) n c2) rfl (by kernel_rfl) (by kernel_rfl) (by kernel_rfl) (fun _ _ _ h => nomatch h.1) (.inl ⟨by kernel_rfl, fun w hw => by clear hw; go_simp⟩) (by assumption) ?_
            (try simp only [Act.put, List.getElem_toArray, List.getElem_cons_succ, List.getElem_cons_zero, List.setIfInBounds_toArray, List.set_cons_zero, List.set_cons_succ])
            refine wpAnyH_take (i := 5) (v := .int .i64 (k : Int)) rfl (by kernel_rfl) (by kernel_rfl) (by kernel_rfl) (fun _ _ _ h => nomatch h.1) (.inl ⟨by kernel_rfl, fun w hw => by clear hw; go_simp⟩) (by assumption) ?_
            (try simp only [Act.put, List.getElem_toArray, List.getElem_cons_succ, List.getElem_cons_zero, List.setIfInBounds_toArray, List.set_cons_zero, List.set_cons_succ])
            refine wpAnyH_take (i := 6) (v := .pointer (some ⟨b2, off2 + k * 2, none⟩)) rfl (by kernel_rfl) (by kernel_rfl) (by kernel_rfl) (fun _ _ _ h => nomatch h.1) (.inl ⟨by kernel_rfl, fun w hw => by clear hw; go_simp⟩) (by assumption) ?_
            (try simp only [Act.put, List.getElem_toArray, List.getElem_cons_succ, List.getElem_cons_zero, List.setIfInBounds_toArray, List.set_cons_zero, List.set_cons_succ])
            refine wpAnyH_take (i := 7) (v := .agg y.toArray) rfl (by kernel_rfl) (by kernel_rfl) (by kernel_rfl) (fun _ _ _ h => nomatch h.1) (yieldsIf_load_mid (by kernel_rfl) 36 (.tmp 23) rfl b2 _ rfl y _ (fun w h => h.2) hu rfl hiy) (by assumption) ?_
            (try simp only [Act.put, List.getElem_toArray, List.getElem_cons_succ, List.getElem_cons_zero, List.setIfInBounds_toArray, List.set_cons_zero, List.set_cons_succ])
            refine wpAnyH_take (i := 8) (v := .bool true) rfl (by kernel_rfl) (by kernel_rfl) (by kernel_rfl) (fun _ _ _ h => nomatch h.1) (.inl ⟨by kernel_rfl, fun w hw => by clear hw; go_simp⟩) (by assumption) ?_
            (try simp only [Act.put, List.getElem_toArray, List.getElem_cons_succ, List.getElem_cons_zero, List.setIfInBounds_toArray, List.set_cons_zero, List.set_cons_succ])
            refine wpAnyH_done (by kernel_rfl) ?_ _
            exact ⟨rfl, rfl, rfl⟩
          go_wp2_with fail
          go_ret
          exact ⟨⟨false, rfl, by simpa using HXY.out⟩, hq2.out 1⟩
      · have HE : Hid (L = X) := Lib.hid (by
          have := hE.out
          rwa [List.take_of_length_le (by rw [← HN.out]; omega), List.take_of_length_le (by rw [← HM.out]; omega)] at this)
        go_wp2_with fail
        go_ret
        exact ⟨⟨true, rfl, by simpa using HE.out⟩, hq.out⟩
  · have HNE : Hid (L ≠ X) := Lib.hid (by rintro rfl; omega)
    have hb : ((n : Int) != (m : Int)) = true := by rw [bne_iff_ne]; omega
    clear hn hm hr hr2 hL hX
    go_enter Try.func10, Try.ntmps10
    go_wp2_with fail
    go_ret
    exact ⟨⟨false, rfl, by simpa using HNE.out⟩, 0, rfl⟩

theorem prC_things (l : List Pr) : Things kPair (prC l) := fun e he => by
  obtain ⟨p, _, rfl⟩ := List.mem_map.1 he
  exact ⟨⟨_, rfl⟩, ⟨_, rfl⟩, trivial⟩
/-- Two rows of the same pairs are the same. -/
theorem pairs_same (A A2 : Option Addr) (n c m c2 B B2 : Nat) (l : List Pr) (w : World) (hn : n = l.length) (hm : m = l.length) (hn4 : n ≤ 1000000) (h1 : w.ownsRow B 36 2 (.slice A n c) n (prC l).flatten) (h2 : w.ownsRow B2 36 2 (.slice A2 m c2) m (prC l).flatten) :
    Calls Try.prog 10 #[.slice A n c, .slice A2 m c2] w fun e w' => e = .returned (.bool true) ∧ Below w.heap.size w w' := by
  have hl : (prC l).length = l.length := by simp [prC]
  refine (samePair A A2 n c m c2 (prC l) (prC l) w (by rw [hl]; exact hn) (by rw [hl]; exact hm) hn4 (prC_things l) (prC_things l) (Rd.of_own h1) (Rd.of_own h2)).mono ?_
  rintro e w1 ⟨⟨b, rfl, hb⟩, q, rfl⟩
  exact ⟨by rw [hb.2 rfl], below_drewN (Below.refl _ _) _⟩

theorem picks_len {x : It} : ∀ (f : Nat) (used : Nat → Bool), (Pl.picksU x used f).length ≤ f
  | 0, _ => by simp [Pl.picksU]
  | f + 1, used => by
    unfold Pl.picksU
    split
    · simp
    · have := picks_len (x := x) f (Pl.useU used ‹Nat›)
      simp only [List.length_cons]; omega
theorem split_len (x : It) (n : Int) : (Pl.splitU x n).length ≤ 5 := by
  have h1 := Pl.runU_len (x := x) (Pl.picksU x (fun _ => false) 4) n
  have h2 := picks_len (x := x) 4 (fun _ => false)
  exact Nat.le_trans h1 (by omega)
/-- The item of the examples. -/
def nutI : It := { code := ⟨#[110, 117, 116]⟩, nm := Pl.at4 ⟨#[98, 111, 120]⟩ ⟨#[99, 97, 115, 101]⟩ ⟨#[]⟩ ⟨#[]⟩, fc := Pl.at4 12 240 0 0, vol := 0, wei := 0, lots := false, serial := false, chk := false }
theorem nut_any (w : World) : Calls Try.prog 19 #[] w fun e w' => e = .returned (.agg nutI.cells.toArray) ∧ Below w.heap.size w w' := by
  go_enter Try.func19, Try.ntmps19
  go_wp2_with fail
  exact bodyPost_ret (results_cell_row rfl _ _ w.heap.size _ _ _ _ rfl (heap_alloc_new _ _) Try.underlying26 rfl (by kernel_rfl)) rfl ⟨rfl, (Below.refl _ _).alloc (Nat.le_refl _) _⟩
theorem own_three (W : World) (B : Nat) (a b c d e f : Value) (T : TypeId) (hB : B ≤ W.heap.size) (N : Nat) (hN : W.heap.size = N) : (W.alloc (.cells #[a, b, c, d, e, f] T)).ownsRow B T 2 (.slice (some ⟨N, 0, none⟩) 3 3) 3 [a, b, c, d, e, f] := by
  subst hN
  exact ⟨rfl, .inr ⟨W.heap.size, 3, #[a, b, c, d, e, f], rfl, hB, heap_alloc_new _ _, Nat.le_refl _, by decide, rfl, rfl⟩⟩

set_option maxRecDepth 100000 in
set_option maxHeartbeats 1600000 in
/-- The chapter's examples hold. -/
theorem awake_any (w : World) : Calls Try.prog 13 #[] w fun e w' => e = .returned (.bool true) ∧ Below w.heap.size w w' := by
  have HN : Hid (∀ W, Calls Try.prog 19 #[] W fun e w' => e = .returned (.agg nutI.cells.toArray) ∧ Below W.heap.size W w') := Lib.hid nut_any
  have H1 : Hid (∀ W, Calls Try.prog 8 #[.agg nutI.cells.toArray, .string ⟨#[99, 97, 115, 101]⟩, .int .i64 2] W fun e w' => e = .returned (.tuple #[.int .i64 480, .int .i64 0]) ∧ Below W.heap.size W w') := Lib.hid (fun W => (base_any nutI ⟨#[99, 97, 115, 101]⟩ 2 W (by decide) (by decide)).mono fun e w' ⟨h1, h2⟩ => ⟨by rw [h1, show Pl.baseU nutI ⟨#[99, 97, 115, 101]⟩ 2 = 480 from by decide +kernel, show Pl.baseE nutI ⟨#[99, 97, 115, 101]⟩ 2 = 0 from by decide +kernel]; rfl, h2⟩)
  have H2 : Hid (∀ W, Calls Try.prog 8 #[.agg nutI.cells.toArray, .string ⟨#[101, 97, 99, 104]⟩, .int .i64 5] W fun e w' => e = .returned (.tuple #[.int .i64 5, .int .i64 0]) ∧ Below W.heap.size W w') := Lib.hid (fun W => (base_any nutI ⟨#[101, 97, 99, 104]⟩ 5 W (by decide) (by decide)).mono fun e w' ⟨h1, h2⟩ => ⟨by rw [h1, show Pl.baseU nutI ⟨#[101, 97, 99, 104]⟩ 5 = 5 from by decide +kernel, show Pl.baseE nutI ⟨#[101, 97, 99, 104]⟩ 5 = 0 from by decide +kernel]; rfl, h2⟩)
  have H3 : Hid (∀ W, Calls Try.prog 8 #[.agg nutI.cells.toArray, .string ⟨#[98, 97, 103]⟩, .int .i64 1] W fun e w' => e = .returned (.tuple #[.int .i64 0, .int .i64 20]) ∧ Below W.heap.size W w') := Lib.hid (fun W => (base_any nutI ⟨#[98, 97, 103]⟩ 1 W (by decide) (by decide)).mono fun e w' ⟨h1, h2⟩ => ⟨by rw [h1, show Pl.baseU nutI ⟨#[98, 97, 103]⟩ 1 = 0 from by decide +kernel, show Pl.baseE nutI ⟨#[98, 97, 103]⟩ 1 = 20 from by decide +kernel]; rfl, h2⟩)
  have H4 : Hid (∀ W, Calls Try.prog 8 #[.agg nutI.cells.toArray, .string ⟨#[99, 97, 115, 101]⟩, .int .i64 5000000] W fun e w' => e = .returned (.tuple #[.int .i64 0, .int .i64 10]) ∧ Below W.heap.size W w') := Lib.hid (fun W => (base_any nutI ⟨#[99, 97, 115, 101]⟩ 5000000 W (by decide) (by decide)).mono fun e w' ⟨h1, h2⟩ => ⟨by rw [h1, show Pl.baseU nutI ⟨#[99, 97, 115, 101]⟩ 5000000 = 0 from by decide +kernel, show Pl.baseE nutI ⟨#[99, 97, 115, 101]⟩ 5000000 = 10 from by decide +kernel]; rfl, h2⟩)
  have H5 : Hid (∀ W, Calls Try.prog 11 #[.agg nutI.cells.toArray, .int .i64 500] W (NewP W [(⟨#[99, 97, 115, 101]⟩, 2), (⟨#[98, 111, 120]⟩, 1), (⟨#[101, 97, 99, 104]⟩, 8)])) := Lib.hid (fun W => by
    have := split_any nutI 500 W (by decide) (by decide)
    rwa [show Pl.splitU nutI 500 = [(⟨#[99, 97, 115, 101]⟩, 2), (⟨#[98, 111, 120]⟩, 1), (⟨#[101, 97, 99, 104]⟩, 8)] from by decide +kernel] at this)
  obtain ⟨nv, hnv⟩ : ∃ nv, nutI.cells.toArray = nv := ⟨_, rfl⟩
  rw [hnv] at HN H1 H2 H3 H4 H5
  clear hnv
  go_enter Try.func13, Try.ntmps13
  go_wp2_with fail
  refine (HN.out _).mono ?_
  rintro e w1 ⟨rfl, hb1⟩
  have B1 := Lib.hid hb1
  clear hb1
  go_wp2_with fail
  refine (H1.out _).mono ?_
  rintro e w2 ⟨rfl, hb2⟩
  have B2 := Lib.hid (B1.out.trans (hb2.mono B1.out.size))
  clear hb2
  go_wp2_with fail
  refine (HN.out _).mono ?_
  rintro e w3 ⟨rfl, hb3⟩
  have B3 := Lib.hid (B2.out.trans (hb3.mono B2.out.size))
  clear hb3
  go_wp2_with fail
  refine (H2.out _).mono ?_
  rintro e w4 ⟨rfl, hb4⟩
  have B4 := Lib.hid (B3.out.trans (hb4.mono B3.out.size))
  clear hb4
  go_wp2_with fail
  refine (HN.out _).mono ?_
  rintro e w5 ⟨rfl, hb5⟩
  have B5 := Lib.hid (B4.out.trans (hb5.mono B4.out.size))
  clear hb5
  go_wp2_with fail
  refine (H3.out _).mono ?_
  rintro e w6 ⟨rfl, hb6⟩
  have B6 := Lib.hid (B5.out.trans (hb6.mono B5.out.size))
  clear hb6
  go_wp2_with fail
  refine (HN.out _).mono ?_
  rintro e w7 ⟨rfl, hb7⟩
  have B7 := Lib.hid (B6.out.trans (hb7.mono B6.out.size))
  clear hb7
  go_wp2_with fail
  refine (H4.out _).mono ?_
  rintro e w8 ⟨rfl, hb8⟩
  have B8 := Lib.hid (B7.out.trans (hb8.mono B7.out.size))
  clear hb8
  go_wp2_with fail
  refine (HN.out _).mono ?_
  rintro e w9 ⟨rfl, hb9⟩
  have B9 := Lib.hid (B8.out.trans (hb9.mono B8.out.size))
  clear hb9
  go_wp2_with fail
  refine (H5.out _).mono ?_
  rintro e wa ⟨A, n, c, hn, rfl, hown, hba⟩
  obtain rfl : n = 3 := hn
  have BA := Lib.hid (B9.out.trans (hba.mono B9.out.size))
  have HO := Lib.hid hown
  clear hba hown
  go_wp2_with fail
  refine (pairs_same A _ 3 c 3 3 _ wa.heap.size [(⟨#[99, 97, 115, 101]⟩, 2), (⟨#[98, 111, 120]⟩, 1), (⟨#[101, 97, 99, 104]⟩, 8)] _ rfl rfl (by decide) (HO.out.alloc _) (own_three wa _ _ _ _ _ _ _ _ (Nat.le_refl _) _ rfl)).mono ?_
  rintro e wb ⟨rfl, hbb⟩
  have BB := Lib.hid ((BA.out.alloc BA.out.size _).trans (hbb.mono (BA.out.alloc BA.out.size _).size))
  clear hbb
  go_wp2_with fail
  go_ret
  exact ⟨rfl, BB.out⟩
end Go.Proofs.Ytdcnkchhdmppeaa
