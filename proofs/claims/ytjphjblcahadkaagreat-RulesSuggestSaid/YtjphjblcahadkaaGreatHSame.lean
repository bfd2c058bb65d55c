/-
  CONTRACTS of stevedorekeep's same, of each list of a house.
-/
import Derived.Test.YtjphjblcahadkaaGreatHHouse
import Derived.BigQuiet
import Derived.Deep.RegionHeld3
namespace Go.Proofs.YtjphjblcahadkaaGreat
open Go.RowKit

set_option maxRecDepth 100000 in
set_option maxHeartbeats 1600000 in
theorem sameItem (A A2 : Option Addr) (n c m c2 : Nat) (L X : List (List Value)) (w : World) (hn : n = L.length) (hm : m = X.length) (hn4 : n ≤ 1000000) (hL : Things kItem L) (hX : Things kItem X) (hr : Rd w w.heap.size A L.flatten) (hr2 : Rd w w.heap.size A2 X.flatten) :
    Calls Tryz.prog 41 #[.slice A n c, .slice A2 m c2] w fun e w' => (∃ b : Bool, e = .returned (.bool b) ∧ (b = true ↔ L = X)) ∧ ∃ q, w' = w.drewN q := by
  by_cases hnm : n = m
  · subst hnm
    have HN := Lib.hid hn
    have HM := Lib.hid hm
    have HR := Lib.hid hr
    have HR2 := Lib.hid hr2
    have HL := Lib.hid hL
    have HX := Lib.hid hX
    have hk : kItem.length = 14 := by decide
    clear hn hr hr2 hm hL hX
    go_enter Tryz.func41, Tryz.ntmps41
    go_wp2_with fail
    go_loopw [5] (fun i wr => ∃ k : Nat, k ≤ n ∧ i = .int .i64 (k : Int) ∧ Hid (L.take k = X.take k) ∧ Hid (∃ q, wr = w.drewN q)) (fun i _ => n - (intOf i).toNat)
    case atStart => exact ⟨0, by omega, rfl, Lib.hid rfl, Lib.hid ⟨0, rfl⟩⟩
    case round =>
      obtain ⟨k, hkn, rfl, hE, hq⟩ := hrel
      by_cases hlt : k < n
      · have hl : k < L.length := by rw [← HN.out]; exact hlt
        have hx : k < X.length := by rw [← HM.out]; exact hlt
        obtain ⟨b, off, rfl, hb, hc⟩ := HR.out.thing HL.out (by rw [hk]; decide) hl
        obtain ⟨b2, off2, rfl, hb2, hc2⟩ := HR2.out.thing HX.out (by rw [hk]; decide) hx
        have fx := HL.out _ (List.getElem_mem hl)
        have fy := HX.out _ (List.getElem_mem hx)
        have r1 := hc k hl
        have r2 := hc2 k hx
        rw [hk] at r1 r2
        have HT : Hid ((L.take (k + 1) = X.take (k + 1) ↔ L[k] = X[k]) ∧ (L = X → L[k] = X[k])) := Lib.hid (by
          refine ⟨?_, fun h => by subst h; rfl⟩
          rw [List.take_succ_eq_append_getElem hl, List.take_succ_eq_append_getElem hx, hE.out]
          exact ⟨fun h => by have := List.append_cancel_left h; injection this, fun h => by rw [h]⟩)
        generalize L[k] = x at fx r1 HT
        generalize X[k] = y at fy r2 HT
        have hi : (Tryz.prog.info? 59).map (·.size) = some 14 := by kernel_rfl
        have hu := Tryz.underlying59
        have hix : (Tryz.prog.info? 59).map (·.size) = some x.length := by rw [hi, fx.length, hk]
        have hiy : (Tryz.prog.info? 59).map (·.size) = some y.length := by rw [hi, fy.length, hk]
        have HR1 : Hid (∀ W, Below w.heap.size w W → W.rangeAt b (off + k * 14) x ∧ W.rangeAt b2 (off2 + k * 14) y) := Lib.hid (fun W hW => ⟨rangeAt_below r1 hb hW, rangeAt_below r2 hb2 hW⟩)
        have HWB : Hid (Below w.heap.size w wr) := Lib.hid (by obtain ⟨q0, hq0⟩ := hq.out; rw [hq0]; exact below_drewN (Below.refl _ _) _)
        have hq2 : Hid (∀ z, ∃ q, wr.drewN z = w.drewN q) := Lib.hid (fun z => by obtain ⟨q0, hq0⟩ := hq.out; rw [hq0]; exact ⟨_, World.drewN_drewN _ _ _⟩)
        have h1 : (0 : Int) ≤ (k : Int) := by omega
        have h2 : (k : Int) < (n : Int) := by omega
        by_cases hxy : x = y
        · have hne : ∀ W, (binOp .neq 59 (.agg x.toArray) (.agg y.toArray)).run Tryz.prog W = .ok (.bool false) W := fun W => by
            obtain ⟨b0, h1, h2⟩ := neq_struct eqItem (by decide) x y W fx fy
            rw [h2.2 hxy] at h1
            exact h1
          have HXY := Lib.hid hxy
          clear r1 r2 hc hc2 hb hb2 fx fy hi hk hl hx hxy
          go_wp2_with fail
          apply region_to
          · refine wp_region_held_drew (S := (fun w' => w'.rangeAt b (off + k * 14) x ∧ w'.rangeAt b2 (off2 + k * 14) y)) (by kernel_rfl) (HR1.out _ HWB.out.drew) (fun dd0 => ?_)
            refine wpAnyH_take (i := 0) (v := .slice (some ⟨b, off, none⟩) n c) rfl (by kernel_rfl) (by kernel_rfl) (by kernel_rfl) (fun _ _ _ h => nomatch h.1) (.inl ⟨by kernel_rfl, fun w hw => by clear hw; go_simp⟩) (by assumption) ?_
            (try simp only [Act.put, List.getElem_toArray, List.getElem_cons_zero, List.setIfInBounds_toArray, List.set_cons_zero, List.set_cons_succ])
            refine wpAnyH_take (i := 1) (v := .int .i64 (k : Int)) rfl (by kernel_rfl) (by kernel_rfl) (by kernel_rfl) (fun _ _ _ h => nomatch h.1) (.inl ⟨by kernel_rfl, fun w hw => by clear hw; go_simp⟩) (by assumption) ?_
            (try simp only [Act.put, List.getElem_toArray, List.getElem_cons_succ, List.getElem_cons_zero, List.setIfInBounds_toArray, List.set_cons_zero, List.set_cons_succ])
            refine wpAnyH_take (i := 2) (v := .pointer (some ⟨b, off + k * 14, none⟩)) rfl (by kernel_rfl) (by kernel_rfl) (by kernel_rfl) (fun _ _ _ h => nomatch h.1) (.inl ⟨by kernel_rfl, fun w hw => by clear hw; go_simp⟩) (by assumption) ?_
            (try simp only [Act.put, List.getElem_toArray, List.getElem_cons_succ, List.getElem_cons_zero, List.setIfInBounds_toArray, List.set_cons_zero, List.set_cons_succ])
            refine wpAnyH_take (i := 3) (v := .agg x.toArray) rfl (by kernel_rfl) (by kernel_rfl) (by kernel_rfl) (fun _ _ _ h => nomatch h.1) (yieldsIf_load_mid (by kernel_rfl) 59 (.tmp 19) rfl b _ rfl x _ (fun w h => h.1) hu rfl hix) (by assumption) ?_
            (try simp only [Act.put, List.getElem_toArray, List.getElem_cons_succ, List.getElem_cons_zero, List.setIfInBounds_toArray, List.set_cons_zero, List.set_cons_succ])
            refine wpAnyH_take (i := 4) (v := .slice (some ⟨b2, off2, none⟩) n c2) rfl (by kernel_rfl) (by kernel_rfl) (by kernel_rfl) (fun _ _ _ h => nomatch h.1) (.inl ⟨by kernel_rfl, fun w hw => by clear hw; go_simp⟩) (by assumption) ?_
            (try simp only [Act.put, List.getElem_toArray, List.getElem_cons_succ, List.getElem_cons_zero, List.setIfInBounds_toArray, List.set_cons_zero, List.set_cons_succ])
            refine wpAnyH_take (i := 5) (v := .int .i64 (k : Int)) rfl (by kernel_rfl) (by kernel_rfl) (by kernel_rfl) (fun _ _ _ h => nomatch h.1) (.inl ⟨by kernel_rfl, fun w hw => by clear hw; go_simp⟩) (by assumption) ?_
            (try simp only [Act.put, List.getElem_toArray, List.getElem_cons_succ, List.getElem_cons_zero, List.setIfInBounds_toArray, List.set_cons_zero, List.set_cons_succ])
            refine wpAnyH_take (i := 6) (v := .pointer (some ⟨b2, off2 + k * 14, none⟩)) rfl (by kernel_rfl) (by kernel_rfl) (by kernel_rfl) (fun _ _ _ h => nomatch h.1) (.inl ⟨by kernel_rfl, fun w hw => by clear hw; go_simp⟩) (by assumption) ?_
            (try simp only [Act.put, List.getElem_toArray, List.getElem_cons_succ, List.getElem_cons_zero, List.setIfInBounds_toArray, List.set_cons_zero, List.set_cons_succ])
            refine wpAnyH_take (i := 7) (v := .agg y.toArray) rfl (by kernel_rfl) (by kernel_rfl) (by kernel_rfl) (fun _ _ _ h => nomatch h.1) (yieldsIf_load_mid (by kernel_rfl) 59 (.tmp 23) rfl b2 _ rfl y _ (fun w h => h.2) hu rfl hiy) (by assumption) ?_
            (try simp only [Act.put, List.getElem_toArray, List.getElem_cons_succ, List.getElem_cons_zero, List.setIfInBounds_toArray, List.set_cons_zero, List.set_cons_succ])
            refine wpAnyH_take (i := 8) (v := .bool false) rfl (by kernel_rfl) (by kernel_rfl) (by kernel_rfl) (fun _ _ _ h => nomatch h.1) (.inl ⟨by kernel_rfl, fun w hw => by clear hw; go_simp⟩) (by assumption) ?_
            (try simp only [Act.put, List.getElem_toArray, List.getElem_cons_succ, List.getElem_cons_zero, List.setIfInBounds_toArray, List.set_cons_zero, List.set_cons_succ])
            refine wpAnyH_done (by kernel_rfl) ?_ _
            exact ⟨rfl, rfl, rfl⟩
          go_wp2_with fail
          go_roundw
          case rel => exact ⟨k + 1, by omega, by go_num, Lib.hid (HT.out.1.2 HXY.out), Lib.hid (hq2.out 1)⟩
          case measure => simp [intOf]; omega
        · have hne : ∀ W, (binOp .neq 59 (.agg x.toArray) (.agg y.toArray)).run Tryz.prog W = .ok (.bool true) W := fun W => by
            obtain ⟨b0, h1, h2⟩ := neq_struct eqItem (by decide) x y W fx fy
            cases b0 with
            | false => exact absurd (h2.1 rfl) hxy
            | true => exact h1
          have HXY : Hid (L ≠ X) := Lib.hid (fun h => hxy (HT.out.2 h))
          clear r1 r2 hc hc2 hb hb2 fx fy hi hk hl hx hxy
          go_wp2_with fail
          apply region_to
          · refine wp_region_held_drew (S := (fun w' => w'.rangeAt b (off + k * 14) x ∧ w'.rangeAt b2 (off2 + k * 14) y)) (by kernel_rfl) (HR1.out _ HWB.out.drew) (fun dd0 => ?_)
            refine wpAnyH_take (i := 0) (v := .slice (some ⟨b, off, none⟩) n c) rfl (by kernel_rfl) (by kernel_rfl) (by kernel_rfl) (fun _ _ _ h => nomatch h.1) (.inl ⟨by kernel_rfl, fun w hw => by clear hw; go_simp⟩) (by assumption) ?_
            (try simp only [Act.put, List.getElem_toArray, List.getElem_cons_zero, List.setIfInBounds_toArray, List.set_cons_zero, List.set_cons_succ])
            refine wpAnyH_take (i := 1) (v := .int .i64 (k : Int)) rfl (by kernel_rfl) (by kernel_rfl) (by kernel_rfl) (fun _ _ _ h => nomatch h.1) (.inl ⟨by kernel_rfl, fun w hw => by clear hw; go_simp⟩) (by assumption) ?_
            (try simp only [Act.put, List.getElem_toArray, List.getElem_cons_succ, List.getElem_cons_zero, List.setIfInBounds_toArray, List.set_cons_zero, List.set_cons_succ])
            refine wpAnyH_take (i := 2) (v := .pointer (some ⟨b, off + k * 14, none⟩)) rfl (by kernel_rfl) (by kernel_rfl) (by kernel_rfl) (fun _ _ _ h => nomatch h.1) (.inl ⟨by kernel_rfl, fun w hw => by clear hw; go_simp⟩) (by assumption) ?_
            (try simp only [Act.put, List.getElem_toArray, List.getElem_cons_succ, List.getElem_cons_zero, List.setIfInBounds_toArray, List.set_cons_zero, List.set_cons_succ])
            refine wpAnyH_take (i := 3) (v := .agg x.toArray) rfl (by kernel_rfl) (by kernel_rfl) (by kernel_rfl) (fun _ _ _ h => nomatch h.1) (yieldsIf_load_mid (by kernel_rfl) 59 (.tmp 19) rfl b _ rfl x _ (fun w h => h.1) hu rfl hix) (by assumption) ?_
            (try simp only [Act.put, List.getElem_toArray, List.getElem_cons_succ, List.getElem_cons_zero, List.setIfInBounds_toArray, List.set_cons_zero, List.set_cons_succ])
            refine wpAnyH_take (i := 4) (v := .slice (some ⟨b2, off2, none⟩) n c2) rfl (by kernel_rfl) (by kernel_rfl) (by kernel_rfl) (fun _ _ _ h => nomatch h.1) (.inl ⟨by kernel_rfl, fun w hw => by clear hw; go_simp⟩) (by assumption) ?_
            (try simp only [Act.put, List.getElem_toArray, List.getElem_cons_succ, List.getElem_cons_zero, List.setIfInBounds_toArray, List.set_cons_zero, List.set_cons_succ])
            refine wpAnyH_take (i := 5) (v := .int .i64 (k : Int)) rfl (by kernel_rfl) (by kernel_rfl) (by kernel_rfl) (fun _ _ _ h => nomatch h.1) (.inl ⟨by kernel_rfl, fun w hw => by clear hw; go_simp⟩) (by assumption) ?_
            (try simp only [Act.put, List.getElem_toArray, List.getElem_cons_succ, List.getElem_cons_zero, List.setIfInBounds_toArray, List.set_cons_zero, List.set_cons_succ])
            refine wpAnyH_take (i := 6) (v := .pointer (some ⟨b2, off2 + k * 14, none⟩)) rfl (by kernel_rfl) (by kernel_rfl) (by kernel_rfl) (fun _ _ _ h => nomatch h.1) (.inl ⟨by kernel_rfl, fun w hw => by clear hw; go_simp⟩) (by assumption) ?_
            (try simp only [Act.put, List.getElem_toArray, List.getElem_cons_succ, List.getElem_cons_zero, List.setIfInBounds_toArray, List.set_cons_zero, List.set_cons_succ])
            refine wpAnyH_take (i := 7) (v := .agg y.toArray) rfl (by kernel_rfl) (by kernel_rfl) (by kernel_rfl) (fun _ _ _ h => nomatch h.1) (yieldsIf_load_mid (by kernel_rfl) 59 (.tmp 23) rfl b2 _ rfl y _ (fun w h => h.2) hu rfl hiy) (by assumption) ?_
            (try simp only [Act.put, List.getElem_toArray, List.getElem_cons_succ, List.getElem_cons_zero, List.setIfInBounds_toArray, List.set_cons_zero, List.set_cons_succ])
            refine wpAnyH_take (i := 8) (v := .bool true) rfl (by kernel_rfl) (by kernel_rfl) (by kernel_rfl) (fun _ _ _ h => nomatch h.1) (.inl ⟨by kernel_rfl, fun w hw => by clear hw; go_simp⟩) (by assumption) ?_
            (try simp only [Act.put, List.getElem_toArray, List.getElem_cons_succ, List.getElem_cons_zero, List.setIfInBounds_toArray, List.set_cons_zero, List.set_cons_succ])
            refine wpAnyH_done (by kernel_rfl) ?_ _
            exact ⟨rfl, rfl, rfl⟩
          go_wp2_with fail
          go_ret
          exact ⟨⟨false, rfl, by simpa using HXY.out⟩, hq2.out 1⟩
      · have HE : Hid (L = X) := Lib.hid (by
          have := hE.out
          rwa [List.take_of_length_le (by rw [← HN.out]; omega), List.take_of_length_le (by rw [← HM.out]; omega)] at this)
        go_wp2_with fail
        go_ret
        exact ⟨⟨true, rfl, by simpa using HE.out⟩, hq.out⟩
  · have HNE : Hid (L ≠ X) := Lib.hid (by rintro rfl; omega)
    have hb : ((n : Int) != (m : Int)) = true := by rw [bne_iff_ne]; omega
    clear hn hm hr hr2 hL hX
    go_enter Tryz.func41, Tryz.ntmps41
    go_wp2_with fail
    go_ret
    exact ⟨⟨false, rfl, by simpa using HNE.out⟩, 0, rfl⟩

set_option maxRecDepth 100000 in
set_option maxHeartbeats 1600000 in
theorem sameLot (A A2 : Option Addr) (n c m c2 : Nat) (L X : List (List Value)) (w : World) (hn : n = L.length) (hm : m = X.length) (hn4 : n ≤ 1000000) (hL : Things kLot L) (hX : Things kLot X) (hr : Rd w w.heap.size A L.flatten) (hr2 : Rd w w.heap.size A2 X.flatten) :
    Calls Tryz.prog 42 #[.slice A n c, .slice A2 m c2] w fun e w' => (∃ b : Bool, e = .returned (.bool b) ∧ (b = true ↔ L = X)) ∧ ∃ q, w' = w.drewN q := by
  by_cases hnm : n = m
  · subst hnm
    have HN := Lib.hid hn
    have HM := Lib.hid hm
    have HR := Lib.hid hr
    have HR2 := Lib.hid hr2
    have HL := Lib.hid hL
    have HX := Lib.hid hX
    have hk : kLot.length = 3 := by decide
    clear hn hr hr2 hm hL hX
    go_enter Tryz.func42, Tryz.ntmps42
    go_wp2_with fail
    go_loopw [5] (fun i wr => ∃ k : Nat, k ≤ n ∧ i = .int .i64 (k : Int) ∧ Hid (L.take k = X.take k) ∧ Hid (∃ q, wr = w.drewN q)) (fun i _ => n - (intOf i).toNat)
    case atStart => exact ⟨0, by omega, rfl, Lib.hid rfl, Lib.hid ⟨0, rfl⟩⟩
    case round =>
      obtain ⟨k, hkn, rfl, hE, hq⟩ := hrel
      by_cases hlt : k < n
      · have hl : k < L.length := by rw [← HN.out]; exact hlt
        have hx : k < X.length := by rw [← HM.out]; exact hlt
        obtain ⟨b, off, rfl, hb, hc⟩ := HR.out.thing HL.out (by rw [hk]; decide) hl
        obtain ⟨b2, off2, rfl, hb2, hc2⟩ := HR2.out.thing HX.out (by rw [hk]; decide) hx
        have fx := HL.out _ (List.getElem_mem hl)
        have fy := HX.out _ (List.getElem_mem hx)
        have r1 := hc k hl
        have r2 := hc2 k hx
        rw [hk] at r1 r2
        have HT : Hid ((L.take (k + 1) = X.take (k + 1) ↔ L[k] = X[k]) ∧ (L = X → L[k] = X[k])) := Lib.hid (by
          refine ⟨?_, fun h => by subst h; rfl⟩
          rw [List.take_succ_eq_append_getElem hl, List.take_succ_eq_append_getElem hx, hE.out]
          exact ⟨fun h => by have := List.append_cancel_left h; injection this, fun h => by rw [h]⟩)
        generalize L[k] = x at fx r1 HT
        generalize X[k] = y at fy r2 HT
        have hi : (Tryz.prog.info? 62).map (·.size) = some 3 := by kernel_rfl
        have hu := Tryz.underlying62
        have hix : (Tryz.prog.info? 62).map (·.size) = some x.length := by rw [hi, fx.length, hk]
        have hiy : (Tryz.prog.info? 62).map (·.size) = some y.length := by rw [hi, fy.length, hk]
        have HR1 : Hid (∀ W, Below w.heap.size w W → W.rangeAt b (off + k * 3) x ∧ W.rangeAt b2 (off2 + k * 3) y) := Lib.hid (fun W hW => ⟨rangeAt_below r1 hb hW, rangeAt_below r2 hb2 hW⟩)
        have HWB : Hid (Below w.heap.size w wr) := Lib.hid (by obtain ⟨q0, hq0⟩ := hq.out; rw [hq0]; exact below_drewN (Below.refl _ _) _)
        have hq2 : Hid (∀ z, ∃ q, wr.drewN z = w.drewN q) := Lib.hid (fun z => by obtain ⟨q0, hq0⟩ := hq.out; rw [hq0]; exact ⟨_, World.drewN_drewN _ _ _⟩)
        have h1 : (0 : Int) ≤ (k : Int) := by omega
        have h2 : (k : Int) < (n : Int) := by omega
        by_cases hxy : x = y
        · have hne : ∀ W, (binOp .neq 62 (.agg x.toArray) (.agg y.toArray)).run Tryz.prog W = .ok (.bool false) W := fun W => by
            obtain ⟨b0, h1, h2⟩ := neq_struct eqLot (by decide) x y W fx fy
            rw [h2.2 hxy] at h1
            exact h1
          have HXY := Lib.hid hxy
          clear r1 r2 hc hc2 hb hb2 fx fy hi hk hl hx hxy
          go_wp2_with fail
          apply region_to
          · refine wp_region_held_drew (S := (fun w' => w'.rangeAt b (off + k * 3) x ∧ w'.rangeAt b2 (off2 + k * 3) y)) (by kernel_rfl) (HR1.out _ HWB.out.drew) (fun dd0 => ?_)
            refine wpAnyH_take (i := 0) (v := .slice (some ⟨b, off, none⟩) n c) rfl (by kernel_rfl) (by kernel_rfl) (by kernel_rfl) (fun _ _ _ h => nomatch h.1) (.inl ⟨by kernel_rfl, fun w hw => by clear hw; go_simp⟩) (by assumption) ?_
            (try simp only [Act.put, List.getElem_toArray, List.getElem_cons_zero, List.setIfInBounds_toArray, List.set_cons_zero, List.set_cons_succ])
            refine wpAnyH_take (i := 1) (v := .int .i64 (k : Int)) rfl (by kernel_rfl) (by kernel_rfl) (by kernel_rfl) (fun _ _ _ h => nomatch h.1) (.inl ⟨by kernel_rfl, fun w hw => by clear hw; go_simp⟩) (by assumption) ?_
            (try simp only [Act.put, List.getElem_toArray, List.getElem_cons_succ, List.getElem_cons_zero, List.setIfInBounds_toArray, List.set_cons_zero, List.set_cons_succ])
            refine wpAnyH_take (i := 2) (v := .pointer (some ⟨b, off + k * 3, none⟩)) rfl (by kernel_rfl) (by kernel_rfl) (by kernel_rfl) (fun _ _ _ h => nomatch h.1) (.inl ⟨by kernel_rfl, fun w hw => by clear hw; go_simp⟩) (by assumption) ?_
            (try simp only [Act.put, List.getElem_toArray, List.getElem_cons_succ, List.getElem_cons_zero, List.setIfInBounds_toArray, List.set_cons_zero, List.set_cons_succ])
            refine wpAnyH_take (i := 3) (v := .agg x.toArray) rfl (by kernel_rfl) (by kernel_rfl) (by kernel_rfl) (fun _ _ _ h => nomatch h.1) (yieldsIf_load_mid (by kernel_rfl) 62 (.tmp 19) rfl b _ rfl x _ (fun w h => h.1) hu rfl hix) (by assumption) ?_
            (try simp only [Act.put, List.getElem_toArray, List.getElem_cons_succ, List.getElem_cons_zero, List.setIfInBounds_toArray, List.set_cons_zero, List.set_cons_succ])
            refine wpAnyH_take (i := 4) (v := .slice (some ⟨b2, off2, none⟩) n c2) rfl (by kernel_rfl) (by kernel_rfl) (by kernel_rfl) (fun _ _ _ h => nomatch h.1) (.inl ⟨by kernel_rfl, fun w hw => by clear hw; go_simp⟩) (by assumption) ?_
            (try simp only [Act.put, List.getElem_toArray, List.getElem_cons_succ, List.getElem_cons_zero, List.setIfInBounds_toArray, List.set_cons_zero, List.set_cons_succ])
            refine wpAnyH_take (i := 5) (v := .int .i64 (k : Int)) rfl (by kernel_rfl) (by kernel_rfl) (by kernel_rfl) (fun _ _ _ h => nomatch h.1) (.inl ⟨by kernel_rfl, fun w hw => by clear hw; go_simp⟩) (by assumption) ?_
            (try simp only [Act.put, List.getElem_toArray, List.getElem_cons_succ, List.getElem_cons_zero, List.setIfInBounds_toArray, List.set_cons_zero, List.set_cons_succ])
            refine wpAnyH_take (i := 6) (v := .pointer (some ⟨b2, off2 + k * 3, none⟩)) rfl (by kernel_rfl) (by kernel_rfl) (by kernel_rfl) (fun _ _ _ h => nomatch h.1) (.inl ⟨by kernel_rfl, fun w hw => by clear hw; go_simp⟩) (by assumption) ?_
            (try simp only [Act.put, List.getElem_toArray, List.getElem_cons_succ, List.getElem_cons_zero, List.setIfInBounds_toArray, List.set_cons_zero, List.set_cons_succ])
            refine wpAnyH_take (i := 7) (v := .agg y.toArray) rfl (by kernel_rfl) (by kernel_rfl) (by kernel_rfl) (fun _ _ _ h => nomatch h.1) (yieldsIf_load_mid (by kernel_rfl) 62 (.tmp 23) rfl b2 _ rfl y _ (fun w h => h.2) hu rfl hiy) (by assumption) ?_
            (try simp only [Act.put, List.getElem_toArray, List.getElem_cons_succ, List.getElem_cons_zero, List.setIfInBounds_toArray, List.set_cons_zero, List.set_cons_succ])
            refine wpAnyH_take (i := 8) (v := .bool false) rfl (by kernel_rfl) (by kernel_rfl) (by kernel_rfl) (fun _ _ _ h => nomatch h.1) (.inl ⟨by kernel_rfl, fun w hw => by clear hw; go_simp⟩) (by assumption) ?_
            (try simp only [Act.put, List.getElem_toArray, List.getElem_cons_succ, List.getElem_cons_zero, List.setIfInBounds_toArray, List.set_cons_zero, List.set_cons_succ])
            refine wpAnyH_done (by kernel_rfl) ?_ _
            exact ⟨rfl, rfl, rfl⟩
          go_wp2_with fail
          go_roundw
          case rel => exact ⟨k + 1, by omega, by go_num, Lib.hid (HT.out.1.2 HXY.out), Lib.hid (hq2.out 1)⟩
          case measure => simp [intOf]; omega
        · have hne : ∀ W, (binOp .neq 62 (.agg x.toArray) (.agg y.toArray)).run Tryz.prog W = .ok (.bool true) W := fun W => by
            obtain ⟨b0, h1, h2⟩ := neq_struct eqLot (by decide) x y W fx fy
            cases b0 with
            | false => exact absurd (h2.1 rfl) hxy
            | true => exact h1
          have HXY : Hid (L ≠ X) := Lib.hid (fun h => hxy (HT.out.2 h))
          clear r1 r2 hc hc2 hb hb2 fx fy hi hk hl hx hxy
          go_wp2_with fail
          apply region_to
          · refine wp_region_held_drew (S := (fun w' => w'.rangeAt b (off + k * 3) x ∧ w'.rangeAt b2 (off2 + k * 3) y)) (by kernel_rfl) (HR1.out _ HWB.out.drew) (fun dd0 => ?_)
            refine wpAnyH_take (i := 0) (v := .slice (some ⟨b, off, none⟩) n c) rfl (by kernel_rfl) (by kernel_rfl) (by kernel_rfl) (fun _ _ _ h => nomatch h.1) (.inl ⟨by kernel_rfl, fun w hw => by clear hw; go_simp⟩) (by assumption) ?_
            (try simp only [Act.put, List.getElem_toArray, List.getElem_cons_zero, List.setIfInBounds_toArray, List.set_cons_zero, List.set_cons_succ])
            refine wpAnyH_take (i := 1) (v := .int .i64 (k : Int)) rfl (by kernel_rfl) (by kernel_rfl) (by kernel_rfl) (fun _ _ _ h => nomatch h.1) (.inl ⟨by kernel_rfl, fun w hw => by clear hw; go_simp⟩) (by assumption) ?_
            (try simp only [Act.put, List.getElem_toArray, List.getElem_cons_succ, List.getElem_cons_zero, List.setIfInBounds_toArray, List.set_cons_zero, List.set_cons_succ])
            refine wpAnyH_take (i := 2) (v := .pointer (some ⟨b, off + k * 3, none⟩)) rfl (by kernel_rfl) (by kernel_rfl) (by kernel_rfl) (fun _ _ _ h => nomatch h.1) (.inl ⟨by kernel_rfl, fun w hw => by clear hw; go_simp⟩) (by assumption) ?_
            (try simp only [Act.put, List.getElem_toArray, List.getElem_cons_succ, List.getElem_cons_zero, List.setIfInBounds_toArray, List.set_cons_zero, List.set_cons_succ])
            refine wpAnyH_take (i := 3) (v := .agg x.toArray) rfl (by kernel_rfl) (by kernel_rfl) (by kernel_rfl) (fun _ _ _ h => nomatch h.1) (yieldsIf_load_mid (by kernel_rfl) 62 (.tmp 19) rfl b _ rfl x _ (fun w h => h.1) hu rfl hix) (by assumption) ?_
            (try simp only [Act.put, List.getElem_toArray, List.getElem_cons_succ, List.getElem_cons_zero, List.setIfInBounds_toArray, List.set_cons_zero, List.set_cons_succ])
            refine wpAnyH_take (i := 4) (v := .slice (some ⟨b2, off2, none⟩) n c2) rfl (by kernel_rfl) (by kernel_rfl) (by kernel_rfl) (fun _ _ _ h => nomatch h.1) (.inl ⟨by kernel_rfl, fun w hw => by clear hw; go_simp⟩) (by assumption) ?_
            (try simp only [Act.put, List.getElem_toArray, List.getElem_cons_succ, List.getElem_cons_zero, List.setIfInBounds_toArray, List.set_cons_zero, List.set_cons_succ])
            refine wpAnyH_take (i := 5) (v := .int .i64 (k : Int)) rfl (by kernel_rfl) (by kernel_rfl) (by kernel_rfl) (fun _ _ _ h => nomatch h.1) (.inl ⟨by kernel_rfl, fun w hw => by clear hw; go_simp⟩) (by assumption) ?_
            (try simp only [Act.put, List.getElem_toArray, List.getElem_cons_succ, List.getElem_cons_zero, List.setIfInBounds_toArray, List.set_cons_zero, List.set_cons_succ])
            refine wpAnyH_take (i := 6) (v := .pointer (some ⟨b2, off2 + k * 3, none⟩)) rfl (by kernel_rfl) (by kernel_rfl) (by kernel_rfl) (fun _ _ _ h => nomatch h.1) (.inl ⟨by kernel_rfl, fun w hw => by clear hw; go_simp⟩) (by assumption) ?_
            (try simp only [Act.put, List.getElem_toArray, List.getElem_cons_succ, List.getElem_cons_zero, List.setIfInBounds_toArray, List.set_cons_zero, List.set_cons_succ])
            refine wpAnyH_take (i := 7) (v := .agg y.toArray) rfl (by kernel_rfl) (by kernel_rfl) (by kernel_rfl) (fun _ _ _ h => nomatch h.1) (yieldsIf_load_mid (by kernel_rfl) 62 (.tmp 23) rfl b2 _ rfl y _ (fun w h => h.2) hu rfl hiy) (by assumption) ?_
            (try simp only [Act.put, List.getElem_toArray, List.getElem_cons_succ, List.getElem_cons_zero, List.setIfInBounds_toArray, List.set_cons_zero, List.set_cons_succ])
            refine wpAnyH_take (i := 8) (v := .bool true) rfl (by kernel_rfl) (by kernel_rfl) (by kernel_rfl) (fun _ _ _ h => nomatch h.1) (.inl ⟨by kernel_rfl, fun w hw => by clear hw; go_simp⟩) (by assumption) ?_
            (try simp only [Act.put, List.getElem_toArray, List.getElem_cons_succ, List.getElem_cons_zero, List.setIfInBounds_toArray, List.set_cons_zero, List.set_cons_succ])
            refine wpAnyH_done (by kernel_rfl) ?_ _
            exact ⟨rfl, rfl, rfl⟩
          go_wp2_with fail
          go_ret
          exact ⟨⟨false, rfl, by simpa using HXY.out⟩, hq2.out 1⟩
      · have HE : Hid (L = X) := Lib.hid (by
          have := hE.out
          rwa [List.take_of_length_le (by rw [← HN.out]; omega), List.take_of_length_le (by rw [← HM.out]; omega)] at this)
        go_wp2_with fail
        go_ret
        exact ⟨⟨true, rfl, by simpa using HE.out⟩, hq.out⟩
  · have HNE : Hid (L ≠ X) := Lib.hid (by rintro rfl; omega)
    have hb : ((n : Int) != (m : Int)) = true := by rw [bne_iff_ne]; omega
    clear hn hm hr hr2 hL hX
    go_enter Tryz.func42, Tryz.ntmps42
    go_wp2_with fail
    go_ret
    exact ⟨⟨false, rfl, by simpa using HNE.out⟩, 0, rfl⟩

set_option maxRecDepth 100000 in
set_option maxHeartbeats 1600000 in
theorem sameZone (A A2 : Option Addr) (n c m c2 : Nat) (L X : List (List Value)) (w : World) (hn : n = L.length) (hm : m = X.length) (hn4 : n ≤ 1000000) (hL : Things kZone L) (hX : Things kZone X) (hr : Rd w w.heap.size A L.flatten) (hr2 : Rd w w.heap.size A2 X.flatten) :
    Calls Tryz.prog 43 #[.slice A n c, .slice A2 m c2] w fun e w' => (∃ b : Bool, e = .returned (.bool b) ∧ (b = true ↔ L = X)) ∧ ∃ q, w' = w.drewN q := by
  by_cases hnm : n = m
  · subst hnm
    have HN := Lib.hid hn
    have HM := Lib.hid hm
    have HR := Lib.hid hr
    have HR2 := Lib.hid hr2
    have HL := Lib.hid hL
    have HX := Lib.hid hX
    have hk : kZone.length = 2 := by decide
    clear hn hr hr2 hm hL hX
    go_enter Tryz.func43, Tryz.ntmps43
    go_wp2_with fail
    go_loopw [5] (fun i wr => ∃ k : Nat, k ≤ n ∧ i = .int .i64 (k : Int) ∧ Hid (L.take k = X.take k) ∧ Hid (∃ q, wr = w.drewN q)) (fun i _ => n - (intOf i).toNat)
    case atStart => exact ⟨0, by omega, rfl, Lib.hid rfl, Lib.hid ⟨0, rfl⟩⟩
    case round =>
      obtain ⟨k, hkn, rfl, hE, hq⟩ := hrel
      by_cases hlt : k < n
      · have hl : k < L.length := by rw [← HN.out]; exact hlt
        have hx : k < X.length := by rw [← HM.out]; exact hlt
        obtain ⟨b, off, rfl, hb, hc⟩ := HR.out.thing HL.out (by rw [hk]; decide) hl
        obtain ⟨b2, off2, rfl, hb2, hc2⟩ := HR2.out.thing HX.out (by rw [hk]; decide) hx
        have fx := HL.out _ (List.getElem_mem hl)
        have fy := HX.out _ (List.getElem_mem hx)
        have r1 := hc k hl
        have r2 := hc2 k hx
        rw [hk] at r1 r2
        have HT : Hid ((L.take (k + 1) = X.take (k + 1) ↔ L[k] = X[k]) ∧ (L = X → L[k] = X[k])) := Lib.hid (by
          refine ⟨?_, fun h => by subst h; rfl⟩
          rw [List.take_succ_eq_append_getElem hl, List.take_succ_eq_append_getElem hx, hE.out]
          exact ⟨fun h => by have := List.append_cancel_left h; injection this, fun h => by rw [h]⟩)
        generalize L[k] = x at fx r1 HT
        generalize X[k] = y at fy r2 HT
        have hi : (Tryz.prog.info? 65).map (·.size) = some 2 := by kernel_rfl
        have hu := Tryz.underlying65
        have hix : (Tryz.prog.info? 65).map (·.size) = some x.length := by rw [hi, fx.length, hk]
        have hiy : (Tryz.prog.info? 65).map (·.size) = some y.length := by rw [hi, fy.length, hk]
        have HR1 : Hid (∀ W, Below w.heap.size w W → W.rangeAt b (off + k * 2) x ∧ W.rangeAt b2 (off2 + k * 2) y) := Lib.hid (fun W hW => ⟨rangeAt_below r1 hb hW, rangeAt_below r2 hb2 hW⟩)
        have HWB : Hid (Below w.heap.size w wr) := Lib.hid (by obtain ⟨q0, hq0⟩ := hq.out; rw [hq0]; exact below_drewN (Below.refl _ _) _)
        have hq2 : Hid (∀ z, ∃ q, wr.drewN z = w.drewN q) := Lib.hid (fun z => by obtain ⟨q0, hq0⟩ := hq.out; rw [hq0]; exact ⟨_, World.drewN_drewN _ _ _⟩)
        have h1 : (0 : Int) ≤ (k : Int) := by omega
        have h2 : (k : Int) < (n : Int) := by omega
        by_cases hxy : x = y
        · have hne : ∀ W, (binOp .neq 65 (.agg x.toArray) (.agg y.toArray)).run Tryz.prog W = .ok (.bool false) W := fun W => by
            obtain ⟨b0, h1, h2⟩ := neq_struct eqZone (by decide) x y W fx fy
            rw [h2.2 hxy] at h1
            exact h1
          have HXY := Lib.hid hxy
          clear r1 r2 hc hc2 hb hb2 fx fy hi hk hl hx hxy
          go_wp2_with fail
          apply region_to
          · refine wp_region_held_drew (S := (fun w' => w'.rangeAt b (off + k * 2) x ∧ w'.rangeAt b2 (off2 + k * 2) y)) (by kernel_rfl) (HR1.out _ HWB.out.drew) (fun dd0 => ?_)
            refine wpAnyH_take (i := 0) (v := .slice (some ⟨b, off, none⟩) n c) rfl (by kernel_rfl) (by kernel_rfl) (by kernel_rfl) (fun _ _ _ h => nomatch h.1) (.inl ⟨by kernel_rfl, fun w hw => by clear hw; go_simp⟩) (by assumption) ?_
            (try simp only [Act.put, List.getElem_toArray, List.getElem_cons_zero, List.setIfInBounds_toArray, List.set_cons_zero, List.set_cons_succ])
            refine wpAnyH_take (i := 1) (v := .int .i64 (k : Int)) rfl (by kernel_rfl) (by kernel_rfl) (by kernel_rfl) (fun _ _ _ h => nomatch h.1) (.inl ⟨by kernel_rfl, fun w hw => by clear hw; go_simp⟩) (by assumption) ?_
            (try simp only [Act.put, List.getElem_toArray, List.getElem_cons_succ, List.getElem_cons_zero, List.setIfInBounds_toArray, List.set_cons_zero, List.set_cons_succ])
            refine wpAnyH_take (i := 2) (v := .pointer (some ⟨b, off + k * 2, none⟩)) rfl (by kernel_rfl) (by kernel_rfl) (by kernel_rfl) (fun _ _ _ h => nomatch h.1) (.inl ⟨by kernel_rfl, fun w hw => by clear hw; go_simp⟩) (by assumption) ?_
            (try simp only [Act.put, List.getElem_toArray, List.getElem_cons_succ, List.getElem_cons_zero, List.setIfInBounds_toArray, List.set_cons_zero, List.set_cons_succ])
            refine wpAnyH_take (i := 3) (v := .agg x.toArray) rfl (by kernel_rfl) (by kernel_rfl) (by kernel_rfl) (fun _ _ _ h => nomatch h.1) (yieldsIf_load_mid (by kernel_rfl) 65 (.tmp 19) rfl b _ rfl x _ (fun w h => h.1) hu rfl hix) (by assumption) ?_
            (try simp only [Act.put, List.getElem_toArray, List.getElem_cons_succ, List.getElem_cons_zero, List.setIfInBounds_toArray, List.set_cons_zero, List.set_cons_succ])
            refine wpAnyH_take (i := 4) (v := .slice (some ⟨b2, off2, none⟩) n c2) rfl (by kernel_rfl) (by kernel_rfl) (by kernel_rfl) (fun _ _ _ h => nomatch h.1) (.inl ⟨by kernel_rfl, fun w hw => by clear hw; go_simp⟩) (by assumption) ?_
            (try simp only [Act.put, List.getElem_toArray, List.getElem_cons_succ, List.getElem_cons_zero, List.setIfInBounds_toArray, List.set_cons_zero, List.set_cons_succ])
            refine wpAnyH_take (i := 5) (v := .int .i64 (k : Int)) rfl (by kernel_rfl) (by kernel_rfl) (by kernel_rfl) (fun _ _ _ h => nomatch h.1) (.inl ⟨by kernel_rfl, fun w hw => by clear hw; go_simp⟩) (by assumption) ?_
            (try simp only [Act.put, List.getElem_toArray, List.getElem_cons_succ, List.getElem_cons_zero, List.setIfInBounds_toArray, List.set_cons_zero, List.set_cons_succ])
            refine wpAnyH_take (i := 6) (v := .pointer (some ⟨b2, off2 + k * 2, none⟩)) rfl (by kernel_rfl) (by kernel_rfl) (by kernel_rfl) (fun _ _ _ h => nomatch h.1) (.inl ⟨by kernel_rfl, fun w hw => by clear hw; go_simp⟩) (by assumption) ?_
            (try simp only [Act.put, List.getElem_toArray, List.getElem_cons_succ, List.getElem_cons_zero, List.setIfInBounds_toArray, List.set_cons_zero, List.set_cons_succ])
            refine wpAnyH_take (i := 7) (v := .agg y.toArray) rfl (by kernel_rfl) (by kernel_rfl) (by kernel_rfl) (fun _ _ _ h => nomatch h.1) (yieldsIf_load_mid (by kernel_rfl) 65 (.tmp 23) rfl b2 _ rfl y _ (fun w h => h.2) hu rfl hiy) (by assumption) ?_
            (try simp only [Act.put, List.getElem_toArray, List.getElem_cons_succ, List.getElem_cons_zero, List.setIfInBounds_toArray, List.set_cons_zero, List.set_cons_succ])
            refine wpAnyH_take (i := 8) (v := .bool false) rfl (by kernel_rfl) (by kernel_rfl) (by kernel_rfl) (fun _ _ _ h => nomatch h.1) (.inl ⟨by kernel_rfl, fun w hw => by clear hw; go_simp⟩) (by assumption) ?_
            (try simp only [Act.put, List.getElem_toArray, List.getElem_cons_succ, List.getElem_cons_zero, List.setIfInBounds_toArray, List.set_cons_zero, List.set_cons_succ])
            refine wpAnyH_done (by kernel_rfl) ?_ _
            exact ⟨rfl, rfl, rfl⟩
          go_wp2_with fail
          go_roundw
          case rel => exact ⟨k + 1, by omega, by go_num, Lib.hid (HT.out.1.2 HXY.out), Lib.hid (hq2.out 1)⟩
          case measure => simp [intOf]; omega
        · have hne : ∀ W, (binOp .neq 65 (.agg x.toArray) (.agg y.toArray)).run Tryz.prog W = .ok (.bool true) W := fun W => by
            obtain ⟨b0, h1, h2⟩ := neq_struct eqZone (by decide) x y W fx fy
            cases b0 with
            | false => exact absurd (h2.1 rfl) hxy
            | true => exact h1
          have HXY : Hid (L ≠ X) := Lib.hid (fun h => hxy (HT.out.2 h))
          clear r1 r2 hc hc2 hb hb2 fx fy hi hk hl hx hxy
          go_wp2_with fail
          apply region_to
          · refine wp_region_held_drew (S := (fun w' => w'.rangeAt b (off + k * 2) x ∧ w'.rangeAt b2 (off2 + k * 2) y)) (by kernel_rfl) (HR1.out _ HWB.out.drew) (fun dd0 => ?_)
            refine wpAnyH_take (i := 0) (v := .slice (some ⟨b, off, none⟩) n c) rfl (by kernel_rfl) (by kernel_rfl) (by kernel_rfl) (fun _ _ _ h => nomatch h.1) (.inl ⟨by kernel_rfl, fun w hw => by clear hw; go_simp⟩) (by assumption) ?_
            (try simp only [Act.put, List.getElem_toArray, List.getElem_cons_zero, List.setIfInBounds_toArray, List.set_cons_zero, List.set_cons_succ])
            refine wpAnyH_take (i := 1) (v := .int .i64 (k : Int)) rfl (by kernel_rfl) (by kernel_rfl) (by kernel_rfl) (fun _ _ _ h => nomatch h.1) (.inl ⟨by kernel_rfl, fun w hw => by clear hw; go_simp⟩) (by assumption) ?_
            (try simp only [Act.put, List.getElem_toArray, List.getElem_cons_succ, List.getElem_cons_zero, List.setIfInBounds_toArray, List.set_cons_zero, List.set_cons_succ])
            refine wpAnyH_take (i := 2) (v := .pointer (some ⟨b, off + k * 2, none⟩)) rfl (by kernel_rfl) (by kernel_rfl) (by kernel_rfl) (fun _ _ _ h => nomatch h.1) (.inl ⟨by kernel_rfl, fun w hw => by clear hw; go_simp⟩) (by assumption) ?_
            (try simp only [Act.put, List.getElem_toArray, List.getElem_cons_succ, List.getElem_cons_zero, List.setIfInBounds_toArray, List.set_cons_zero, List.set_cons_succ])
            refine wpAnyH_take (i := 3) (v := .agg x.toArray) rfl (by kernel_rfl) (by kernel_rfl) (by kernel_rfl) (fun _ _ _ h => nomatch h.1) (yieldsIf_load_mid (by kernel_rfl) 65 (.tmp 19) rfl b _ rfl x _ (fun w h => h.1) hu rfl hix) (by assumption) ?_
            (try simp only [Act.put, List.getElem_toArray, List.getElem_cons_succ, List.getElem_cons_zero, List.setIfInBounds_toArray, List.set_cons_zero, List.set_cons_succ])
            refine wpAnyH_take (i := 4) (v := .slice (some ⟨b2, off2, none⟩) n c2) rfl (by kernel_rfl) (by kernel_rfl) (by kernel_rfl) (fun _ _ _ h => nomatch h.1) (.inl ⟨by kernel_rfl, fun w hw => by clear hw; go_simp⟩) (by assumption) ?_
            (try simp only [Act.put, List.getElem_toArray, List.getElem_cons_succ, List.getElem_cons_zero, List.setIfInBounds_toArray, List.set_cons_zero, List.set_cons_succ])
            refine wpAnyH_take (i := 5) (v := .int .i64 (k : Int)) rfl (by kernel_rfl) (by kernel_rfl) (by kernel_rfl) (fun _ _ _ h => nomatch h.1) (.inl ⟨by kernel_rfl, fun w hw => by clear hw; go_simp⟩) (by assumption) ?_
            (try simp only [Act.put, List.getElem_toArray, List.getElem_cons_succ, List.getElem_cons_zero, List.setIfInBounds_toArray, List.set_cons_zero, List.set_cons_succ])
            refine wpAnyH_take (i := 6) (v := .pointer (some ⟨b2, off2 + k * 2, none⟩)) rfl (by kernel_rfl) (by kernel_rfl) (by kernel_rfl) (fun _ _ _ h => nomatch h.1) (.inl ⟨by kernel_rfl, fun w hw => by clear hw; go_simp⟩) (by assumption) ?_
            (try simp only [Act.put, List.getElem_toArray, List.getElem_cons_succ, List.getElem_cons_zero, List.setIfInBounds_toArray, List.set_cons_zero, List.set_cons_succ])
            refine wpAnyH_take (i := 7) (v := .agg y.toArray) rfl (by kernel_rfl) (by kernel_rfl) (by kernel_rfl) (fun _ _ _ h => nomatch h.1) (yieldsIf_load_mid (by kernel_rfl) 65 (.tmp 23) rfl b2 _ rfl y _ (fun w h => h.2) hu rfl hiy) (by assumption) ?_
            (try simp only [Act.put, List.getElem_toArray, List.getElem_cons_succ, List.getElem_cons_zero, List.setIfInBounds_toArray, List.set_cons_zero, List.set_cons_succ])
            refine wpAnyH_take (i := 8) (v := .bool true) rfl (by kernel_rfl) (by kernel_rfl) (by kernel_rfl) (fun _ _ _ h => nomatch h.1) (.inl ⟨by kernel_rfl, fun w hw => by clear hw; go_simp⟩) (by assumption) ?_
            (try simp only [Act.put, List.getElem_toArray, List.getElem_cons_succ, List.getElem_cons_zero, List.setIfInBounds_toArray, List.set_cons_zero, List.set_cons_succ])
            refine wpAnyH_done (by kernel_rfl) ?_ _
            exact ⟨rfl, rfl, rfl⟩
          go_wp2_with fail
          go_ret
          exact ⟨⟨false, rfl, by simpa using HXY.out⟩, hq2.out 1⟩
      · have HE : Hid (L = X) := Lib.hid (by
          have := hE.out
          rwa [List.take_of_length_le (by rw [← HN.out]; omega), List.take_of_length_le (by rw [← HM.out]; omega)] at this)
        go_wp2_with fail
        go_ret
        exact ⟨⟨true, rfl, by simpa using HE.out⟩, hq.out⟩
  · have HNE : Hid (L ≠ X) := Lib.hid (by rintro rfl; omega)
    have hb : ((n : Int) != (m : Int)) = true := by rw [bne_iff_ne]; omega
    clear hn hm hr hr2 hL hX
    go_enter Tryz.func43, Tryz.ntmps43
    go_wp2_with fail
    go_ret
    exact ⟨⟨false, rfl, by simpa using HNE.out⟩, 0, rfl⟩

set_option maxRecDepth 100000 in
set_option maxHeartbeats 1600000 in
theorem sameBin (A A2 : Option Addr) (n c m c2 : Nat) (L X : List (List Value)) (w : World) (hn : n = L.length) (hm : m = X.length) (hn4 : n ≤ 1000000) (hL : Things kBin L) (hX : Things kBin X) (hr : Rd w w.heap.size A L.flatten) (hr2 : Rd w w.heap.size A2 X.flatten) :
    Calls Tryz.prog 44 #[.slice A n c, .slice A2 m c2] w fun e w' => (∃ b : Bool, e = .returned (.bool b) ∧ (b = true ↔ L = X)) ∧ ∃ q, w' = w.drewN q := by
  by_cases hnm : n = m
  · subst hnm
    have HN := Lib.hid hn
    have HM := Lib.hid hm
    have HR := Lib.hid hr
    have HR2 := Lib.hid hr2
    have HL := Lib.hid hL
    have HX := Lib.hid hX
    have hk : kBin.length = 8 := by decide
    clear hn hr hr2 hm hL hX
    go_enter Tryz.func44, Tryz.ntmps44
    go_wp2_with fail
    go_loopw [5] (fun i wr => ∃ k : Nat, k ≤ n ∧ i = .int .i64 (k : Int) ∧ Hid (L.take k = X.take k) ∧ Hid (∃ q, wr = w.drewN q)) (fun i _ => n - (intOf i).toNat)
    case atStart => exact ⟨0, by omega, rfl, Lib.hid rfl, Lib.hid ⟨0, rfl⟩⟩
    case round =>
      obtain ⟨k, hkn, rfl, hE, hq⟩ := hrel
      by_cases hlt : k < n
      · have hl : k < L.length := by rw [← HN.out]; exact hlt
        have hx : k < X.length := by rw [← HM.out]; exact hlt
        obtain ⟨b, off, rfl, hb, hc⟩ := HR.out.thing HL.out (by rw [hk]; decide) hl
        obtain ⟨b2, off2, rfl, hb2, hc2⟩ := HR2.out.thing HX.out (by rw [hk]; decide) hx
        have fx := HL.out _ (List.getElem_mem hl)
        have fy := HX.out _ (List.getElem_mem hx)
        have r1 := hc k hl
        have r2 := hc2 k hx
        rw [hk] at r1 r2
        have HT : Hid ((L.take (k + 1) = X.take (k + 1) ↔ L[k] = X[k]) ∧ (L = X → L[k] = X[k])) := Lib.hid (by
          refine ⟨?_, fun h => by subst h; rfl⟩
          rw [List.take_succ_eq_append_getElem hl, List.take_succ_eq_append_getElem hx, hE.out]
          exact ⟨fun h => by have := List.append_cancel_left h; injection this, fun h => by rw [h]⟩)
        generalize L[k] = x at fx r1 HT
        generalize X[k] = y at fy r2 HT
        have hi : (Tryz.prog.info? 68).map (·.size) = some 8 := by kernel_rfl
        have hu := Tryz.underlying68
        have hix : (Tryz.prog.info? 68).map (·.size) = some x.length := by rw [hi, fx.length, hk]
        have hiy : (Tryz.prog.info? 68).map (·.size) = some y.length := by rw [hi, fy.length, hk]
        have HR1 : Hid (∀ W, Below w.heap.size w W → W.rangeAt b (off + k * 8) x ∧ W.rangeAt b2 (off2 + k * 8) y) := Lib.hid (fun W hW => ⟨rangeAt_below r1 hb hW, rangeAt_below r2 hb2 hW⟩)
        have HWB : Hid (Below w.heap.size w wr) := Lib.hid (by obtain ⟨q0, hq0⟩ := hq.out; rw [hq0]; exact below_drewN (Below.refl _ _) _)
        have hq2 : Hid (∀ z, ∃ q, wr.drewN z = w.drewN q) := Lib.hid (fun z => by obtain ⟨q0, hq0⟩ := hq.out; rw [hq0]; exact ⟨_, World.drewN_drewN _ _ _⟩)
        have h1 : (0 : Int) ≤ (k : Int) := by omega
        have h2 : (k : Int) < (n : Int) := by omega
        by_cases hxy : x = y
        · have hne : ∀ W, (binOp .neq 68 (.agg x.toArray) (.agg y.toArray)).run Tryz.prog W = .ok (.bool false) W := fun W => by
            obtain ⟨b0, h1, h2⟩ := neq_struct eqBin (by decide) x y W fx fy
            rw [h2.2 hxy] at h1
            exact h1
          have HXY := Lib.hid hxy
          clear r1 r2 hc hc2 hb hb2 fx fy hi hk hl hx hxy
          go_wp2_with fail
          apply region_to
          · refine wp_region_held_drew (S := (fun w' => w'.rangeAt b (off + k * 8) x ∧ w'.rangeAt b2 (off2 + k * 8) y)) (by kernel_rfl) (HR1.out _ HWB.out.drew) (fun dd0 => ?_)
            refine wpAnyH_take (i := 0) (v := .slice (some ⟨b, off, none⟩) n c) rfl (by kernel_rfl) (by kernel_rfl) (by kernel_rfl) (fun _ _ _ h => nomatch h.1) (.inl ⟨by kernel_rfl, fun w hw => by clear hw; go_simp⟩) (by assumption) ?_
            (try simp only [Act.put, List.getElem_toArray, List.getElem_cons_zero, List.setIfInBounds_toArray, List.set_cons_zero, List.set_cons_succ])
            refine wpAnyH_take (i := 1) (v := .int .i64 (k : Int)) rfl (by kernel_rfl) (by kernel_rfl) (by kernel_rfl) (fun _ _ _ h => nomatch h.1) (.inl ⟨by kernel_rfl, fun w hw => by clear hw; go_simp⟩) (by assumption) ?_
            (try simp only [Act.put, List.getElem_toArray, List.getElem_cons_succ, List.getElem_cons_zero, List.setIfInBounds_toArray, List.set_cons_zero, List.set_cons_succ])
            refine wpAnyH_take (i := 2) (v := .pointer (some ⟨b, off + k * 8, none⟩)) rfl (by kernel_rfl) (by kernel_rfl) (by kernel_rfl) (fun _ _ _ h => nomatch h.1) (.inl ⟨by kernel_rfl, fun w hw => by clear hw; go_simp⟩) (by assumption) ?_
            (try simp only [Act.put, List.getElem_toArray, List.getElem_cons_succ, List.getElem_cons_zero, List.setIfInBounds_toArray, List.set_cons_zero, List.set_cons_succ])
            refine wpAnyH_take (i := 3) (v := .agg x.toArray) rfl (by kernel_rfl) (by kernel_rfl) (by kernel_rfl) (fun _ _ _ h => nomatch h.1) (yieldsIf_load_mid (by kernel_rfl) 68 (.tmp 19) rfl b _ rfl x _ (fun w h => h.1) hu rfl hix) (by assumption) ?_
            (try simp only [Act.put, List.getElem_toArray, List.getElem_cons_succ, List.getElem_cons_zero, List.setIfInBounds_toArray, List.set_cons_zero, List.set_cons_succ])
            refine wpAnyH_take (i := 4) (v := .slice (some ⟨b2, off2, none⟩) n c2) rfl (by kernel_rfl) (by kernel_rfl) (by kernel_rfl) (fun _ _ _ h => nomatch h.1) (.inl ⟨by kernel_rfl, fun w hw => by clear hw; go_simp⟩) (by assumption) ?_
            (try simp only [Act.put, List.getElem_toArray, List.getElem_cons_succ, List.getElem_cons_zero, List.setIfInBounds_toArray, List.set_cons_zero, List.set_cons_succ])
            refine wpAnyH_take (i := 5) (v := .int .i64 (k : Int)) rfl (by kernel_rfl) (by kernel_rfl) (by kernel_rfl) (fun _ _ _ h => nomatch h.1) (.inl ⟨by kernel_rfl, fun w hw => by clear hw; go_simp⟩) (by assumption) ?_
            (try simp only [Act.put, List.getElem_toArray, List.getElem_cons_succ, List.getElem_cons_zero, List.setIfInBounds_toArray, List.set_cons_zero, List.set_cons_succ])
            refine wpAnyH_take (i := 6) (v := .pointer (some ⟨b2, off2 + k * 8, none⟩)) rfl (by kernel_rfl) (by kernel_rfl) (by kernel_rfl) (fun _ _ _ h => nomatch h.1) (.inl ⟨by kernel_rfl, fun w hw => by clear hw; go_simp⟩) (by assumption) ?_
            (try simp only [Act.put, List.getElem_toArray, List.getElem_cons_succ, List.getElem_cons_zero, List.setIfInBounds_toArray, List.set_cons_zero, List.set_cons_succ])
            refine wpAnyH_take (i := 7) (v := .agg y.toArray) rfl (by kernel_rfl) (by kernel_rfl) (by kernel_rfl) (fun _ _ _ h => nomatch h.1) (yieldsIf_load_mid (by kernel_rfl) 68 (.tmp 23) rfl b2 _ rfl y _ (fun w h => h.2) hu rfl hiy) (by assumption) ?_
            (try simp only [Act.put, List.getElem_toArray, List.getElem_cons_succ, List.getElem_cons_zero, List.setIfInBounds_toArray, List.set_cons_zero, List.set_cons_succ])
            refine wpAnyH_take (i := 8) (v := .bool false) rfl (by kernel_rfl) (by kernel_rfl) (by kernel_rfl) (fun _ _ _ h => nomatch h.1) (.inl ⟨by kernel_rfl, fun w hw => by clear hw; go_simp⟩) (by assumption) ?_
            (try simp only [Act.put, List.getElem_toArray, List.getElem_cons_succ, List.getElem_cons_zero, List.setIfInBounds_toArray, List.set_cons_zero, List.set_cons_succ])
            refine wpAnyH_done (by kernel_rfl) ?_ _
            exact ⟨rfl, rfl, rfl⟩
          go_wp2_with fail
          go_roundw
          case rel => exact ⟨k + 1, by omega, by go_num, Lib.hid (HT.out.1.2 HXY.out), Lib.hid (hq2.out 1)⟩
          case measure => simp [intOf]; omega
        · have hne : ∀ W, (binOp .neq 68 (.agg x.toArray) (.agg y.toArray)).run Tryz.prog W = .ok (.bool true) W := fun W => by
            obtain ⟨b0, h1, h2⟩ := neq_struct eqBin (by decide) x y W fx fy
            cases b0 with
            | false => exact absurd (h2.1 rfl) hxy
            | true => exact h1
          have HXY : Hid (L ≠ X) := Lib.hid (fun h => hxy (HT.out.2 h))
          clear r1 r2 hc hc2 hb hb2 fx fy hi hk hl hx hxy
          go_wp2_with fail
          apply region_to
          · refine wp_region_held_drew (S := (fun w' => w'.rangeAt b (off + k * 8) x ∧ w'.rangeAt b2 (off2 + k * 8) y)) (by kernel_rfl) (HR1.out _ HWB.out.drew) (fun dd0 => ?_)
            refine wpAnyH_take (i := 0) (v := .slice (some ⟨b, off, none⟩) n c) rfl (by kernel_rfl) (by kernel_rfl) (by kernel_rfl) (fun _ _ _ h => nomatch h.1) (.inl ⟨by kernel_rfl, fun w hw => by clear hw; go_simp⟩) (by assumption) ?_
            (try simp only [Act.put, List.getElem_toArray, List.getElem_cons_zero, List.setIfInBounds_toArray, List.set_cons_zero, List.set_cons_succ])
            refine wpAnyH_take (i := 1) (v := .int .i64 (k : Int)) rfl (by kernel_rfl) (by kernel_rfl) (by kernel_rfl) (fun _ _ _ h => nomatch h.1) (.inl ⟨by kernel_rfl, fun w hw => by clear hw; go_simp⟩) (by assumption) ?_
            (try simp only [Act.put, List.getElem_toArray, List.getElem_cons_succ, List.getElem_cons_zero, List.setIfInBounds_toArray, List.set_cons_zero, List.set_cons_succ])
            refine wpAnyH_take (i := 2) (v := .pointer (some ⟨b, off + k * 8, none⟩)) rfl (by kernel_rfl) (by kernel_rfl) (by kernel_rfl) (fun _ _ _ h => nomatch h.1) (.inl ⟨by kernel_rfl, fun w hw => by clear hw; go_simp⟩) (by assumption) ?_
            (try simp only [Act.put, List.getElem_toArray, List.getElem_cons_succ, List.getElem_cons_zero, List.setIfInBounds_toArray, List.set_cons_zero, List.set_cons_succ])
            refine wpAnyH_take (i := 3) (v := .agg x.toArray) rfl (by kernel_rfl) (by kernel_rfl) (by kernel_rfl) (fun _ _ _ h => nomatch h.1) (yieldsIf_load_mid (by kernel_rfl) 68 (.tmp 19) rfl b _ rfl x _ (fun w h => h.1) hu rfl hix) (by assumption) ?_
            (try simp only [Act.put, List.getElem_toArray, List.getElem_cons_succ, List.getElem_cons_zero, List.setIfInBounds_toArray, List.set_cons_zero, List.set_cons_succ])
            refine wpAnyH_take (i := 4) (v := .slice (some ⟨b2, off2, none⟩) n c2) rfl (by kernel_rfl) (by kernel_rfl) (by kernel_rfl) (fun _ _ _ h => nomatch h.1) (.inl ⟨by kernel_rfl, fun w hw => by clear hw; go_simp⟩) (by assumption) ?_
            (try simp only [Act.put, List.getElem_toArray, List.getElem_cons_succ, List.getElem_cons_zero, List.setIfInBounds_toArray, List.set_cons_zero, List.set_cons_succ])
            refine wpAnyH_take (i := 5) (v := .int .i64 (k : Int)) rfl (by kernel_rfl) (by kernel_rfl) (by kernel_rfl) (fun _ _ _ h => nomatch h.1) (.inl ⟨by kernel_rfl, fun w hw => by clear hw; go_simp⟩) (by assumption) ?_
            (try simp only [Act.put, List.getElem_toArray, List.getElem_cons_succ, List.getElem_cons_zero, List.setIfInBounds_toArray, List.set_cons_zero, List.set_cons_succ])
            refine wpAnyH_take (i := 6) (v := .pointer (some ⟨b2, off2 + k * 8, none⟩)) rfl (by kernel_rfl) (by kernel_rfl) (by kernel_rfl) (fun _ _ _ h => nomatch h.1) (.inl ⟨by kernel_rfl, fun w hw => by clear hw; go_simp⟩) (by assumption) ?_
            (try simp only [Act.put, List.getElem_toArray, List.getElem_cons_succ, List.getElem_cons_zero, List.setIfInBounds_toArray, List.set_cons_zero, List.set_cons_succ])
            refine wpAnyH_take (i := 7) (v := .agg y.toArray) rfl (by kernel_rfl) (by kernel_rfl) (by kernel_rfl) (fun _ _ _ h => nomatch h.1) (yieldsIf_load_mid (by kernel_rfl) 68 (.tmp 23) rfl b2 _ rfl y _ (fun w h => h.2) hu rfl hiy) (by assumption) ?_
            (try simp only [Act.put, List.getElem_toArray, List.getElem_cons_succ, List.getElem_cons_zero, List.setIfInBounds_toArray, List.set_cons_zero, List.set_cons_succ])
            refine wpAnyH_take (i := 8) (v := .bool true) rfl (by kernel_rfl) (by kernel_rfl) (by kernel_rfl) (fun _ _ _ h => nomatch h.1) (.inl ⟨by kernel_rfl, fun w hw => by clear hw; go_simp⟩) (by assumption) ?_
            (try simp only [Act.put, List.getElem_toArray, List.getElem_cons_succ, List.getElem_cons_zero, List.setIfInBounds_toArray, List.set_cons_zero, List.set_cons_succ])
            refine wpAnyH_done (by kernel_rfl) ?_ _
            exact ⟨rfl, rfl, rfl⟩
          go_wp2_with fail
          go_ret
          exact ⟨⟨false, rfl, by simpa using HXY.out⟩, hq2.out 1⟩
      · have HE : Hid (L = X) := Lib.hid (by
          have := hE.out
          rwa [List.take_of_length_le (by rw [← HN.out]; omega), List.take_of_length_le (by rw [← HM.out]; omega)] at this)
        go_wp2_with fail
        go_ret
        exact ⟨⟨true, rfl, by simpa using HE.out⟩, hq.out⟩
  · have HNE : Hid (L ≠ X) := Lib.hid (by rintro rfl; omega)
    have hb : ((n : Int) != (m : Int)) = true := by rw [bne_iff_ne]; omega
    clear hn hm hr hr2 hL hX
    go_enter Tryz.func44, Tryz.ntmps44
    go_wp2_with fail
    go_ret
    exact ⟨⟨false, rfl, by simpa using HNE.out⟩, 0, rfl⟩

set_option maxRecDepth 100000 in
set_option maxHeartbeats 1600000 in
theorem sameQuant (A A2 : Option Addr) (n c m c2 : Nat) (L X : List (List Value)) (w : World) (hn : n = L.length) (hm : m = X.length) (hn4 : n ≤ 1000000) (hL : Things kQuant L) (hX : Things kQuant X) (hr : Rd w w.heap.size A L.flatten) (hr2 : Rd w w.heap.size A2 X.flatten) :
    Calls Tryz.prog 45 #[.slice A n c, .slice A2 m c2] w fun e w' => (∃ b : Bool, e = .returned (.bool b) ∧ (b = true ↔ L = X)) ∧ ∃ q, w' = w.drewN q := by
  by_cases hnm : n = m
  · subst hnm
    have HN := Lib.hid hn
    have HM := Lib.hid hm
    have HR := Lib.hid hr
    have HR2 := Lib.hid hr2
    have HL := Lib.hid hL
    have HX := Lib.hid hX
    have hk : kQuant.length = 6 := by decide
    clear hn hr hr2 hm hL hX
    go_enter Tryz.func45, Tryz.ntmps45
    go_wp2_with fail
    go_loopw [5] (fun i wr => ∃ k : Nat, k ≤ n ∧ i = .int .i64 (k : Int) ∧ Hid (L.take k = X.take k) ∧ Hid (∃ q, wr = w.drewN q)) (fun i _ => n - (intOf i).toNat)
    case atStart => exact ⟨0, by omega, rfl, Lib.hid rfl, Lib.hid ⟨0, rfl⟩⟩
    case round =>
      obtain ⟨k, hkn, rfl, hE, hq⟩ := hrel
      by_cases hlt : k < n
      · have hl : k < L.length := by rw [← HN.out]; exact hlt
        have hx : k < X.length := by rw [← HM.out]; exact hlt
        obtain ⟨b, off, rfl, hb, hc⟩ := HR.out.thing HL.out (by rw [hk]; decide) hl
        obtain ⟨b2, off2, rfl, hb2, hc2⟩ := HR2.out.thing HX.out (by rw [hk]; decide) hx
        have fx := HL.out _ (List.getElem_mem hl)
        have fy := HX.out _ (List.getElem_mem hx)
        have r1 := hc k hl
        have r2 := hc2 k hx
        rw [hk] at r1 r2
        have HT : Hid ((L.take (k + 1) = X.take (k + 1) ↔ L[k] = X[k]) ∧ (L = X → L[k] = X[k])) := Lib.hid (by
          refine ⟨?_, fun h => by subst h; rfl⟩
          rw [List.take_succ_eq_append_getElem hl, List.take_succ_eq_append_getElem hx, hE.out]
          exact ⟨fun h => by have := List.append_cancel_left h; injection this, fun h => by rw [h]⟩)
        generalize L[k] = x at fx r1 HT
        generalize X[k] = y at fy r2 HT
        have hi : (Tryz.prog.info? 73).map (·.size) = some 6 := by kernel_rfl
        have hu := Tryz.underlying73
        have hix : (Tryz.prog.info? 73).map (·.size) = some x.length := by rw [hi, fx.length, hk]
        have hiy : (Tryz.prog.info? 73).map (·.size) = some y.length := by rw [hi, fy.length, hk]
        have HR1 : Hid (∀ W, Below w.heap.size w W → W.rangeAt b (off + k * 6) x ∧ W.rangeAt b2 (off2 + k * 6) y) := Lib.hid (fun W hW => ⟨rangeAt_below r1 hb hW, rangeAt_below r2 hb2 hW⟩)
        have HWB : Hid (Below w.heap.size w wr) := Lib.hid (by obtain ⟨q0, hq0⟩ := hq.out; rw [hq0]; exact below_drewN (Below.refl _ _) _)
        have hq2 : Hid (∀ z, ∃ q, wr.drewN z = w.drewN q) := Lib.hid (fun z => by obtain ⟨q0, hq0⟩ := hq.out; rw [hq0]; exact ⟨_, World.drewN_drewN _ _ _⟩)
        have h1 : (0 : Int) ≤ (k : Int) := by omega
        have h2 : (k : Int) < (n : Int) := by omega
        by_cases hxy : x = y
        · have hne : ∀ W, (binOp .neq 73 (.agg x.toArray) (.agg y.toArray)).run Tryz.prog W = .ok (.bool false) W := fun W => by
            obtain ⟨b0, h1, h2⟩ := neq_struct eqQuant (by decide) x y W fx fy
            rw [h2.2 hxy] at h1
            exact h1
          have HXY := Lib.hid hxy
          clear r1 r2 hc hc2 hb hb2 fx fy hi hk hl hx hxy
          go_wp2_with fail
          apply region_to
          · refine wp_region_held_drew (S := (fun w' => w'.rangeAt b (off + k * 6) x ∧ w'.rangeAt b2 (off2 + k * 6) y)) (by kernel_rfl) (HR1.out _ HWB.out.drew) (fun dd0 => ?_)
            refine wpAnyH_take (i := 0) (v := .slice (some ⟨b, off, none⟩) n c) rfl (by kernel_rfl) (by kernel_rfl) (by kernel_rfl) (fun _ _ _ h => nomatch h.1) (.inl ⟨by kernel_rfl, fun w hw => by clear hw; go_simp⟩) (by assumption) ?_
            (try simp only [Act.put, List.getElem_toArray, List.getElem_cons_zero, List.setIfInBounds_toArray, List.set_cons_zero, List.set_cons_succ])
            refine wpAnyH_take (i := 1) (v := .int .i64 (k : Int)) rfl (by kernel_rfl) (by kernel_rfl) (by kernel_rfl) (fun _ _ _ h => nomatch h.1) (.inl ⟨by kernel_rfl, fun w hw => by clear hw; go_simp⟩) (by assumption) ?_
            (try simp only [Act.put, List.getElem_toArray, List.getElem_cons_succ, List.getElem_cons_zero, List.setIfInBounds_toArray, List.set_cons_zero, List.set_cons_succ])
            refine wpAnyH_take (i := 2) (v := .pointer (some ⟨b, off + k * 6, none⟩)) rfl (by kernel_rfl) (by kernel_rfl) (by kernel_rfl) (fun _ _ _ h => nomatch h.1) (.inl ⟨by kernel_rfl, fun w hw => by clear hw; go_simp⟩) (by assumption) ?_
            (try simp only [Act.put, List.getElem_toArray, List.getElem_cons_succ, List.getElem_cons_zero, List.setIfInBounds_toArray, List.set_cons_zero, List.set_cons_succ])
            refine wpAnyH_take (i := 3) (v := .agg x.toArray) rfl (by kernel_rfl) (by kernel_rfl) (by kernel_rfl) (fun _ _ _ h => nomatch h.1) (yieldsIf_load_mid (by kernel_rfl) 73 (.tmp 19) rfl b _ rfl x _ (fun w h => h.1) hu rfl hix) (by assumption) ?_
            (try simp only [Act.put, List.getElem_toArray, List.getElem_cons_succ, List.getElem_cons_zero, List.setIfInBounds_toArray, List.set_cons_zero, List.set_cons_succ])
            refine wpAnyH_take (i := 4) (v := .slice (some ⟨b2, off2, none⟩) n c2) rfl (by kernel_rfl) (by kernel_rfl) (by kernel_rfl) (fun _ _ _ h => nomatch h.1) (.inl ⟨by kernel_rfl, fun w hw => by clear hw; go_simp⟩) (by assumption) ?_
            (try simp only [Act.put, List.getElem_toArray, List.getElem_cons_succ, List.getElem_cons_zero, List.setIfInBounds_toArray, List.set_cons_zero, List.set_cons_succ])
            refine wpAnyH_take (i := 5) (v := .int .i64 (k : Int)) rfl (by kernel_rfl) (by kernel_rfl) (by kernel_rfl) (fun _ _ _ h => nomatch h.1) (.inl ⟨by kernel_rfl, fun w hw => by clear hw; go_simp⟩) (by assumption) ?_
            (try simp only [Act.put, List.getElem_toArray, List.getElem_cons_succ, List.getElem_cons_zero, List.setIfInBounds_toArray, List.set_cons_zero, List.set_cons_succ])
            refine wpAnyH_take (i := 6) (v := .pointer (some ⟨b2, off2 + k * 6, none⟩)) rfl (by kernel_rfl) (by kernel_rfl) (by kernel_rfl) (fun _ _ _ h => nomatch h.1) (.inl ⟨by kernel_rfl, fun w hw => by clear hw; go_simp⟩) (by assumption) ?_
            (try simp only [Act.put, List.getElem_toArray, List.getElem_cons_succ, List.getElem_cons_zero, List.setIfInBounds_toArray, List.set_cons_zero, List.set_cons_succ])
            refine wpAnyH_take (i := 7) (v := .agg y.toArray) rfl (by kernel_rfl) (by kernel_rfl) (by kernel_rfl) (fun _ _ _ h => nomatch h.1) (yieldsIf_load_mid (by kernel_rfl) 73 (.tmp 23) rfl b2 _ rfl y _ (fun w h => h.2) hu rfl hiy) (by assumption) ?_
            (try simp only [Act.put, List.getElem_toArray, List.getElem_cons_succ, List.getElem_cons_zero, List.setIfInBounds_toArray, List.set_cons_zero, List.set_cons_succ])
            refine wpAnyH_take (i := 8) (v := .bool false) rfl (by kernel_rfl) (by kernel_rfl) (by kernel_rfl) (fun _ _ _ h => nomatch h.1) (.inl ⟨by kernel_rfl, fun w hw => by clear hw; go_simp⟩) (by assumption) ?_
            (try simp only [Act.put, List.getElem_toArray, List.getElem_cons_succ, List.getElem_cons_zero, List.setIfInBounds_toArray, List.set_cons_zero, List.set_cons_succ])
            refine wpAnyH_done (by kernel_rfl) ?_ _
            exact ⟨rfl, rfl, rfl⟩
          go_wp2_with fail
          go_roundw
          case rel => exact ⟨k + 1, by omega, by go_num, Lib.hid (HT.out.1.2 HXY.out), Lib.hid (hq2.out 1)⟩
          case measure => simp [intOf]; omega
        · have hne : ∀ W, (binOp .neq 73 (.agg x.toArray) (.agg y.toArray)).run Tryz.prog W = .ok (.bool true) W := fun W => by
            obtain ⟨b0, h1, h2⟩ := neq_struct eqQuant (by decide) x y W fx fy
            cases b0 with
            | false => exact absurd (h2.1 rfl) hxy
            | true => exact h1
          have HXY : Hid (L ≠ X) := Lib.hid (fun h => hxy (HT.out.2 h))
          clear r1 r2 hc hc2 hb hb2 fx fy hi hk hl hx hxy
          go_wp2_with fail
          apply region_to
          · refine wp_region_held_drew (S := (fun w' => w'.rangeAt b (off + k * 6) x ∧ w'.rangeAt b2 (off2 + k * 6) y)) (by kernel_rfl) (HR1.out _ HWB.out.drew) (fun dd0 => ?_)
            refine wpAnyH_take (i := 0) (v := .slice (some ⟨b, off, none⟩) n c) rfl (by kernel_rfl) (by kernel_rfl) (by kernel_rfl) (fun _ _ _ h => nomatch h.1) (.inl ⟨by kernel_rfl, fun w hw => by clear hw; go_simp⟩) (by assumption) ?_
            (try simp only [Act.put, List.getElem_toArray, List.getElem_cons_zero, List.setIfInBounds_toArray, List.set_cons_zero, List.set_cons_succ])
            refine wpAnyH_take (i := 1) (v := .int .i64 (k : Int)) rfl (by kernel_rfl) (by kernel_rfl) (by kernel_rfl) (fun _ _ _ h => nomatch h.1) (.inl ⟨by kernel_rfl, fun w hw => by clear hw; go_simp⟩) (by assumption) ?_
            (try simp only [Act.put, List.getElem_toArray, List.getElem_cons_succ, List.getElem_cons_zero, List.setIfInBounds_toArray, List.set_cons_zero, List.set_cons_succ])
            refine wpAnyH_take (i := 2) (v := .pointer (some ⟨b, off + k * 6, none⟩)) rfl (by kernel_rfl) (by kernel_rfl) (by kernel_rfl) (fun _ _ _ h => nomatch h.1) (.inl ⟨by kernel_rfl, fun w hw => by clear hw; go_simp⟩) (by assumption) ?_
            (try simp only [Act.put, List.getElem_toArray, List.getElem_cons_succ, List.getElem_cons_zero, List.setIfInBounds_toArray, List.set_cons_zero, List.set_cons_succ])
            refine wpAnyH_take (i := 3) (v := .agg x.toArray) rfl (by kernel_rfl) (by kernel_rfl) (by kernel_rfl) (fun _ _ _ h => nomatch h.1) (yieldsIf_load_mid (by kernel_rfl) 73 (.tmp 19) rfl b _ rfl x _ (fun w h => h.1) hu rfl hix) (by assumption) ?_
            (try simp only [Act.put, List.getElem_toArray, List.getElem_cons_succ, List.getElem_cons_zero, List.setIfInBounds_toArray, List.set_cons_zero, List.set_cons_succ])
            refine wpAnyH_take (i := 4) (v := .slice (some ⟨b2, off2, none⟩) n c2) rfl (by kernel_rfl) (by kernel_rfl) (by kernel_rfl) (fun _ _ _ h => nomatch h.1) (.inl ⟨by kernel_rfl, fun w hw => by clear hw; go_simp⟩) (by assumption) ?_
            (try simp only [Act.put, List.getElem_toArray, List.getElem_cons_succ, List.getElem_cons_zero, List.setIfInBounds_toArray, List.set_cons_zero, List.set_cons_succ])
            refine wpAnyH_take (i := 5) (v := .int .i64 (k : Int)) rfl (by kernel_rfl) (by kernel_rfl) (by kernel_rfl) (fun _ _ _ h => nomatch h.1) (.inl ⟨by kernel_rfl, fun w hw => by clear hw; go_simp⟩) (by assumption) ?_
            (try simp only [Act.put, List.getElem_toArray, List.getElem_cons_succ, List.getElem_cons_zero, List.setIfInBounds_toArray, List.set_cons_zero, List.set_cons_succ])
            refine wpAnyH_take (i := 6) (v := .pointer (some ⟨b2, off2 + k * 6, none⟩)) rfl (by kernel_rfl) (by kernel_rfl) (by kernel_rfl) (fun _ _ _ h => nomatch h.1) (.inl ⟨by kernel_rfl, fun w hw => by clear hw; go_simp⟩) (by assumption) ?_
            (try simp only [Act.put, List.getElem_toArray, List.getElem_cons_succ, List.getElem_cons_zero, List.setIfInBounds_toArray, List.set_cons_zero, List.set_cons_succ])
            refine wpAnyH_take (i := 7) (v := .agg y.toArray) rfl (by kernel_rfl) (by kernel_rfl) (by kernel_rfl) (fun _ _ _ h => nomatch h.1) (yieldsIf_load_mid (by kernel_rfl) 73 (.tmp 23) rfl b2 _ rfl y _ (fun w h => h.2) hu rfl hiy) (by assumption) ?_
            (try simp only [Act.put, List.getElem_toArray, List.getElem_cons_succ, List.getElem_cons_zero, List.setIfInBounds_toArray, List.set_cons_zero, List.set_cons_succ])
            refine wpAnyH_take (i := 8) (v := .bool true) rfl (by kernel_rfl) (by kernel_rfl) (by kernel_rfl) (fun _ _ _ h => nomatch h.1) (.inl ⟨by kernel_rfl, fun w hw => by clear hw; go_simp⟩) (by assumption) ?_
            (try simp only [Act.put, List.getElem_toArray, List.getElem_cons_succ, List.getElem_cons_zero, List.setIfInBounds_toArray, List.set_cons_zero, List.set_cons_succ])
            refine wpAnyH_done (by kernel_rfl) ?_ _
            exact ⟨rfl, rfl, rfl⟩
          go_wp2_with fail
          go_ret
          exact ⟨⟨false, rfl, by simpa using HXY.out⟩, hq2.out 1⟩
      · have HE : Hid (L = X) := Lib.hid (by
          have := hE.out
          rwa [List.take_of_length_le (by rw [← HN.out]; omega), List.take_of_length_le (by rw [← HM.out]; omega)] at this)
        go_wp2_with fail
        go_ret
        exact ⟨⟨true, rfl, by simpa using HE.out⟩, hq.out⟩
  · have HNE : Hid (L ≠ X) := Lib.hid (by rintro rfl; omega)
    have hb : ((n : Int) != (m : Int)) = true := by rw [bne_iff_ne]; omega
    clear hn hm hr hr2 hL hX
    go_enter Tryz.func45, Tryz.ntmps45
    go_wp2_with fail
    go_ret
    exact ⟨⟨false, rfl, by simpa using HNE.out⟩, 0, rfl⟩

set_option maxRecDepth 100000 in
set_option maxHeartbeats 1600000 in
theorem sameRule (A A2 : Option Addr) (n c m c2 : Nat) (L X : List (List Value)) (w : World) (hn : n = L.length) (hm : m = X.length) (hn4 : n ≤ 1000000) (hL : Things kRule L) (hX : Things kRule X) (hr : Rd w w.heap.size A L.flatten) (hr2 : Rd w w.heap.size A2 X.flatten) :
    Calls Tryz.prog 46 #[.slice A n c, .slice A2 m c2] w fun e w' => (∃ b : Bool, e = .returned (.bool b) ∧ (b = true ↔ L = X)) ∧ ∃ q, w' = w.drewN q := by
  by_cases hnm : n = m
  · subst hnm
    have HN := Lib.hid hn
    have HM := Lib.hid hm
    have HR := Lib.hid hr
    have HR2 := Lib.hid hr2
    have HL := Lib.hid hL
    have HX := Lib.hid hX
    have hk : kRule.length = 3 := by decide
    clear hn hr hr2 hm hL hX
    go_enter Tryz.func46, Tryz.ntmps46
    go_wp2_with fail
    go_loopw [5] (fun i wr => ∃ k : Nat, k ≤ n ∧ i = .int .i64 (k : Int) ∧ Hid (L.take k = X.take k) ∧ Hid (∃ q, wr = w.drewN q)) (fun i _ => n - (intOf i).toNat)
    case atStart => exact ⟨0, by omega, rfl, Lib.hid rfl, Lib.hid ⟨0, rfl⟩⟩
    case round =>
      obtain ⟨k, hkn, rfl, hE, hq⟩ := hrel
      by_cases hlt : k < n
      · have hl : k < L.length := by rw [← HN.out]; exact hlt
        have hx : k < X.length := by rw [← HM.out]; exact hlt
        obtain ⟨b, off, rfl, hb, hc⟩ := HR.out.thing HL.out (by rw [hk]; decide) hl
        obtain ⟨b2, off2, rfl, hb2, hc2⟩ := HR2.out.thing HX.out (by rw [hk]; decide) hx
        have fx := HL.out _ (List.getElem_mem hl)
        have fy := HX.out _ (List.getElem_mem hx)
        have r1 := hc k hl
        have r2 := hc2 k hx
        rw [hk] at r1 r2
        have HT : Hid ((L.take (k + 1) = X.take (k + 1) ↔ L[k] = X[k]) ∧ (L = X → L[k] = X[k])) := Lib.hid (by
          refine ⟨?_, fun h => by subst h; rfl⟩
          rw [List.take_succ_eq_append_getElem hl, List.take_succ_eq_append_getElem hx, hE.out]
          exact ⟨fun h => by have := List.append_cancel_left h; injection this, fun h => by rw [h]⟩)
        generalize L[k] = x at fx r1 HT
        generalize X[k] = y at fy r2 HT
        have hi : (Tryz.prog.info? 39).map (·.size) = some 3 := by kernel_rfl
        have hu := Tryz.underlying39
        have hix : (Tryz.prog.info? 39).map (·.size) = some x.length := by rw [hi, fx.length, hk]
        have hiy : (Tryz.prog.info? 39).map (·.size) = some y.length := by rw [hi, fy.length, hk]
        have HR1 : Hid (∀ W, Below w.heap.size w W → W.rangeAt b (off + k * 3) x ∧ W.rangeAt b2 (off2 + k * 3) y) := Lib.hid (fun W hW => ⟨rangeAt_below r1 hb hW, rangeAt_below r2 hb2 hW⟩)
        have HWB : Hid (Below w.heap.size w wr) := Lib.hid (by obtain ⟨q0, hq0⟩ := hq.out; rw [hq0]; exact below_drewN (Below.refl _ _) _)
        have hq2 : Hid (∀ z, ∃ q, wr.drewN z = w.drewN q) := Lib.hid (fun z => by obtain ⟨q0, hq0⟩ := hq.out; rw [hq0]; exact ⟨_, World.drewN_drewN _ _ _⟩)
        have h1 : (0 : Int) ≤ (k : Int) := by omega
        have h2 : (k : Int) < (n : Int) := by omega
        by_cases hxy : x = y
        · have hne : ∀ W, (binOp .neq 39 (.agg x.toArray) (.agg y.toArray)).run Tryz.prog W = .ok (.bool false) W := fun W => by
            obtain ⟨b0, h1, h2⟩ := neq_struct eqRule (by decide) x y W fx fy
            rw [h2.2 hxy] at h1
            exact h1
          have HXY := Lib.hid hxy
          clear r1 r2 hc hc2 hb hb2 fx fy hi hk hl hx hxy
          go_wp2_with fail
          apply region_to
          · refine wp_region_held_drew (S := (fun w' => w'.rangeAt b (off + k * 3) x ∧ w'.rangeAt b2 (off2 + k * 3) y)) (by kernel_rfl) (HR1.out _ HWB.out.drew) (fun dd0 => ?_)
            refine wpAnyH_take (i := 0) (v := .slice (some ⟨b, off, none⟩) n c) rfl (by kernel_rfl) (by kernel_rfl) (by kernel_rfl) (fun _ _ _ h => nomatch h.1) (.inl ⟨by kernel_rfl, fun w hw => by clear hw; go_simp⟩) (by assumption) ?_
            (try simp only [Act.put, List.getElem_toArray, List.getElem_cons_zero, List.setIfInBounds_toArray, List.set_cons_zero, List.set_cons_succ])
            refine wpAnyH_take (i := 1) (v := .int .i64 (k : Int)) rfl (by kernel_rfl) (by kernel_rfl) (by kernel_rfl) (fun _ _ _ h => nomatch h.1) (.inl ⟨by kernel_rfl, fun w hw => by clear hw; go_simp⟩) (by assumption) ?_
            (try simp only [Act.put, List.getElem_toArray, List.getElem_cons_succ, List.getElem_cons_zero, List.setIfInBounds_toArray, List.set_cons_zero, List.set_cons_succ])
            refine wpAnyH_take (i := 2) (v := .pointer (some ⟨b, off + k * 3, none⟩)) rfl (by kernel_rfl) (by kernel_rfl) (by kernel_rfl) (fun _ _ _ h => nomatch h.1) (.inl ⟨by kernel_rfl, fun w hw => by clear hw; go_simp⟩) (by assumption) ?_
            (try simp only [Act.put, List.getElem_toArray, List.getElem_cons_succ, List.getElem_cons_zero, List.setIfInBounds_toArray, List.set_cons_zero, List.set_cons_succ])
            refine wpAnyH_take (i := 3) (v := .agg x.toArray) rfl (by kernel_rfl) (by kernel_rfl) (by kernel_rfl) (fun _ _ _ h => nomatch h.1) (yieldsIf_load_mid (by kernel_rfl) 39 (.tmp 19) rfl b _ rfl x _ (fun w h => h.1) hu rfl hix) (by assumption) ?_
            (try simp only [Act.put, List.getElem_toArray, List.getElem_cons_succ, List.getElem_cons_zero, List.setIfInBounds_toArray, List.set_cons_zero, List.set_cons_succ])
            refine wpAnyH_take (i := 4) (v := .slice (some ⟨b2, off2, none⟩) n c2) rfl (by kernel_rfl) (by kernel_rfl) (by kernel_rfl) (fun _ _ _ h => nomatch h.1) (.inl ⟨by kernel_rfl, fun w hw => by clear hw; go_simp⟩) (by assumption) ?_
            (try simp only [Act.put, List.getElem_toArray, List.getElem_cons_succ, List.getElem_cons_zero, List.setIfInBounds_toArray, List.set_cons_zero, List.set_cons_succ])
            refine wpAnyH_take (i := 5) (v := .int .i64 (k : Int)) rfl (by kernel_rfl) (by kernel_rfl) (by kernel_rfl) (fun _ _ _ h => nomatch h.1) (.inl ⟨by kernel_rfl, fun w hw => by clear hw; go_simp⟩) (by assumption) ?_
            (try simp only [Act.put, List.getElem_toArray, List.getElem_cons_succ, List.getElem_cons_zero, List.setIfInBounds_toArray, List.set_cons_zero, List.set_cons_succ])
            refine wpAnyH_take (i := 6) (v := .pointer (some ⟨b2, off2 + k * 3, none⟩)) rfl (by kernel_rfl) (by kernel_rfl) (by kernel_rfl) (fun _ _ _ h => nomatch h.1) (.inl ⟨by kernel_rfl, fun w hw => by clear hw; go_simp⟩) (by assumption) ?_
            (try simp only [Act.put, List.getElem_toArray, List.getElem_cons_succ, List.getElem_cons_zero, List.setIfInBounds_toArray, List.set_cons_zero, List.set_cons_succ])
            refine wpAnyH_take (i := 7) (v := .agg y.toArray) rfl (by kernel_rfl) (by kernel_rfl) (by kernel_rfl) (fun _ _ _ h => nomatch h.1) (yieldsIf_load_mid (by kernel_rfl) 39 (.tmp 23) rfl b2 _ rfl y _ (fun w h => h.2) hu rfl hiy) (by assumption) ?_
            (try simp only [Act.put, List.getElem_toArray, List.getElem_cons_succ, List.getElem_cons_zero, List.setIfInBounds_toArray, List.set_cons_zero, List.set_cons_succ])
            refine wpAnyH_take (i := 8) (v := .bool false) rfl (by kernel_rfl) (by kernel_rfl) (by kernel_rfl) (fun _ _ _ h => nomatch h.1) (.inl ⟨by kernel_rfl, fun w hw => by clear hw; go_simp⟩) (by assumption) ?_
            (try simp only [Act.put, List.getElem_toArray, List.getElem_cons_succ, List.getElem_cons_zero, List.setIfInBounds_toArray, List.set_cons_zero, List.set_cons_succ])
            refine wpAnyH_done (by kernel_rfl) ?_ _
            exact ⟨rfl, rfl, rfl⟩
          go_wp2_with fail
          go_roundw
          case rel => exact ⟨k + 1, by omega, by go_num, Lib.hid (HT.out.1.2 HXY.out), Lib.hid (hq2.out 1)⟩
          case measure => simp [intOf]; omega
        · have hne : ∀ W, (binOp .neq 39 (.agg x.toArray) (.agg y.toArray)).run Tryz.prog W = .ok (.bool true) W := fun W => by
            obtain ⟨b0, h1, h2⟩ := neq_struct eqRule (by decide) x y W fx fy
            cases b0 with
            | false => exact absurd (h2.1 rfl) hxy
            | true => exact h1
          have HXY : Hid (L ≠ X) := Lib.hid (fun h => hxy (HT.out.2 h))
          clear r1 r2 hc hc2 hb hb2 fx fy hi hk hl hx hxy
          go_wp2_with fail
          apply region_to
          · refine wp_region_held_drew (S := (fun w' => w'.rangeAt b (off + k * 3) x ∧ w'.rangeAt b2 (off2 + k * 3) y)) (by kernel_rfl) (HR1.out _ HWB.out.drew) (fun dd0 => ?_)
            refine wpAnyH_take (i := 0) (v := .slice (some ⟨b, off, none⟩) n c) rfl (by kernel_rfl) (by kernel_rfl) (by kernel_rfl) (fun _ _ _ h => nomatch h.1) (.inl ⟨by kernel_rfl, fun w hw => by clear hw; go_simp⟩) (by assumption) ?_
            (try simp only [Act.put, List.getElem_toArray, List.getElem_cons_zero, List.setIfInBounds_toArray, List.set_cons_zero, List.set_cons_succ])
            refine wpAnyH_take (i := 1) (v := .int .i64 (k : Int)) rfl (by kernel_rfl) (by kernel_rfl) (by kernel_rfl) (fun _ _ _ h => nomatch h.1) (.inl ⟨by kernel_rfl, fun w hw => by clear hw; go_simp⟩) (by assumption) ?_
            (try simp only [Act.put, List.getElem_toArray, List.getElem_cons_succ, List.getElem_cons_zero, List.setIfInBounds_toArray, List.set_cons_zero, List.set_cons_succ])
            refine wpAnyH_take (i := 2) (v := .pointer (some ⟨b, off + k * 3, none⟩)) rfl (by kernel_rfl) (by kernel_rfl) (by kernel_rfl) (fun _ _ _ h => nomatch h.1) (.inl ⟨by kernel_rfl, fun w hw => by clear hw; go_simp⟩) (by assumption) ?_
            (try simp only [Act.put, List.getElem_toArray, List.getElem_cons_succ, List.getElem_cons_zero, List.setIfInBounds_toArray, List.set_cons_zero, List.set_cons_succ])
            refine wpAnyH_take (i := 3) (v := .agg x.toArray) rfl (by kernel_rfl) (by kernel_rfl) (by kernel_rfl) (fun _ _ _ h => nomatch h.1) (yieldsIf_load_mid (by kernel_rfl) 39 (.tmp 19) rfl b _ rfl x _ (fun w h => h.1) hu rfl hix) (by assumption) ?_
            (try simp only [Act.put, List.getElem_toArray, List.getElem_cons_succ, List.getElem_cons_zero, List.setIfInBounds_toArray, List.set_cons_zero, List.set_cons_succ])
            refine wpAnyH_take (i := 4) (v := .slice (some ⟨b2, off2, none⟩) n c2) rfl (by kernel_rfl) (by kernel_rfl) (by kernel_rfl) (fun _ _ _ h => nomatch h.1) (.inl ⟨by kernel_rfl, fun w hw => by clear hw; go_simp⟩) (by assumption) ?_
            (try simp only [Act.put, List.getElem_toArray, List.getElem_cons_succ, List.getElem_cons_zero, List.setIfInBounds_toArray, List.set_cons_zero, List.set_cons_succ])
            refine wpAnyH_take (i := 5) (v := .int .i64 (k : Int)) rfl (by kernel_rfl) (by kernel_rfl) (by kernel_rfl) (fun _ _ _ h => nomatch h.1) (.inl ⟨by kernel_rfl, fun w hw => by clear hw; go_simp⟩) (by assumption) ?_
            (try simp only [Act.put, List.getElem_toArray, List.getElem_cons_succ, List.getElem_cons_zero, List.setIfInBounds_toArray, List.set_cons_zero, List.set_cons_succ])
            refine wpAnyH_take (i := 6) (v := .pointer (some ⟨b2, off2 + k * 3, none⟩)) rfl (by kernel_rfl) (by kernel_rfl) (by kernel_rfl) (fun _ _ _ h => nomatch h.1) (.inl ⟨by kernel_rfl, fun w hw => by clear hw; go_simp⟩) (by assumption) ?_
            (try simp only [Act.put, List.getElem_toArray, List.getElem_cons_succ, List.getElem_cons_zero, List.setIfInBounds_toArray, List.set_cons_zero, List.set_cons_succ])
            refine wpAnyH_take (i := 7) (v := .agg y.toArray) rfl (by kernel_rfl) (by kernel_rfl) (by kernel_rfl) (fun _ _ _ h => nomatch h.1) (yieldsIf_load_mid (by kernel_rfl) 39 (.tmp 23) rfl b2 _ rfl y _ (fun w h => h.2) hu rfl hiy) (by assumption) ?_
            (try simp only [Act.put, List.getElem_toArray, List.getElem_cons_succ, List.getElem_cons_zero, List.setIfInBounds_toArray, List.set_cons_zero, List.set_cons_succ])
            refine wpAnyH_take (i := 8) (v := .bool true) rfl (by kernel_rfl) (by kernel_rfl) (by kernel_rfl) (fun _ _ _ h => nomatch h.1) (.inl ⟨by kernel_rfl, fun w hw => by clear hw; go_simp⟩) (by assumption) ?_
            (try simp only [Act.put, List.getElem_toArray, List.getElem_cons_succ, List.getElem_cons_zero, List.setIfInBounds_toArray, List.set_cons_zero, List.set_cons_succ])
            refine wpAnyH_done (by kernel_rfl) ?_ _
            exact ⟨rfl, rfl, rfl⟩
          go_wp2_with fail
          go_ret
          exact ⟨⟨false, rfl, by simpa using HXY.out⟩, hq2.out 1⟩
      · have HE : Hid (L = X) := Lib.hid (by
          have := hE.out
          rwa [List.take_of_length_le (by rw [← HN.out]; omega), List.take_of_length_le (by rw [← HM.out]; omega)] at this)
        go_wp2_with fail
        go_ret
        exact ⟨⟨true, rfl, by simpa using HE.out⟩, hq.out⟩
  · have HNE : Hid (L ≠ X) := Lib.hid (by rintro rfl; omega)
    have hb : ((n : Int) != (m : Int)) = true := by rw [bne_iff_ne]; omega
    clear hn hm hr hr2 hL hX
    go_enter Tryz.func46, Tryz.ntmps46
    go_wp2_with fail
    go_ret
    exact ⟨⟨false, rfl, by simpa using HNE.out⟩, 0, rfl⟩

set_option maxRecDepth 100000 in
set_option maxHeartbeats 1600000 in
theorem sameNotice (A A2 : Option Addr) (n c m c2 : Nat) (L X : List (List Value)) (w : World) (hn : n = L.length) (hm : m = X.length) (hn4 : n ≤ 1000000) (hL : Things kNotice L) (hX : Things kNotice X) (hr : Rd w w.heap.size A L.flatten) (hr2 : Rd w w.heap.size A2 X.flatten) :
    Calls Tryz.prog 47 #[.slice A n c, .slice A2 m c2] w fun e w' => (∃ b : Bool, e = .returned (.bool b) ∧ (b = true ↔ L = X)) ∧ ∃ q, w' = w.drewN q := by
  by_cases hnm : n = m
  · subst hnm
    have HN := Lib.hid hn
    have HM := Lib.hid hm
    have HR := Lib.hid hr
    have HR2 := Lib.hid hr2
    have HL := Lib.hid hL
    have HX := Lib.hid hX
    have hk : kNotice.length = 51 := by decide
    clear hn hr hr2 hm hL hX
    go_enter Tryz.func47, Tryz.ntmps47
    go_wp2_with fail
    go_loopw [5] (fun i wr => ∃ k : Nat, k ≤ n ∧ i = .int .i64 (k : Int) ∧ Hid (L.take k = X.take k) ∧ Hid (∃ q, wr = w.drewN q)) (fun i _ => n - (intOf i).toNat)
    case atStart => exact ⟨0, by omega, rfl, Lib.hid rfl, Lib.hid ⟨0, rfl⟩⟩
    case round =>
      obtain ⟨k, hkn, rfl, hE, hq⟩ := hrel
      by_cases hlt : k < n
      · have hl : k < L.length := by rw [← HN.out]; exact hlt
        have hx : k < X.length := by rw [← HM.out]; exact hlt
        obtain ⟨b, off, rfl, hb, hc⟩ := HR.out.thing HL.out (by rw [hk]; decide) hl
        obtain ⟨b2, off2, rfl, hb2, hc2⟩ := HR2.out.thing HX.out (by rw [hk]; decide) hx
        have fx := HL.out _ (List.getElem_mem hl)
        have fy := HX.out _ (List.getElem_mem hx)
        have r1 := hc k hl
        have r2 := hc2 k hx
        rw [hk] at r1 r2
        have HT : Hid ((L.take (k + 1) = X.take (k + 1) ↔ L[k] = X[k]) ∧ (L = X → L[k] = X[k])) := Lib.hid (by
          refine ⟨?_, fun h => by subst h; rfl⟩
          rw [List.take_succ_eq_append_getElem hl, List.take_succ_eq_append_getElem hx, hE.out]
          exact ⟨fun h => by have := List.append_cancel_left h; injection this, fun h => by rw [h]⟩)
        generalize L[k] = x at fx r1 HT
        generalize X[k] = y at fy r2 HT
        have hi : (Tryz.prog.info? 80).map (·.size) = some 51 := by kernel_rfl
        have hu := Tryz.underlying80
        have hix : (Tryz.prog.info? 80).map (·.size) = some x.length := by rw [hi, fx.length, hk]
        have hiy : (Tryz.prog.info? 80).map (·.size) = some y.length := by rw [hi, fy.length, hk]
        have HR1 : Hid (∀ W, Below w.heap.size w W → W.rangeAt b (off + k * 51) x ∧ W.rangeAt b2 (off2 + k * 51) y) := Lib.hid (fun W hW => ⟨rangeAt_below r1 hb hW, rangeAt_below r2 hb2 hW⟩)
        have HWB : Hid (Below w.heap.size w wr) := Lib.hid (by obtain ⟨q0, hq0⟩ := hq.out; rw [hq0]; exact below_drewN (Below.refl _ _) _)
        have hq2 : Hid (∀ z, ∃ q, wr.drewN z = w.drewN q) := Lib.hid (fun z => by obtain ⟨q0, hq0⟩ := hq.out; rw [hq0]; exact ⟨_, World.drewN_drewN _ _ _⟩)
        have h1 : (0 : Int) ≤ (k : Int) := by omega
        have h2 : (k : Int) < (n : Int) := by omega
        by_cases hxy : x = y
        · have hne : ∀ W, (binOp .neq 80 (.agg x.toArray) (.agg y.toArray)).run Tryz.prog W = .ok (.bool false) W := fun W => by
            obtain ⟨b0, h1, h2⟩ := neq_struct eqNotice (by decide) x y W fx fy
            rw [h2.2 hxy] at h1
            exact h1
          have HXY := Lib.hid hxy
          clear r1 r2 hc hc2 hb hb2 fx fy hi hk hl hx hxy
          go_wp2_with fail
          apply region_to
          · refine wp_region_held_drew (S := (fun w' => w'.rangeAt b (off + k * 51) x ∧ w'.rangeAt b2 (off2 + k * 51) y)) (by kernel_rfl) (HR1.out _ HWB.out.drew) (fun dd0 => ?_)
            refine wpAnyH_take (i := 0) (v := .slice (some ⟨b, off, none⟩) n c) rfl (by kernel_rfl) (by kernel_rfl) (by kernel_rfl) (fun _ _ _ h => nomatch h.1) (.inl ⟨by kernel_rfl, fun w hw => by clear hw; go_simp⟩) (by assumption) ?_
            (try simp only [Act.put, List.getElem_toArray, List.getElem_cons_zero, List.setIfInBounds_toArray, List.set_cons_zero, List.set_cons_succ])
            refine wpAnyH_take (i := 1) (v := .int .i64 (k : Int)) rfl (by kernel_rfl) (by kernel_rfl) (by kernel_rfl) (fun _ _ _ h => nomatch h.1) (.inl ⟨by kernel_rfl, fun w hw => by clear hw; go_simp⟩) (by assumption) ?_
            (try simp only [Act.put, List.getElem_toArray, List.getElem_cons_succ, List.getElem_cons_zero, List.setIfInBounds_toArray, List.set_cons_zero, List.set_cons_succ])
            refine wpAnyH_take (i := 2) (v := .pointer (some ⟨b, off + k * 51, none⟩)) rfl (by kernel_rfl) (by kernel_rfl) (by kernel_rfl) (fun _ _ _ h => nomatch h.1) (.inl ⟨by kernel_rfl, fun w hw => by clear hw; go_simp⟩) (by assumption) ?_
            (try simp only [Act.put, List.getElem_toArray, List.getElem_cons_succ, List.getElem_cons_zero, List.setIfInBounds_toArray, List.set_cons_zero, List.set_cons_succ])
            refine wpAnyH_take (i := 3) (v := .agg x.toArray) rfl (by kernel_rfl) (by kernel_rfl) (by kernel_rfl) (fun _ _ _ h => nomatch h.1) (yieldsIf_load_mid (by kernel_rfl) 80 (.tmp 19) rfl b _ rfl x _ (fun w h => h.1) hu rfl hix) (by assumption) ?_
            (try simp only [Act.put, List.getElem_toArray, List.getElem_cons_succ, List.getElem_cons_zero, List.setIfInBounds_toArray, List.set_cons_zero, List.set_cons_succ])
            refine wpAnyH_take (i := 4) (v := .slice (some ⟨b2, off2, none⟩) n c2) rfl (by kernel_rfl) (by kernel_rfl) (by kernel_rfl) (fun _ _ _ h => nomatch h.1) (.inl ⟨by kernel_rfl, fun w hw => by clear hw; go_simp⟩) (by assumption) ?_
            (try simp only [Act.put, List.getElem_toArray, List.getElem_cons_succ, List.getElem_cons_zero, List.setIfInBounds_toArray, List.set_cons_zero, List.set_cons_succ])
            refine wpAnyH_take (i := 5) (v := .int .i64 (k : Int)) rfl (by kernel_rfl) (by kernel_rfl) (by kernel_rfl) (fun _ _ _ h => nomatch h.1) (.inl ⟨by kernel_rfl, fun w hw => by clear hw; go_simp⟩) (by assumption) ?_
            (try simp only [Act.put, List.getElem_toArray, List.getElem_cons_succ, List.getElem_cons_zero, List.setIfInBounds_toArray, List.set_cons_zero, List.set_cons_succ])
            refine wpAnyH_take (i := 6) (v := .pointer (some ⟨b2, off2 + k * 51, none⟩)) rfl (by kernel_rfl) (by kernel_rfl) (by kernel_rfl) (fun _ _ _ h => nomatch h.1) (.inl ⟨by kernel_rfl, fun w hw => by clear hw; go_simp⟩) (by assumption) ?_
            (try simp only [Act.put, List.getElem_toArray, List.getElem_cons_succ, List.getElem_cons_zero, List.setIfInBounds_toArray, List.set_cons_zero, List.set_cons_succ])
            refine wpAnyH_take (i := 7) (v := .agg y.toArray) rfl (by kernel_rfl) (by kernel_rfl) (by kernel_rfl) (fun _ _ _ h => nomatch h.1) (yieldsIf_load_mid (by kernel_rfl) 80 (.tmp 23) rfl b2 _ rfl y _ (fun w h => h.2) hu rfl hiy) (by assumption) ?_
            (try simp only [Act.put, List.getElem_toArray, List.getElem_cons_succ, List.getElem_cons_zero, List.setIfInBounds_toArray, List.set_cons_zero, List.set_cons_succ])
            refine wpAnyH_take (i := 8) (v := .bool false) rfl (by kernel_rfl) (by kernel_rfl) (by kernel_rfl) (fun _ _ _ h => nomatch h.1) (.inl ⟨by kernel_rfl, fun w hw => by clear hw; go_simp⟩) (by assumption) ?_
            (try simp only [Act.put, List.getElem_toArray, List.getElem_cons_succ, List.getElem_cons_zero, List.setIfInBounds_toArray, List.set_cons_zero, List.set_cons_succ])
            refine wpAnyH_done (by kernel_rfl) ?_ _
            exact ⟨rfl, rfl, rfl⟩
          go_wp2_with fail
          go_roundw
          case rel => exact ⟨k + 1, by omega, by go_num, Lib.hid (HT.out.1.2 HXY.out), Lib.hid (hq2.out 1)⟩
          case measure => simp [intOf]; omega
        · have hne : ∀ W, (binOp .neq 80 (.agg x.toArray) (.agg y.toArray)).run Tryz.prog W = .ok (.bool true) W := fun W => by
            obtain ⟨b0, h1, h2⟩ := neq_struct eqNotice (by decide) x y W fx fy
            cases b0 with
            | false => exact absurd (h2.1 rfl) hxy
            | true => exact h1
          have HXY : Hid (L ≠ X) := Lib.hid (fun h => hxy (HT.out.2 h))
          clear r1 r2 hc hc2 hb hb2 fx fy hi hk hl hx hxy
          go_wp2_with fail
          apply region_to
          · refine wp_region_held_drew (S := (fun w' => w'.rangeAt b (off + k * 51) x ∧ w'.rangeAt b2 (off2 + k * 51) y)) (by kernel_rfl) (HR1.out _ HWB.out.drew) (fun dd0 => ?_)
            refine wpAnyH_take (i := 0) (v := .slice (some ⟨b, off, none⟩) n c) rfl (by kernel_rfl) (by kernel_rfl) (by kernel_rfl) (fun _ _ _ h => nomatch h.1) (.inl ⟨by kernel_rfl, fun w hw => by clear hw; go_simp⟩) (by assumption) ?_
            (try simp only [Act.put, List.getElem_toArray, List.getElem_cons_zero, List.setIfInBounds_toArray, List.set_cons_zero, List.set_cons_succ])
            refine wpAnyH_take (i := 1) (v := .int .i64 (k : Int)) rfl (by kernel_rfl) (by kernel_rfl) (by kernel_rfl) (fun _ _ _ h => nomatch h.1) (.inl ⟨by kernel_rfl, fun w hw => by clear hw; go_simp⟩) (by assumption) ?_
            (try simp only [Act.put, List.getElem_toArray, List.getElem_cons_succ, List.getElem_cons_zero, List.setIfInBounds_toArray, List.set_cons_zero, List.set_cons_succ])
            refine wpAnyH_take (i := 2) (v := .pointer (some ⟨b, off + k * 51, none⟩)) rfl (by kernel_rfl) (by kernel_rfl) (by kernel_rfl) (fun _ _ _ h => nomatch h.1) (.inl ⟨by kernel_rfl, fun w hw => by clear hw; go_simp⟩) (by assumption) ?_
            (try simp only [Act.put, List.getElem_toArray, List.getElem_cons_succ, List.getElem_cons_zero, List.setIfInBounds_toArray, List.set_cons_zero, List.set_cons_succ])
            refine wpAnyH_take (i := 3) (v := .agg x.toArray) rfl (by kernel_rfl) (by kernel_rfl) (by kernel_rfl) (fun _ _ _ h => nomatch h.1) (yieldsIf_load_mid (by kernel_rfl) 80 (.tmp 19) rfl b _ rfl x _ (fun w h => h.1) hu rfl hix) (by assumption) ?_
            (try simp only [Act.put, List.getElem_toArray, List.getElem_cons_succ, List.getElem_cons_zero, List.setIfInBounds_toArray, List.set_cons_zero, List.set_cons_succ])
            refine wpAnyH_take (i := 4) (v := .slice (some ⟨b2, off2, none⟩) n c2) rfl (by kernel_rfl) (by kernel_rfl) (by kernel_rfl) (fun _ _ _ h => nomatch h.1) (.inl ⟨by kernel_rfl, fun w hw => by clear hw; go_simp⟩) (by assumption) ?_
            (try simp only [Act.put, List.getElem_toArray, List.getElem_cons_succ, List.getElem_cons_zero, List.setIfInBounds_toArray, List.set_cons_zero, List.set_cons_succ])
            refine wpAnyH_take (i := 5) (v := .int .i64 (k : Int)) rfl (by kernel_rfl) (by kernel_rfl) (by kernel_rfl) (fun _ _ _ h => nomatch h.1) (.inl ⟨by kernel_rfl, fun w hw => by clear hw; go_simp⟩) (by assumption) ?_
            (try simp only [Act.put, List.getElem_toArray, List.getElem_cons_succ, List.getElem_cons_zero, List.setIfInBounds_toArray, List.set_cons_zero, List.set_cons_succ])
            refine wpAnyH_take (i := 6) (v := .pointer (some ⟨b2, off2 + k * 51, none⟩)) rfl (by kernel_rfl) (by kernel_rfl) (by kernel_rfl) (fun _ _ _ h => nomatch h.1) (.inl ⟨by kernel_rfl, fun w hw => by clear hw; go_simp⟩) (by assumption) ?_
            (try simp only [Act.put, List.getElem_toArray, List.getElem_cons_succ, List.getElem_cons_zero, List.setIfInBounds_toArray, List.set_cons_zero, List.set_cons_succ])
            refine wpAnyH_take (i := 7) (v := .agg y.toArray) rfl (by kernel_rfl) (by kernel_rfl) (by kernel_rfl) (fun _ _ _ h => nomatch h.1) (yieldsIf_load_mid (by kernel_rfl) 80 (.tmp 23) rfl b2 _ rfl y _ (fun w h => h.2) hu rfl hiy) (by assumption) ?_
            (try simp only [Act.put, List.getElem_toArray, List.getElem_cons_succ, List.getElem_cons_zero, List.setIfInBounds_toArray, List.set_cons_zero, List.set_cons_succ])
            refine wpAnyH_take (i := 8) (v := .bool true) rfl (by kernel_rfl) (by kernel_rfl) (by kernel_rfl) (fun _ _ _ h => nomatch h.1) (.inl ⟨by kernel_rfl, fun w hw => by clear hw; go_simp⟩) (by assumption) ?_
            (try simp only [Act.put, List.getElem_toArray, List.getElem_cons_succ, List.getElem_cons_zero, List.setIfInBounds_toArray, List.set_cons_zero, List.set_cons_succ])
            refine wpAnyH_done (by kernel_rfl) ?_ _
            exact ⟨rfl, rfl, rfl⟩
          go_wp2_with fail
          go_ret
          exact ⟨⟨false, rfl, by simpa using HXY.out⟩, hq2.out 1⟩
      · have HE : Hid (L = X) := Lib.hid (by
          have := hE.out
          rwa [List.take_of_length_le (by rw [← HN.out]; omega), List.take_of_length_le (by rw [← HM.out]; omega)] at this)
        go_wp2_with fail
        go_ret
        exact ⟨⟨true, rfl, by simpa using HE.out⟩, hq.out⟩
  · have HNE : Hid (L ≠ X) := Lib.hid (by rintro rfl; omega)
    have hb : ((n : Int) != (m : Int)) = true := by rw [bne_iff_ne]; omega
    clear hn hm hr hr2 hL hX
    go_enter Tryz.func47, Tryz.ntmps47
    go_wp2_with fail
    go_ret
    exact ⟨⟨false, rfl, by simpa using HNE.out⟩, 0, rfl⟩

set_option maxRecDepth 100000 in
set_option maxHeartbeats 1600000 in
theorem sameOrder (A A2 : Option Addr) (n c m c2 : Nat) (L X : List (List Value)) (w : World) (hn : n = L.length) (hm : m = X.length) (hn4 : n ≤ 1000000) (hL : Things kOrder L) (hX : Things kOrder X) (hr : Rd w w.heap.size A L.flatten) (hr2 : Rd w w.heap.size A2 X.flatten) :
    Calls Tryz.prog 48 #[.slice A n c, .slice A2 m c2] w fun e w' => (∃ b : Bool, e = .returned (.bool b) ∧ (b = true ↔ L = X)) ∧ ∃ q, w' = w.drewN q := by
  by_cases hnm : n = m
  · subst hnm
    have HN := Lib.hid hn
    have HM := Lib.hid hm
    have HR := Lib.hid hr
    have HR2 := Lib.hid hr2
    have HL := Lib.hid hL
    have HX := Lib.hid hX
    have hk : kOrder.length = 50 := by decide
    clear hn hr hr2 hm hL hX
    go_enter Tryz.func48, Tryz.ntmps48
    go_wp2_with fail
    go_loopw [5] (fun i wr => ∃ k : Nat, k ≤ n ∧ i = .int .i64 (k : Int) ∧ Hid (L.take k = X.take k) ∧ Hid (∃ q, wr = w.drewN q)) (fun i _ => n - (intOf i).toNat)
    case atStart => exact ⟨0, by omega, rfl, Lib.hid rfl, Lib.hid ⟨0, rfl⟩⟩
    case round =>
      obtain ⟨k, hkn, rfl, hE, hq⟩ := hrel
      by_cases hlt : k < n
      · have hl : k < L.length := by rw [← HN.out]; exact hlt
        have hx : k < X.length := by rw [← HM.out]; exact hlt
        obtain ⟨b, off, rfl, hb, hc⟩ := HR.out.thing HL.out (by rw [hk]; decide) hl
        obtain ⟨b2, off2, rfl, hb2, hc2⟩ := HR2.out.thing HX.out (by rw [hk]; decide) hx
        have fx := HL.out _ (List.getElem_mem hl)
        have fy := HX.out _ (List.getElem_mem hx)
        have r1 := hc k hl
        have r2 := hc2 k hx
        rw [hk] at r1 r2
        have HT : Hid ((L.take (k + 1) = X.take (k + 1) ↔ L[k] = X[k]) ∧ (L = X → L[k] = X[k])) := Lib.hid (by
          refine ⟨?_, fun h => by subst h; rfl⟩
          rw [List.take_succ_eq_append_getElem hl, List.take_succ_eq_append_getElem hx, hE.out]
          exact ⟨fun h => by have := List.append_cancel_left h; injection this, fun h => by rw [h]⟩)
        generalize L[k] = x at fx r1 HT
        generalize X[k] = y at fy r2 HT
        have hi : (Tryz.prog.info? 83).map (·.size) = some 50 := by kernel_rfl
        have hu := Tryz.underlying83
        have hix : (Tryz.prog.info? 83).map (·.size) = some x.length := by rw [hi, fx.length, hk]
        have hiy : (Tryz.prog.info? 83).map (·.size) = some y.length := by rw [hi, fy.length, hk]
        have HR1 : Hid (∀ W, Below w.heap.size w W → W.rangeAt b (off + k * 50) x ∧ W.rangeAt b2 (off2 + k * 50) y) := Lib.hid (fun W hW => ⟨rangeAt_below r1 hb hW, rangeAt_below r2 hb2 hW⟩)
        have HWB : Hid (Below w.heap.size w wr) := Lib.hid (by obtain ⟨q0, hq0⟩ := hq.out; rw [hq0]; exact below_drewN (Below.refl _ _) _)
        have hq2 : Hid (∀ z, ∃ q, wr.drewN z = w.drewN q) := Lib.hid (fun z => by obtain ⟨q0, hq0⟩ := hq.out; rw [hq0]; exact ⟨_, World.drewN_drewN _ _ _⟩)
        have h1 : (0 : Int) ≤ (k : Int) := by omega
        have h2 : (k : Int) < (n : Int) := by omega
        by_cases hxy : x = y
        · have hne : ∀ W, (binOp .neq 83 (.agg x.toArray) (.agg y.toArray)).run Tryz.prog W = .ok (.bool false) W := fun W => by
            obtain ⟨b0, h1, h2⟩ := neq_struct eqOrder (by decide) x y W fx fy
            rw [h2.2 hxy] at h1
            exact h1
          have HXY := Lib.hid hxy
          clear r1 r2 hc hc2 hb hb2 fx fy hi hk hl hx hxy
          go_wp2_with fail
          apply region_to
          · refine wp_region_held_drew (S := (fun w' => w'.rangeAt b (off + k * 50) x ∧ w'.rangeAt b2 (off2 + k * 50) y)) (by kernel_rfl) (HR1.out _ HWB.out.drew) (fun dd0 => ?_)
            refine wpAnyH_take (i := 0) (v := .slice (some ⟨b, off, none⟩) n c) rfl (by kernel_rfl) (by kernel_rfl) (by kernel_rfl) (fun _ _ _ h => nomatch h.1) (.inl ⟨by kernel_rfl, fun w hw => by clear hw; go_simp⟩) (by assumption) ?_
            (try simp only [Act.put, List.getElem_toArray, List.getElem_cons_zero, List.setIfInBounds_toArray, List.set_cons_zero, List.set_cons_succ])
            refine wpAnyH_take (i := 1) (v := .int .i64 (k : Int)) rfl (by kernel_rfl) (by kernel_rfl) (by kernel_rfl) (fun _ _ _ h => nomatch h.1) (.inl ⟨by kernel_rfl, fun w hw => by clear hw; go_simp⟩) (by assumption) ?_
            (try simp only [Act.put, List.getElem_toArray, List.getElem_cons_succ, List.getElem_cons_zero, List.setIfInBounds_toArray, List.set_cons_zero, List.set_cons_succ])
            refine wpAnyH_take (i := 2) (v := .pointer (some ⟨b, off + k * 50, none⟩)) rfl (by kernel_rfl) (by kernel_rfl) (by kernel_rfl) (fun _ _ _ h => nomatch h.1) (.inl ⟨by kernel_rfl, fun w hw => by clear hw; go_simp⟩) (by assumption) ?_
            (try simp only [Act.put, List.getElem_toArray, List.getElem_cons_succ, List.getElem_cons_zero, List.setIfInBounds_toArray, List.set_cons_zero, List.set_cons_succ])
            refine wpAnyH_take (i := 3) (v := .agg x.toArray) rfl (by kernel_rfl) (by kernel_rfl) (by kernel_rfl) (fun _ _ _ h => nomatch h.1) (yieldsIf_load_mid (by kernel_rfl) 83 (.tmp 19) rfl b _ rfl x _ (fun w h => h.1) hu rfl hix) (by assumption) ?_
            (try simp only [Act.put, List.getElem_toArray, List.getElem_cons_succ, List.getElem_cons_zero, List.setIfInBounds_toArray, List.set_cons_zero, List.set_cons_succ])
            refine wpAnyH_take (i := 4) (v := .slice (some ⟨b2, off2, none⟩) n c2) rfl (by kernel_rfl) (by kernel_rfl) (by kernel_rfl) (fun _ _ _ h => nomatch h.1) (.inl ⟨by kernel_rfl, fun w hw => by clear hw; go_simp⟩) (by assumption) ?_
            (try simp only [Act.put, List.getElem_toArray, List.getElem_cons_succ, List.getElem_cons_zero, List.setIfInBounds_toArray, List.set_cons_zero, List.set_cons_succ])
            refine wpAnyH_take (i := 5) (v := .int .i64 (k : Int)) rfl (by kernel_rfl) (by kernel_rfl) (by kernel_rfl) (fun _ _ _ h => nomatch h.1) (.inl ⟨by kernel_rfl, fun w hw => by clear hw; go_simp⟩) (by assumption) ?_
            (try simp only [Act.put, List.getElem_toArray, List.getElem_cons_succ, List.getElem_cons_zero, List.setIfInBounds_toArray, List.set_cons_zero, List.set_cons_succ])
            refine wpAnyH_take (i := 6) (v := .pointer (some ⟨b2, off2 + k * 50, none⟩)) rfl (by kernel_rfl) (by kernel_rfl) (by kernel_rfl) (fun _ _ _ h => nomatch h.1) (.inl ⟨by kernel_rfl, fun w hw => by clear hw; go_simp⟩) (by assumption) ?_
            (try simp only [Act.put, List.getElem_toArray, List.getElem_cons_succ, List.getElem_cons_zero, List.setIfInBounds_toArray, List.set_cons_zero, List.set_cons_succ])
            refine wpAnyH_take (i := 7) (v := .agg y.toArray) rfl (by kernel_rfl) (by kernel_rfl) (by kernel_rfl) (fun _ _ _ h => nomatch h.1) (yieldsIf_load_mid (by kernel_rfl) 83 (.tmp 23) rfl b2 _ rfl y _ (fun w h => h.2) hu rfl hiy) (by assumption) ?_
            (try simp only [Act.put, List.getElem_toArray, List.getElem_cons_succ, List.getElem_cons_zero, List.setIfInBounds_toArray, List.set_cons_zero, List.set_cons_succ])
            refine wpAnyH_take (i := 8) (v := .bool false) rfl (by kernel_rfl) (by kernel_rfl) (by kernel_rfl) (fun _ _ _ h => nomatch h.1) (.inl ⟨by kernel_rfl, fun w hw => by clear hw; go_simp⟩) (by assumption) ?_
            (try simp only [Act.put, List.getElem_toArray, List.getElem_cons_succ, List.getElem_cons_zero, List.setIfInBounds_toArray, List.set_cons_zero, List.set_cons_succ])
            refine wpAnyH_done (by kernel_rfl) ?_ _
            exact ⟨rfl, rfl, rfl⟩
          go_wp2_with fail
          go_roundw
          case rel => exact ⟨k + 1, by omega, by go_num, Lib.hid (HT.out.1.2 HXY.out), Lib.hid (hq2.out 1)⟩
          case measure => simp [intOf]; omega
        · have hne : ∀ W, (binOp .neq 83 (.agg x.toArray) (.agg y.toArray)).run Tryz.prog W = .ok (.bool true) W := fun W => by
            obtain ⟨b0, h1, h2⟩ := neq_struct eqOrder (by decide) x y W fx fy
            cases b0 with
            | false => exact absurd (h2.1 rfl) hxy
            | true => exact h1
          have HXY : Hid (L ≠ X) := Lib.hid (fun h => hxy (HT.out.2 h))
          clear r1 r2 hc hc2 hb hb2 fx fy hi hk hl hx hxy
          go_wp2_with fail
          apply region_to
          · refine wp_region_held_drew (S := (fun w' => w'.rangeAt b (off + k * 50) x ∧ w'.rangeAt b2 (off2 + k * 50) y)) (by kernel_rfl) (HR1.out _ HWB.out.drew) (fun dd0 => ?_)
            refine wpAnyH_take (i := 0) (v := .slice (some ⟨b, off, none⟩) n c) rfl (by kernel_rfl) (by kernel_rfl) (by kernel_rfl) (fun _ _ _ h => nomatch h.1) (.inl ⟨by kernel_rfl, fun w hw => by clear hw; go_simp⟩) (by assumption) ?_
            (try simp only [Act.put, List.getElem_toArray, List.getElem_cons_zero, List.setIfInBounds_toArray, List.set_cons_zero, List.set_cons_succ])
            refine wpAnyH_take (i := 1) (v := .int .i64 (k : Int)) rfl (by kernel_rfl) (by kernel_rfl) (by kernel_rfl) (fun _ _ _ h => nomatch h.1) (.inl ⟨by kernel_rfl, fun w hw => by clear hw; go_simp⟩) (by assumption) ?_
            (try simp only [Act.put, List.getElem_toArray, List.getElem_cons_succ, List.getElem_cons_zero, List.setIfInBounds_toArray, List.set_cons_zero, List.set_cons_succ])
            refine wpAnyH_take (i := 2) (v := .pointer (some ⟨b, off + k * 50, none⟩)) rfl (by kernel_rfl) (by kernel_rfl) (by kernel_rfl) (fun _ _ _ h => nomatch h.1) (.inl ⟨by kernel_rfl, fun w hw => by clear hw; go_simp⟩) (by assumption) ?_
            (try simp only [Act.put, List.getElem_toArray, List.getElem_cons_succ, List.getElem_cons_zero, List.setIfInBounds_toArray, List.set_cons_zero, List.set_cons_succ])
            refine wpAnyH_take (i := 3) (v := .agg x.toArray) rfl (by kernel_rfl) (by kernel_rfl) (by kernel_rfl) (fun _ _ _ h => nomatch h.1) (yieldsIf_load_mid (by kernel_rfl) 83 (.tmp 19) rfl b _ rfl x _ (fun w h => h.1) hu rfl hix) (by assumption) ?_
            (try simp only [Act.put, List.getElem_toArray, List.getElem_cons_succ, List.getElem_cons_zero, List.setIfInBounds_toArray, List.set_cons_zero, List.set_cons_succ])
            refine wpAnyH_take (i := 4) (v := .slice (some ⟨b2, off2, none⟩) n c2) rfl (by kernel_rfl) (by kernel_rfl) (by kernel_rfl) (fun _ _ _ h => nomatch h.1) (.inl ⟨by kernel_rfl, fun w hw => by clear hw; go_simp⟩) (by assumption) ?_
            (try simp only [Act.put, List.getElem_toArray, List.getElem_cons_succ, List.getElem_cons_zero, List.setIfInBounds_toArray, List.set_cons_zero, List.set_cons_succ])
            refine wpAnyH_take (i := 5) (v := .int .i64 (k : Int)) rfl (by kernel_rfl) (by kernel_rfl) (by kernel_rfl) (fun _ _ _ h => nomatch h.1) (.inl ⟨by kernel_rfl, fun w hw => by clear hw; go_simp⟩) (by assumption) ?_
            (try simp only [Act.put, List.getElem_toArray, List.getElem_cons_succ, List.getElem_cons_zero, List.setIfInBounds_toArray, List.set_cons_zero, List.set_cons_succ])
            refine wpAnyH_take (i := 6) (v := .pointer (some ⟨b2, off2 + k * 50, none⟩)) rfl (by kernel_rfl) (by kernel_rfl) (by kernel_rfl) (fun _ _ _ h => nomatch h.1) (.inl ⟨by kernel_rfl, fun w hw => by clear hw; go_simp⟩) (by assumption) ?_
            (try simp only [Act.put, List.getElem_toArray, List.getElem_cons_succ, List.getElem_cons_zero, List.setIfInBounds_toArray, List.set_cons_zero, List.set_cons_succ])
            refine wpAnyH_take (i := 7) (v := .agg y.toArray) rfl (by kernel_rfl) (by kernel_rfl) (by kernel_rfl) (fun _ _ _ h => nomatch h.1) (yieldsIf_load_mid (by kernel_rfl) 83 (.tmp 23) rfl b2 _ rfl y _ (fun w h => h.2) hu rfl hiy) (by assumption) ?_
            (try simp only [Act.put, List.getElem_toArray, List.getElem_cons_succ, List.getElem_cons_zero, List.setIfInBounds_toArray, List.set_cons_zero, List.set_cons_succ])
            refine wpAnyH_take (i := 8) (v := .bool true) rfl (by kernel_rfl) (by kernel_rfl) (by kernel_rfl) (fun _ _ _ h => nomatch h.1) (.inl ⟨by kernel_rfl, fun w hw => by clear hw; go_simp⟩) (by assumption) ?_
            (try simp only [Act.put, List.getElem_toArray, List.getElem_cons_succ, List.getElem_cons_zero, List.setIfInBounds_toArray, List.set_cons_zero, List.set_cons_succ])
            refine wpAnyH_done (by kernel_rfl) ?_ _
            exact ⟨rfl, rfl, rfl⟩
          go_wp2_with fail
          go_ret
          exact ⟨⟨false, rfl, by simpa using HXY.out⟩, hq2.out 1⟩
      · have HE : Hid (L = X) := Lib.hid (by
          have := hE.out
          rwa [List.take_of_length_le (by rw [← HN.out]; omega), List.take_of_length_le (by rw [← HM.out]; omega)] at this)
        go_wp2_with fail
        go_ret
        exact ⟨⟨true, rfl, by simpa using HE.out⟩, hq.out⟩
  · have HNE : Hid (L ≠ X) := Lib.hid (by rintro rfl; omega)
    have hb : ((n : Int) != (m : Int)) = true := by rw [bne_iff_ne]; omega
    clear hn hm hr hr2 hL hX
    go_enter Tryz.func48, Tryz.ntmps48
    go_wp2_with fail
    go_ret
    exact ⟨⟨false, rfl, by simpa using HNE.out⟩, 0, rfl⟩

set_option maxRecDepth 100000 in
set_option maxHeartbeats 1600000 in
theorem sameClaim (A A2 : Option Addr) (n c m c2 : Nat) (L X : List (List Value)) (w : World) (hn : n = L.length) (hm : m = X.length) (hn4 : n ≤ 1000000) (hL : Things kClaim L) (hX : Things kClaim X) (hr : Rd w w.heap.size A L.flatten) (hr2 : Rd w w.heap.size A2 X.flatten) :
    Calls Tryz.prog 49 #[.slice A n c, .slice A2 m c2] w fun e w' => (∃ b : Bool, e = .returned (.bool b) ∧ (b = true ↔ L = X)) ∧ ∃ q, w' = w.drewN q := by
  by_cases hnm : n = m
  · subst hnm
    have HN := Lib.hid hn
    have HM := Lib.hid hm
    have HR := Lib.hid hr
    have HR2 := Lib.hid hr2
    have HL := Lib.hid hL
    have HX := Lib.hid hX
    have hk : kClaim.length = 8 := by decide
    clear hn hr hr2 hm hL hX
    go_enter Tryz.func49, Tryz.ntmps49
    go_wp2_with fail
    go_loopw [5] (fun i wr => ∃ k : Nat, k ≤ n ∧ i = .int .i64 (k : Int) ∧ Hid (L.take k = X.take k) ∧ Hid (∃ q, wr = w.drewN q)) (fun i _ => n - (intOf i).toNat)
    case atStart => exact ⟨0, by omega, rfl, Lib.hid rfl, Lib.hid ⟨0, rfl⟩⟩
    case round =>
      obtain ⟨k, hkn, rfl, hE, hq⟩ := hrel
      by_cases hlt : k < n
      · have hl : k < L.length := by rw [← HN.out]; exact hlt
        have hx : k < X.length := by rw [← HM.out]; exact hlt
        obtain ⟨b, off, rfl, hb, hc⟩ := HR.out.thing HL.out (by rw [hk]; decide) hl
        obtain ⟨b2, off2, rfl, hb2, hc2⟩ := HR2.out.thing HX.out (by rw [hk]; decide) hx
        have fx := HL.out _ (List.getElem_mem hl)
        have fy := HX.out _ (List.getElem_mem hx)
        have r1 := hc k hl
        have r2 := hc2 k hx
        rw [hk] at r1 r2
        have HT : Hid ((L.take (k + 1) = X.take (k + 1) ↔ L[k] = X[k]) ∧ (L = X → L[k] = X[k])) := Lib.hid (by
          refine ⟨?_, fun h => by subst h; rfl⟩
          rw [List.take_succ_eq_append_getElem hl, List.take_succ_eq_append_getElem hx, hE.out]
          exact ⟨fun h => by have := List.append_cancel_left h; injection this, fun h => by rw [h]⟩)
        generalize L[k] = x at fx r1 HT
        generalize X[k] = y at fy r2 HT
        have hi : (Tryz.prog.info? 86).map (·.size) = some 8 := by kernel_rfl
        have hu := Tryz.underlying86
        have hix : (Tryz.prog.info? 86).map (·.size) = some x.length := by rw [hi, fx.length, hk]
        have hiy : (Tryz.prog.info? 86).map (·.size) = some y.length := by rw [hi, fy.length, hk]
        have HR1 : Hid (∀ W, Below w.heap.size w W → W.rangeAt b (off + k * 8) x ∧ W.rangeAt b2 (off2 + k * 8) y) := Lib.hid (fun W hW => ⟨rangeAt_below r1 hb hW, rangeAt_below r2 hb2 hW⟩)
        have HWB : Hid (Below w.heap.size w wr) := Lib.hid (by obtain ⟨q0, hq0⟩ := hq.out; rw [hq0]; exact below_drewN (Below.refl _ _) _)
        have hq2 : Hid (∀ z, ∃ q, wr.drewN z = w.drewN q) := Lib.hid (fun z => by obtain ⟨q0, hq0⟩ := hq.out; rw [hq0]; exact ⟨_, World.drewN_drewN _ _ _⟩)
        have h1 : (0 : Int) ≤ (k : Int) := by omega
        have h2 : (k : Int) < (n : Int) := by omega
        by_cases hxy : x = y
        · have hne : ∀ W, (binOp .neq 86 (.agg x.toArray) (.agg y.toArray)).run Tryz.prog W = .ok (.bool false) W := fun W => by
            obtain ⟨b0, h1, h2⟩ := neq_struct eqClaim (by decide) x y W fx fy
            rw [h2.2 hxy] at h1
            exact h1
          have HXY := Lib.hid hxy
          clear r1 r2 hc hc2 hb hb2 fx fy hi hk hl hx hxy
          go_wp2_with fail
          apply region_to
          · refine wp_region_held_drew (S := (fun w' => w'.rangeAt b (off + k * 8) x ∧ w'.rangeAt b2 (off2 + k * 8) y)) (by kernel_rfl) (HR1.out _ HWB.out.drew) (fun dd0 => ?_)
            refine wpAnyH_take (i := 0) (v := .slice (some ⟨b, off, none⟩) n c) rfl (by kernel_rfl) (by kernel_rfl) (by kernel_rfl) (fun _ _ _ h => nomatch h.1) (.inl ⟨by kernel_rfl, fun w hw => by clear hw; go_simp⟩) (by assumption) ?_
            (try simp only [Act.put, List.getElem_toArray, List.getElem_cons_zero, List.setIfInBounds_toArray, List.set_cons_zero, List.set_cons_succ])
            refine wpAnyH_take (i := 1) (v := .int .i64 (k : Int)) rfl (by kernel_rfl) (by kernel_rfl) (by kernel_rfl) (fun _ _ _ h => nomatch h.1) (.inl ⟨by kernel_rfl, fun w hw => by clear hw; go_simp⟩) (by assumption) ?_
            (try simp only [Act.put, List.getElem_toArray, List.getElem_cons_succ, List.getElem_cons_zero, List.setIfInBounds_toArray, List.set_cons_zero, List.set_cons_succ])
            refine wpAnyH_take (i := 2) (v := .pointer (some ⟨b, off + k * 8, none⟩)) rfl (by kernel_rfl) (by kernel_rfl) (by kernel_rfl) (fun _ _ _ h => nomatch h.1) (.inl ⟨by kernel_rfl, fun w hw => by clear hw; go_simp⟩) (by assumption) ?_
            (try simp only [Act.put, List.getElem_toArray, List.getElem_cons_succ, List.getElem_cons_zero, List.setIfInBounds_toArray, List.set_cons_zero, List.set_cons_succ])
            refine wpAnyH_take (i := 3) (v := .agg x.toArray) rfl (by kernel_rfl) (by kernel_rfl) (by kernel_rfl) (fun _ _ _ h => nomatch h.1) (yieldsIf_load_mid (by kernel_rfl) 86 (.tmp 19) rfl b _ rfl x _ (fun w h => h.1) hu rfl hix) (by assumption) ?_
            (try simp only [Act.put, List.getElem_toArray, List.getElem_cons_succ, List.getElem_cons_zero, List.setIfInBounds_toArray, List.set_cons_zero, List.set_cons_succ])
            refine wpAnyH_take (i := 4) (v := .slice (some ⟨b2, off2, none⟩) n c2) rfl (by kernel_rfl) (by kernel_rfl) (by kernel_rfl) (fun _ _ _ h => nomatch h.1) (.inl ⟨by kernel_rfl, fun w hw => by clear hw; go_simp⟩) (by assumption) ?_
            (try simp only [Act.put, List.getElem_toArray, List.getElem_cons_succ, List.getElem_cons_zero, List.setIfInBounds_toArray, List.set_cons_zero, List.set_cons_succ])
            refine wpAnyH_take (i := 5) (v := .int .i64 (k : Int)) rfl (by kernel_rfl) (by kernel_rfl) (by kernel_rfl) (fun _ _ _ h => nomatch h.1) (.inl ⟨by kernel_rfl, fun w hw => by clear hw; go_simp⟩) (by assumption) ?_
            (try simp only [Act.put, List.getElem_toArray, List.getElem_cons_succ, List.getElem_cons_zero, List.setIfInBounds_toArray, List.set_cons_zero, List.set_cons_succ])
            refine wpAnyH_take (i := 6) (v := .pointer (some ⟨b2, off2 + k * 8, none⟩)) rfl (by kernel_rfl) (by kernel_rfl) (by kernel_rfl) (fun _ _ _ h => nomatch h.1) (.inl ⟨by kernel_rfl, fun w hw => by clear hw; go_simp⟩) (by assumption) ?_
            (try simp only [Act.put, List.getElem_toArray, List.getElem_cons_succ, List.getElem_cons_zero, List.setIfInBounds_toArray, List.set_cons_zero, List.set_cons_succ])
            refine wpAnyH_take (i := 7) (v := .agg y.toArray) rfl (by kernel_rfl) (by kernel_rfl) (by kernel_rfl) (fun _ _ _ h => nomatch h.1) (yieldsIf_load_mid (by kernel_rfl) 86 (.tmp 23) rfl b2 _ rfl y _ (fun w h => h.2) hu rfl hiy) (by assumption) ?_
            (try simp only [Act.put, List.getElem_toArray, List.getElem_cons_succ, List.getElem_cons_zero, List.setIfInBounds_toArray, List.set_cons_zero, List.set_cons_succ])
            refine wpAnyH_take (i := 8) (v := .bool false) rfl (by kernel_rfl) (by kernel_rfl) (by kernel_rfl) (fun _ _ _ h => nomatch h.1) (.inl ⟨by kernel_rfl, fun w hw => by clear hw; go_simp⟩) (by assumption) ?_
            (try simp only [Act.put, List.getElem_toArray, List.getElem_cons_succ, List.getElem_cons_zero, List.setIfInBounds_toArray, List.set_cons_zero, List.set_cons_succ])
            refine wpAnyH_done (by kernel_rfl) ?_ _
            exact ⟨rfl, rfl, rfl⟩
          go_wp2_with fail
          go_roundw
          case rel => exact ⟨k + 1, by omega, by go_num, Lib.hid (HT.out.1.2 HXY.out), Lib.hid (hq2.out 1)⟩
          case measure => simp [intOf]; omega
        · have hne : ∀ W, (binOp .neq 86 (.agg x.toArray) (.agg y.toArray)).run Tryz.prog W = .ok (.bool true) W := fun W => by
            obtain ⟨b0, h1, h2⟩ := neq_struct eqClaim (by decide) x y W fx fy
            cases b0 with
            | false => exact absurd (h2.1 rfl) hxy
            | true => exact h1
          have HXY : Hid (L ≠ X) := Lib.hid (fun h => hxy (HT.out.2 h))
          clear r1 r2 hc hc2 hb hb2 fx fy hi hk hl hx hxy
          go_wp2_with fail
          apply region_to
          · refine wp_region_held_drew (S := (fun w' => w'.rangeAt b (off + k * 8) x ∧ w'.rangeAt b2 (off2 + k * 8) y)) (by kernel_rfl) (HR1.out _ HWB.out.drew) (fun dd0 => ?_)
            refine wpAnyH_take (i := 0) (v := .slice (some ⟨b, off, none⟩) n c) rfl (by kernel_rfl) (by kernel_rfl) (by kernel_rfl) (fun _ _ _ h => nomatch h.1) (.inl ⟨by kernel_rfl, fun w hw => by clear hw; go_simp⟩) (by assumption) ?_
            (try simp only [Act.put, List.getElem_toArray, List.getElem_cons_zero, List.setIfInBounds_toArray, List.set_cons_zero, List.set_cons_succ])
            refine wpAnyH_take (i := 1) (v := .int .i64 (k : Int)) rfl (by kernel_rfl) (by kernel_rfl) (by kernel_rfl) (fun _ _ _ h => nomatch h.1) (.inl ⟨by kernel_rfl, fun w hw => by clear hw; go_simp⟩) (by assumption) ?_
            (try simp only [Act.put, List.getElem_toArray, List.getElem_cons_succ, List.getElem_cons_zero, List.setIfInBounds_toArray, List.set_cons_zero, List.set_cons_succ])
            refine wpAnyH_take (i := 2) (v := .pointer (some ⟨b, off + k * 8, none⟩)) rfl (by kernel_rfl) (by kernel_rfl) (by kernel_rfl) (fun _ _ _ h => nomatch h.1) (.inl ⟨by kernel_rfl, fun w hw => by clear hw; go_simp⟩) (by assumption) ?_
            (try simp only [Act.put, List.getElem_toArray, List.getElem_cons_succ, List.getElem_cons_zero, List.setIfInBounds_toArray, List.set_cons_zero, List.set_cons_succ])
            refine wpAnyH_take (i := 3) (v := .agg x.toArray) rfl (by kernel_rfl) (by kernel_rfl) (by kernel_rfl) (fun _ _ _ h => nomatch h.1) (yieldsIf_load_mid (by kernel_rfl) 86 (.tmp 19) rfl b _ rfl x _ (fun w h => h.1) hu rfl hix) (by assumption) ?_
            (try simp only [Act.put, List.getElem_toArray, List.getElem_cons_succ, List.getElem_cons_zero, List.setIfInBounds_toArray, List.set_cons_zero, List.set_cons_succ])
            refine wpAnyH_take (i := 4) (v := .slice (some ⟨b2, off2, none⟩) n c2) rfl (by kernel_rfl) (by kernel_rfl) (by kernel_rfl) (fun _ _ _ h => nomatch h.1) (.inl ⟨by kernel_rfl, fun w hw => by clear hw; go_simp⟩) (by assumption) ?_
            (try simp only [Act.put, List.getElem_toArray, List.getElem_cons_succ, List.getElem_cons_zero, List.setIfInBounds_toArray, List.set_cons_zero, List.set_cons_succ])
            refine wpAnyH_take (i := 5) (v := .int .i64 (k : Int)) rfl (by kernel_rfl) (by kernel_rfl) (by kernel_rfl) (fun _ _ _ h => nomatch h.1) (.inl ⟨by kernel_rfl, fun w hw => by clear hw; go_simp⟩) (by assumption) ?_
            (try simp only [Act.put, List.getElem_toArray, List.getElem_cons_succ, List.getElem_cons_zero, List.setIfInBounds_toArray, List.set_cons_zero, List.set_cons_succ])
            refine wpAnyH_take (i := 6) (v := .pointer (some ⟨b2, off2 + k * 8, none⟩)) rfl (by kernel_rfl) (by kernel_rfl) (by kernel_rfl) (fun _ _ _ h => nomatch h.1) (.inl ⟨by kernel_rfl, fun w hw => by clear hw; go_simp⟩) (by assumption) ?_
            (try simp only [Act.put, List.getElem_toArray, List.getElem_cons_succ, List.getElem_cons_zero, List.setIfInBounds_toArray, List.set_cons_zero, List.set_cons_succ])
            refine wpAnyH_take (i := 7) (v := .agg y.toArray) rfl (by kernel_rfl) (by kernel_rfl) (by kernel_rfl) (fun _ _ _ h => nomatch h.1) (yieldsIf_load_mid (by kernel_rfl) 86 (.tmp 23) rfl b2 _ rfl y _ (fun w h => h.2) hu rfl hiy) (by assumption) ?_
            (try simp only [Act.put, List.getElem_toArray, List.getElem_cons_succ, List.getElem_cons_zero, List.setIfInBounds_toArray, List.set_cons_zero, List.set_cons_succ])
            refine wpAnyH_take (i := 8) (v := .bool true) rfl (by kernel_rfl) (by kernel_rfl) (by kernel_rfl) (fun _ _ _ h => nomatch h.1) (.inl ⟨by kernel_rfl, fun w hw => by clear hw; go_simp⟩) (by assumption) ?_
            (try simp only [Act.put, List.getElem_toArray, List.getElem_cons_succ, List.getElem_cons_zero, List.setIfInBounds_toArray, List.set_cons_zero, List.set_cons_succ])
            refine wpAnyH_done (by kernel_rfl) ?_ _
            exact ⟨rfl, rfl, rfl⟩
          go_wp2_with fail
          go_ret
          exact ⟨⟨false, rfl, by simpa using HXY.out⟩, hq2.out 1⟩
      · have HE : Hid (L = X) := Lib.hid (by
          have := hE.out
          rwa [List.take_of_length_le (by rw [← HN.out]; omega), List.take_of_length_le (by rw [← HM.out]; omega)] at this)
        go_wp2_with fail
        go_ret
        exact ⟨⟨true, rfl, by simpa using HE.out⟩, hq.out⟩
  · have HNE : Hid (L ≠ X) := Lib.hid (by rintro rfl; omega)
    have hb : ((n : Int) != (m : Int)) = true := by rw [bne_iff_ne]; omega
    clear hn hm hr hr2 hL hX
    go_enter Tryz.func49, Tryz.ntmps49
    go_wp2_with fail
    go_ret
    exact ⟨⟨false, rfl, by simpa using HNE.out⟩, 0, rfl⟩

set_option maxRecDepth 100000 in
set_option maxHeartbeats 1600000 in
theorem sameTask (A A2 : Option Addr) (n c m c2 : Nat) (L X : List (List Value)) (w : World) (hn : n = L.length) (hm : m = X.length) (hn4 : n ≤ 1000000) (hL : Things kTask L) (hX : Things kTask X) (hr : Rd w w.heap.size A L.flatten) (hr2 : Rd w w.heap.size A2 X.flatten) :
    Calls Tryz.prog 50 #[.slice A n c, .slice A2 m c2] w fun e w' => (∃ b : Bool, e = .returned (.bool b) ∧ (b = true ↔ L = X)) ∧ ∃ q, w' = w.drewN q := by
  by_cases hnm : n = m
  · subst hnm
    have HN := Lib.hid hn
    have HM := Lib.hid hm
    have HR := Lib.hid hr
    have HR2 := Lib.hid hr2
    have HL := Lib.hid hL
    have HX := Lib.hid hX
    have hk : kTask.length = 11 := by decide
    clear hn hr hr2 hm hL hX
    go_enter Tryz.func50, Tryz.ntmps50
    go_wp2_with fail
    go_loopw [5] (fun i wr => ∃ k : Nat, k ≤ n ∧ i = .int .i64 (k : Int) ∧ Hid (L.take k = X.take k) ∧ Hid (∃ q, wr = w.drewN q)) (fun i _ => n - (intOf i).toNat)
    case atStart => exact ⟨0, by omega, rfl, Lib.hid rfl, Lib.hid ⟨0, rfl⟩⟩
    case round =>
      obtain ⟨k, hkn, rfl, hE, hq⟩ := hrel
      by_cases hlt : k < n
      · have hl : k < L.length := by rw [← HN.out]; exact hlt
        have hx : k < X.length := by rw [← HM.out]; exact hlt
        obtain ⟨b, off, rfl, hb, hc⟩ := HR.out.thing HL.out (by rw [hk]; decide) hl
        obtain ⟨b2, off2, rfl, hb2, hc2⟩ := HR2.out.thing HX.out (by rw [hk]; decide) hx
        have fx := HL.out _ (List.getElem_mem hl)
        have fy := HX.out _ (List.getElem_mem hx)
        have r1 := hc k hl
        have r2 := hc2 k hx
        rw [hk] at r1 r2
        have HT : Hid ((L.take (k + 1) = X.take (k + 1) ↔ L[k] = X[k]) ∧ (L = X → L[k] = X[k])) := Lib.hid (by
          refine ⟨?_, fun h => by subst h; rfl⟩
          rw [List.take_succ_eq_append_getElem hl, List.take_succ_eq_append_getElem hx, hE.out]
          exact ⟨fun h => by have := List.append_cancel_left h; injection this, fun h => by rw [h]⟩)
        generalize L[k] = x at fx r1 HT
        generalize X[k] = y at fy r2 HT
        have hi : (Tryz.prog.info? 89).map (·.size) = some 11 := by kernel_rfl
        have hu := Tryz.underlying89
        have hix : (Tryz.prog.info? 89).map (·.size) = some x.length := by rw [hi, fx.length, hk]
        have hiy : (Tryz.prog.info? 89).map (·.size) = some y.length := by rw [hi, fy.length, hk]
        have HR1 : Hid (∀ W, Below w.heap.size w W → W.rangeAt b (off + k * 11) x ∧ W.rangeAt b2 (off2 + k * 11) y) := Lib.hid (fun W hW => ⟨rangeAt_below r1 hb hW, rangeAt_below r2 hb2 hW⟩)
        have HWB : Hid (Below w.heap.size w wr) := Lib.hid (by obtain ⟨q0, hq0⟩ := hq.out; rw [hq0]; exact below_drewN (Below.refl _ _) _)
        have hq2 : Hid (∀ z, ∃ q, wr.drewN z = w.drewN q) := Lib.hid (fun z => by obtain ⟨q0, hq0⟩ := hq.out; rw [hq0]; exact ⟨_, World.drewN_drewN _ _ _⟩)
        have h1 : (0 : Int) ≤ (k : Int) := by omega
        have h2 : (k : Int) < (n : Int) := by omega
        by_cases hxy : x = y
        · have hne : ∀ W, (binOp .neq 89 (.agg x.toArray) (.agg y.toArray)).run Tryz.prog W = .ok (.bool false) W := fun W => by
            obtain ⟨b0, h1, h2⟩ := neq_struct eqTask (by decide) x y W fx fy
            rw [h2.2 hxy] at h1
            exact h1
          have HXY := Lib.hid hxy
          clear r1 r2 hc hc2 hb hb2 fx fy hi hk hl hx hxy
          go_wp2_with fail
          apply region_to
          · refine wp_region_held_drew (S := (fun w' => w'.rangeAt b (off + k * 11) x ∧ w'.rangeAt b2 (off2 + k * 11) y)) (by kernel_rfl) (HR1.out _ HWB.out.drew) (fun dd0 => ?_)
            refine wpAnyH_take (i := 0) (v := .slice (some ⟨b, off, none⟩) n c) rfl (by kernel_rfl) (by kernel_rfl) (by kernel_rfl) (fun _ _ _ h => nomatch h.1) (.inl ⟨by kernel_rfl, fun w hw => by clear hw; go_simp⟩) (by assumption) ?_
            (try simp only [Act.put, List.getElem_toArray, List.getElem_cons_zero, List.setIfInBounds_toArray, List.set_cons_zero, List.set_cons_succ])
            refine wpAnyH_take (i := 1) (v := .int .i64 (k : Int)) rfl (by kernel_rfl) (by kernel_rfl) (by kernel_rfl) (fun _ _ _ h => nomatch h.1) (.inl ⟨by kernel_rfl, fun w hw => by clear hw; go_simp⟩) (by assumption) ?_
            (try simp only [Act.put, List.getElem_toArray, List.getElem_cons_succ, List.getElem_cons_zero, List.setIfInBounds_toArray, List.set_cons_zero, List.set_cons_succ])
            refine wpAnyH_take (i := 2) (v := .pointer (some ⟨b, off + k * 11, none⟩)) rfl (by kernel_rfl) (by kernel_rfl) (by kernel_rfl) (fun _ _ _ h => nomatch h.1) (.inl ⟨by kernel_rfl, fun w hw => by clear hw; go_simp⟩) (by assumption) ?_
            (try simp only [Act.put, List.getElem_toArray, List.getElem_cons_succ, List.getElem_cons_zero, List.setIfInBounds_toArray, List.set_cons_zero, List.set_cons_succ])
            refine wpAnyH_take (i := 3) (v := .agg x.toArray) rfl (by kernel_rfl) (by kernel_rfl) (by kernel_rfl) (fun _ _ _ h => nomatch h.1) (yieldsIf_load_mid (by kernel_rfl) 89 (.tmp 19) rfl b _ rfl x _ (fun w h => h.1) hu rfl hix) (by assumption) ?_
            (try simp only [Act.put, List.getElem_toArray, List.getElem_cons_succ, List.getElem_cons_zero, List.setIfInBounds_toArray, List.set_cons_zero, List.set_cons_succ])
            refine wpAnyH_take (i := 4) (v := .slice (some ⟨b2, off2, none⟩) n c2) rfl (by kernel_rfl) (by kernel_rfl) (by kernel_rfl) (fun _ _ _ h => nomatch h.1) (.inl ⟨by kernel_rfl, fun w hw => by clear hw; go_simp⟩) (by assumption) ?_
            (try simp only [Act.put, List.getElem_toArray, List.getElem_cons_succ, List.getElem_cons_zero, List.setIfInBounds_toArray, List.set_cons_zero, List.set_cons_succ])
            refine wpAnyH_take (i := 5) (v := .int .i64 (k : Int)) rfl (by kernel_rfl) (by kernel_rfl) (by kernel_rfl) (fun _ _ _ h => nomatch h.1) (.inl ⟨by kernel_rfl, fun w hw => by clear hw; go_simp⟩) (by assumption) ?_
            (try simp only [Act.put, List.getElem_toArray, List.getElem_cons_succ, List.getElem_cons_zero, List.setIfInBounds_toArray, List.set_cons_zero, List.set_cons_succ])
            refine wpAnyH_take (i := 6) (v := .pointer (some ⟨b2, off2 + k * 11, none⟩)) rfl (by kernel_rfl) (by kernel_rfl) (by kernel_rfl) (fun _ _ _ h => nomatch h.1) (.inl ⟨by kernel_rfl, fun w hw => by clear hw; go_simp⟩) (by assumption) ?_
            (try simp only [Act.put, List.getElem_toArray, List.getElem_cons_succ, List.getElem_cons_zero, List.setIfInBounds_toArray, List.set_cons_zero, List.set_cons_succ])
            refine wpAnyH_take (i := 7) (v := .agg y.toArray) rfl (by kernel_rfl) (by kernel_rfl) (by kernel_rfl) (fun _ _ _ h => nomatch h.1) (yieldsIf_load_mid (by kernel_rfl) 89 (.tmp 23) rfl b2 _ rfl y _ (fun w h => h.2) hu rfl hiy) (by assumption) ?_
            (try simp only [Act.put, List.getElem_toArray, List.getElem_cons_succ, List.getElem_cons_zero, List.setIfInBounds_toArray, List.set_cons_zero, List.set_cons_succ])
            refine wpAnyH_take (i := 8) (v := .bool false) rfl (by kernel_rfl) (by kernel_rfl) (by kernel_rfl) (fun _ _ _ h => nomatch h.1) (.inl ⟨by kernel_rfl, fun w hw => by clear hw; go_simp⟩) (by assumption) ?_
            (try simp only [Act.put, List.getElem_toArray, List.getElem_cons_succ, List.getElem_cons_zero, List.setIfInBounds_toArray, List.set_cons_zero, List.set_cons_succ])
            refine wpAnyH_done (by kernel_rfl) ?_ _
            exact ⟨rfl, rfl, rfl⟩
          go_wp2_with fail
          go_roundw
          case rel => exact ⟨k + 1, by omega, by go_num, Lib.hid (HT.out.1.2 HXY.out), Lib.hid (hq2.out 1)⟩
          case measure => simp [intOf]; omega
        · have hne : ∀ W, (binOp .neq 89 (.agg x.toArray) (.agg y.toArray)).run Tryz.prog W = .ok (.bool true) W := fun W => by
            obtain ⟨b0, h1, h2⟩ := neq_struct eqTask (by decide) x y W fx fy
            cases b0 with
            | false => exact absurd (h2.1 rfl) hxy
            | true => exact h1
          have HXY : Hid (L ≠ X) := Lib.hid (fun h => hxy (HT.out.2 h))
          clear r1 r2 hc hc2 hb hb2 fx fy hi hk hl hx hxy
          go_wp2_with fail
          apply region_to
          · refine wp_region_held_drew (S := (fun w' => w'.rangeAt b (off + k * 11) x ∧ w'.rangeAt b2 (off2 + k * 11) y)) (by kernel_rfl) (HR1.out _ HWB.out.drew) (fun dd0 => ?_)
            refine wpAnyH_take (i := 0) (v := .slice (some ⟨b, off, none⟩) n c) rfl (by kernel_rfl) (by kernel_rfl) (by kernel_rfl) (fun _ _ _ h => nomatch h.1) (.inl ⟨by kernel_rfl, fun w hw => by clear hw; go_simp⟩) (by assumption) ?_
            (try simp only [Act.put, List.getElem_toArray, List.getElem_cons_zero, List.setIfInBounds_toArray, List.set_cons_zero, List.set_cons_succ])
            refine wpAnyH_take (i := 1) (v := .int .i64 (k : Int)) rfl (by kernel_rfl) (by kernel_rfl) (by kernel_rfl) (fun _ _ _ h => nomatch h.1) (.inl ⟨by kernel_rfl, fun w hw => by clear hw; go_simp⟩) (by assumption) ?_
            (try simp only [Act.put, List.getElem_toArray, List.getElem_cons_succ, List.getElem_cons_zero, List.setIfInBounds_toArray, List.set_cons_zero, List.set_cons_succ])
            refine wpAnyH_take (i := 2) (v := .pointer (some ⟨b, off + k * 11, none⟩)) rfl (by kernel_rfl) (by kernel_rfl) (by kernel_rfl) (fun _ _ _ h => nomatch h.1) (.inl ⟨by kernel_rfl, fun w hw => by clear hw; go_simp⟩) (by assumption) ?_
            (try simp only [Act.put, List.getElem_toArray, List.getElem_cons_succ, List.getElem_cons_zero, List.setIfInBounds_toArray, List.set_cons_zero, List.set_cons_succ])
            refine wpAnyH_take (i := 3) (v := .agg x.toArray) rfl (by kernel_rfl) (by kernel_rfl) (by kernel_rfl) (fun _ _ _ h => nomatch h.1) (yieldsIf_load_mid (by kernel_rfl) 89 (.tmp 19) rfl b _ rfl x _ (fun w h => h.1) hu rfl hix) (by assumption) ?_
            (try simp only [Act.put, List.getElem_toArray, List.getElem_cons_succ, List.getElem_cons_zero, List.setIfInBounds_toArray, List.set_cons_zero, List.set_cons_succ])
            refine wpAnyH_take (i := 4) (v := .slice (some ⟨b2, off2, none⟩) n c2) rfl (by kernel_rfl) (by kernel_rfl) (by kernel_rfl) (fun _ _ _ h => nomatch h.1) (.inl ⟨by kernel_rfl, fun w hw => by clear hw; go_simp⟩) (by assumption) ?_
            (try simp only [Act.put, List.getElem_toArray, List.getElem_cons_succ, List.getElem_cons_zero, List.setIfInBounds_toArray, List.set_cons_zero, List.set_cons_succ])
            refine wpAnyH_take (i := 5) (v := .int .i64 (k : Int)) rfl (by kernel_rfl) (by kernel_rfl) (by kernel_rfl) (fun _ _ _ h => nomatch h.1) (.inl ⟨by kernel_rfl, fun w hw => by clear hw; go_simp⟩) (by assumption) ?_
            (try simp only [Act.put, List.getElem_toArray, List.getElem_cons_succ, List.getElem_cons_zero, List.setIfInBounds_toArray, List.set_cons_zero, List.set_cons_succ])
            refine wpAnyH_take (i := 6) (v := .pointer (some ⟨b2, off2 + k * 11, none⟩)) rfl (by kernel_rfl) (by kernel_rfl) (by kernel_rfl) (fun _ _ _ h => nomatch h.1) (.inl ⟨by kernel_rfl, fun w hw => by clear hw; go_simp⟩) (by assumption) ?_
            (try simp only [Act.put, List.getElem_toArray, List.getElem_cons_succ, List.getElem_cons_zero, List.setIfInBounds_toArray, List.set_cons_zero, List.set_cons_succ])
            refine wpAnyH_take (i := 7) (v := .agg y.toArray) rfl (by kernel_rfl) (by kernel_rfl) (by kernel_rfl) (fun _ _ _ h => nomatch h.1) (yieldsIf_load_mid (by kernel_rfl) 89 (.tmp 23) rfl b2 _ rfl y _ (fun w h => h.2) hu rfl hiy) (by assumption) ?_
            (try simp only [Act.put, List.getElem_toArray, List.getElem_cons_succ, List.getElem_cons_zero, List.setIfInBounds_toArray, List.set_cons_zero, List.set_cons_succ])
            refine wpAnyH_take (i := 8) (v := .bool true) rfl (by kernel_rfl) (by kernel_rfl) (by kernel_rfl) (fun _ _ _ h => nomatch h.1) (.inl ⟨by kernel_rfl, fun w hw => by clear hw; go_simp⟩) (by assumption) ?_
            (try simp only [Act.put, List.getElem_toArray, List.getElem_cons_succ, List.getElem_cons_zero, List.setIfInBounds_toArray, List.set_cons_zero, List.set_cons_succ])
            refine wpAnyH_done (by kernel_rfl) ?_ _
            exact ⟨rfl, rfl, rfl⟩
          go_wp2_with fail
          go_ret
          exact ⟨⟨false, rfl, by simpa using HXY.out⟩, hq2.out 1⟩
      · have HE : Hid (L = X) := Lib.hid (by
          have := hE.out
          rwa [List.take_of_length_le (by rw [← HN.out]; omega), List.take_of_length_le (by rw [← HM.out]; omega)] at this)
        go_wp2_with fail
        go_ret
        exact ⟨⟨true, rfl, by simpa using HE.out⟩, hq.out⟩
  · have HNE : Hid (L ≠ X) := Lib.hid (by rintro rfl; omega)
    have hb : ((n : Int) != (m : Int)) = true := by rw [bne_iff_ne]; omega
    clear hn hm hr hr2 hL hX
    go_enter Tryz.func50, Tryz.ntmps50
    go_wp2_with fail
    go_ret
    exact ⟨⟨false, rfl, by simpa using HNE.out⟩, 0, rfl⟩

set_option maxRecDepth 100000 in
set_option maxHeartbeats 1600000 in
theorem sameParcel (A A2 : Option Addr) (n c m c2 : Nat) (L X : List (List Value)) (w : World) (hn : n = L.length) (hm : m = X.length) (hn4 : n ≤ 1000000) (hL : Things kParcel L) (hX : Things kParcel X) (hr : Rd w w.heap.size A L.flatten) (hr2 : Rd w w.heap.size A2 X.flatten) :
    Calls Tryz.prog 51 #[.slice A n c, .slice A2 m c2] w fun e w' => (∃ b : Bool, e = .returned (.bool b) ∧ (b = true ↔ L = X)) ∧ ∃ q, w' = w.drewN q := by
  by_cases hnm : n = m
  · subst hnm
    have HN := Lib.hid hn
    have HM := Lib.hid hm
    have HR := Lib.hid hr
    have HR2 := Lib.hid hr2
    have HL := Lib.hid hL
    have HX := Lib.hid hX
    have hk : kParcel.length = 2 := by decide
    clear hn hr hr2 hm hL hX
    go_enter Tryz.func51, Tryz.ntmps51
    go_wp2_with fail
    go_loopw [5] (fun i wr => ∃ k : Nat, k ≤ n ∧ i = .int .i64 (k : Int) ∧ Hid (L.take k = X.take k) ∧ Hid (∃ q, wr = w.drewN q)) (fun i _ => n - (intOf i).toNat)
    case atStart => exact ⟨0, by omega, rfl, Lib.hid rfl, Lib.hid ⟨0, rfl⟩⟩
    case round =>
      obtain ⟨k, hkn, rfl, hE, hq⟩ := hrel
      by_cases hlt : k < n
      · have hl : k < L.length := by rw [← HN.out]; exact hlt
        have hx : k < X.length := by rw [← HM.out]; exact hlt
        obtain ⟨b, off, rfl, hb, hc⟩ := HR.out.thing HL.out (by rw [hk]; decide) hl
        obtain ⟨b2, off2, rfl, hb2, hc2⟩ := HR2.out.thing HX.out (by rw [hk]; decide) hx
        have fx := HL.out _ (List.getElem_mem hl)
        have fy := HX.out _ (List.getElem_mem hx)
        have r1 := hc k hl
        have r2 := hc2 k hx
        rw [hk] at r1 r2
        have HT : Hid ((L.take (k + 1) = X.take (k + 1) ↔ L[k] = X[k]) ∧ (L = X → L[k] = X[k])) := Lib.hid (by
          refine ⟨?_, fun h => by subst h; rfl⟩
          rw [List.take_succ_eq_append_getElem hl, List.take_succ_eq_append_getElem hx, hE.out]
          exact ⟨fun h => by have := List.append_cancel_left h; injection this, fun h => by rw [h]⟩)
        generalize L[k] = x at fx r1 HT
        generalize X[k] = y at fy r2 HT
        have hi : (Tryz.prog.info? 92).map (·.size) = some 2 := by kernel_rfl
        have hu := Tryz.underlying92
        have hix : (Tryz.prog.info? 92).map (·.size) = some x.length := by rw [hi, fx.length, hk]
        have hiy : (Tryz.prog.info? 92).map (·.size) = some y.length := by rw [hi, fy.length, hk]
        have HR1 : Hid (∀ W, Below w.heap.size w W → W.rangeAt b (off + k * 2) x ∧ W.rangeAt b2 (off2 + k * 2) y) := Lib.hid (fun W hW => ⟨rangeAt_below r1 hb hW, rangeAt_below r2 hb2 hW⟩)
        have HWB : Hid (Below w.heap.size w wr) := Lib.hid (by obtain ⟨q0, hq0⟩ := hq.out; rw [hq0]; exact below_drewN (Below.refl _ _) _)
        have hq2 : Hid (∀ z, ∃ q, wr.drewN z = w.drewN q) := Lib.hid (fun z => by obtain ⟨q0, hq0⟩ := hq.out; rw [hq0]; exact ⟨_, World.drewN_drewN _ _ _⟩)
        have h1 : (0 : Int) ≤ (k : Int) := by omega
        have h2 : (k : Int) < (n : Int) := by omega
        by_cases hxy : x = y
        · have hne : ∀ W, (binOp .neq 92 (.agg x.toArray) (.agg y.toArray)).run Tryz.prog W = .ok (.bool false) W := fun W => by
            obtain ⟨b0, h1, h2⟩ := neq_struct eqParcel (by decide) x y W fx fy
            rw [h2.2 hxy] at h1
            exact h1
          have HXY := Lib.hid hxy
          clear r1 r2 hc hc2 hb hb2 fx fy hi hk hl hx hxy
          go_wp2_with fail
          apply region_to
          · refine wp_region_held_drew (S := (fun w' => w'.rangeAt b (off + k * 2) x ∧ w'.rangeAt b2 (off2 + k * 2) y)) (by kernel_rfl) (HR1.out _ HWB.out.drew) (fun dd0 => ?_)
            refine wpAnyH_take (i := 0) (v := .slice (some ⟨b, off, none⟩) n c) rfl (by kernel_rfl) (by kernel_rfl) (by kernel_rfl) (fun _ _ _ h => nomatch h.1) (.inl ⟨by kernel_rfl, fun w hw => by clear hw; go_simp⟩) (by assumption) ?_
            (try simp only [Act.put, List.getElem_toArray, List.getElem_cons_zero, List.setIfInBounds_toArray, List.set_cons_zero, List.set_cons_succ])
            refine wpAnyH_take (i := 1) (v := .int .i64 (k : Int)) rfl (by kernel_rfl) (by kernel_rfl) (by kernel_rfl) (fun _ _ _ h => nomatch h.1) (.inl ⟨by kernel_rfl, fun w hw => by clear hw; go_simp⟩) (by assumption) ?_
            (try simp only [Act.put, List.getElem_toArray, List.getElem_cons_succ, List.getElem_cons_zero, List.setIfInBounds_toArray, List.set_cons_zero, List.set_cons_succ])
            refine wpAnyH_take (i := 2) (v := .pointer (some ⟨b, off + k * 2, none⟩)) rfl (by kernel_rfl) (by kernel_rfl) (by kernel_rfl) (fun _ _ _ h => nomatch h.1) (.inl ⟨by kernel_rfl, fun w hw => by clear hw; go_simp⟩) (by assumption) ?_
            (try simp only [Act.put, List.getElem_toArray, List.getElem_cons_succ, List.getElem_cons_zero, List.setIfInBounds_toArray, List.set_cons_zero, List.set_cons_succ])
            refine wpAnyH_take (i := 3) (v := .agg x.toArray) rfl (by kernel_rfl) (by kernel_rfl) (by kernel_rfl) (fun _ _ _ h => nomatch h.1) (yieldsIf_load_mid (by kernel_rfl) 92 (.tmp 19) rfl b _ rfl x _ (fun w h => h.1) hu rfl hix) (by assumption) ?_
            (try simp only [Act.put, List.getElem_toArray, List.getElem_cons_succ, List.getElem_cons_zero, List.setIfInBounds_toArray, List.set_cons_zero, List.set_cons_succ])
            refine wpAnyH_take (i := 4) (v := .slice (some ⟨b2, off2, none⟩) n c2) rfl (by kernel_rfl) (by kernel_rfl) (by kernel_rfl) (fun _ _ _ h => nomatch h.1) (.inl ⟨by kernel_rfl, fun w hw => by clear hw; go_simp⟩) (by assumption) ?_
            (try simp only [Act.put, List.getElem_toArray, List.getElem_cons_succ, List.getElem_cons_zero, List.setIfInBounds_toArray, List.set_cons_zero, List.set_cons_succ])
            refine wpAnyH_take (i := 5) (v := .int .i64 (k : Int)) rfl (by kernel_rfl) (by kernel_rfl) (by kernel_rfl) (fun _ _ _ h => nomatch h.1) (.inl ⟨by kernel_rfl, fun w hw => by clear hw; go_simp⟩) (by assumption) ?_
            (try simp only [Act.put, List.getElem_toArray, List.getElem_cons_succ, List.getElem_cons_zero, List.setIfInBounds_toArray, List.set_cons_zero, List.set_cons_succ])
            refine wpAnyH_take (i := 6) (v := .pointer (some ⟨b2, off2 + k * 2, none⟩)) rfl (by kernel_rfl) (by kernel_rfl) (by kernel_rfl) (fun _ _ _ h => nomatch h.1) (.inl ⟨by kernel_rfl, fun w hw => by clear hw; go_simp⟩) (by assumption) ?_
            (try simp only [Act.put, List.getElem_toArray, List.getElem_cons_succ, List.getElem_cons_zero, List.setIfInBounds_toArray, List.set_cons_zero, List.set_cons_succ])
            refine wpAnyH_take (i := 7) (v := .agg y.toArray) rfl (by kernel_rfl) (by kernel_rfl) (by kernel_rfl) (fun _ _ _ h => nomatch h.1) (yieldsIf_load_mid (by kernel_rfl) 92 (.tmp 23) rfl b2 _ rfl y _ (fun w h => h.2) hu rfl hiy) (by assumption) ?_
            (try simp only [Act.put, List.getElem_toArray, List.getElem_cons_succ, List.getElem_cons_zero, List.setIfInBounds_toArray, List.set_cons_zero, List.set_cons_succ])
            refine wpAnyH_take (i := 8) (v := .bool false) rfl (by kernel_rfl) (by kernel_rfl) (by kernel_rfl) (fun _ _ _ h => nomatch h.1) (.inl ⟨by kernel_rfl, fun w hw => by clear hw; go_simp⟩) (by assumption) ?_
            (try simp only [Act.put, List.getElem_toArray, List.getElem_cons_succ, List.getElem_cons_zero, List.setIfInBounds_toArray, List.set_cons_zero, List.set_cons_succ])
            refine wpAnyH_done (by kernel_rfl) ?_ _
            exact ⟨rfl, rfl, rfl⟩
          go_wp2_with fail
          go_roundw
          case rel => exact ⟨k + 1, by omega, by go_num, Lib.hid (HT.out.1.2 HXY.out), Lib.hid (hq2.out 1)⟩
          case measure => simp [intOf]; omega
        · have hne : ∀ W, (binOp .neq 92 (.agg x.toArray) (.agg y.toArray)).run Tryz.prog W = .ok (.bool true) W := fun W => by
            obtain ⟨b0, h1, h2⟩ := neq_struct eqParcel (by decide) x y W fx fy
            cases b0 with
            | false => exact absurd (h2.1 rfl) hxy
            | true => exact h1
          have HXY : Hid (L ≠ X) := Lib.hid (fun h => hxy (HT.out.2 h))
          clear r1 r2 hc hc2 hb hb2 fx fy hi hk hl hx hxy
          go_wp2_with fail
          apply region_to
          · refine wp_region_held_drew (S := (fun w' => w'.rangeAt b (off + k * 2) x ∧ w'.rangeAt b2 (off2 + k * 2) y)) (by kernel_rfl) (HR1.out _ HWB.out.drew) (fun dd0 => ?_)
            refine wpAnyH_take (i := 0) (v := .slice (some ⟨b, off, none⟩) n c) rfl (by kernel_rfl) (by kernel_rfl) (by kernel_rfl) (fun _ _ _ h => nomatch h.1) (.inl ⟨by kernel_rfl, fun w hw => by clear hw; go_simp⟩) (by assumption) ?_
            (try simp only [Act.put, List.getElem_toArray, List.getElem_cons_zero, List.setIfInBounds_toArray, List.set_cons_zero, List.set_cons_succ])
            refine wpAnyH_take (i := 1) (v := .int .i64 (k : Int)) rfl (by kernel_rfl) (by kernel_rfl) (by kernel_rfl) (fun _ _ _ h => nomatch h.1) (.inl ⟨by kernel_rfl, fun w hw => by clear hw; go_simp⟩) (by assumption) ?_
            (try simp only [Act.put, List.getElem_toArray, List.getElem_cons_succ, List.getElem_cons_zero, List.setIfInBounds_toArray, List.set_cons_zero, List.set_cons_succ])
            refine wpAnyH_take (i := 2) (v := .pointer (some ⟨b, off + k * 2, none⟩)) rfl (by kernel_rfl) (by kernel_rfl) (by kernel_rfl) (fun _ _ _ h => nomatch h.1) (.inl ⟨by kernel_rfl, fun w hw => by clear hw; go_simp⟩) (by assumption) ?_
            (try simp only [Act.put, List.getElem_toArray, List.getElem_cons_succ, List.getElem_cons_zero, List.setIfInBounds_toArray, List.set_cons_zero, List.set_cons_succ])
            refine wpAnyH_take (i := 3) (v := .agg x.toArray) rfl (by kernel_rfl) (by kernel_rfl) (by kernel_rfl) (fun _ _ _ h => nomatch h.1) (yieldsIf_load_mid (by kernel_rfl) 92 (.tmp 19) rfl b _ rfl x _ (fun w h => h.1) hu rfl hix) (by assumption) ?_
            (try simp only [Act.put, List.getElem_toArray, List.getElem_cons_succ, List.getElem_cons_zero, List.setIfInBounds_toArray, List.set_cons_zero, List.set_cons_succ])
            refine wpAnyH_take (i := 4) (v := .slice (some ⟨b2, off2, none⟩) n c2) rfl (by kernel_rfl) (by kernel_rfl) (by kernel_rfl) (fun _ _ _ h => nomatch h.1) (.inl ⟨by kernel_rfl, fun w hw => by clear hw; go_simp⟩) (by assumption) ?_
            (try simp only [Act.put, List.getElem_toArray, List.getElem_cons_succ, List.getElem_cons_zero, List.setIfInBounds_toArray, List.set_cons_zero, List.set_cons_succ])
            refine wpAnyH_take (i := 5) (v := .int .i64 (k : Int)) rfl (by kernel_rfl) (by kernel_rfl) (by kernel_rfl) (fun _ _ _ h => nomatch h.1) (.inl ⟨by kernel_rfl, fun w hw => by clear hw; go_simp⟩) (by assumption) ?_
            (try simp only [Act.put, List.getElem_toArray, List.getElem_cons_succ, List.getElem_cons_zero, List.setIfInBounds_toArray, List.set_cons_zero, List.set_cons_succ])
            refine wpAnyH_take (i := 6) (v := .pointer (some ⟨b2, off2 + k * 2, none⟩)) rfl (by kernel_rfl) (by kernel_rfl) (by kernel_rfl) (fun _ _ _ h => nomatch h.1) (.inl ⟨by kernel_rfl, fun w hw => by clear hw; go_simp⟩) (by assumption) ?_
            (try simp only [Act.put, List.getElem_toArray, List.getElem_cons_succ, List.getElem_cons_zero, List.setIfInBounds_toArray, List.set_cons_zero, List.set_cons_succ])
            refine wpAnyH_take (i := 7) (v := .agg y.toArray) rfl (by kernel_rfl) (by kernel_rfl) (by kernel_rfl) (fun _ _ _ h => nomatch h.1) (yieldsIf_load_mid (by kernel_rfl) 92 (.tmp 23) rfl b2 _ rfl y _ (fun w h => h.2) hu rfl hiy) (by assumption) ?_
            (try simp only [Act.put, List.getElem_toArray, List.getElem_cons_succ, List.getElem_cons_zero, List.setIfInBounds_toArray, List.set_cons_zero, List.set_cons_succ])
            refine wpAnyH_take (i := 8) (v := .bool true) rfl (by kernel_rfl) (by kernel_rfl) (by kernel_rfl) (fun _ _ _ h => nomatch h.1) (.inl ⟨by kernel_rfl, fun w hw => by clear hw; go_simp⟩) (by assumption) ?_
            (try simp only [Act.put, List.getElem_toArray, List.getElem_cons_succ, List.getElem_cons_zero, List.setIfInBounds_toArray, List.set_cons_zero, List.set_cons_succ])
            refine wpAnyH_done (by kernel_rfl) ?_ _
            exact ⟨rfl, rfl, rfl⟩
          go_wp2_with fail
          go_ret
          exact ⟨⟨false, rfl, by simpa using HXY.out⟩, hq2.out 1⟩
      · have HE : Hid (L = X) := Lib.hid (by
          have := hE.out
          rwa [List.take_of_length_le (by rw [← HN.out]; omega), List.take_of_length_le (by rw [← HM.out]; omega)] at this)
        go_wp2_with fail
        go_ret
        exact ⟨⟨true, rfl, by simpa using HE.out⟩, hq.out⟩
  · have HNE : Hid (L ≠ X) := Lib.hid (by rintro rfl; omega)
    have hb : ((n : Int) != (m : Int)) = true := by rw [bne_iff_ne]; omega
    clear hn hm hr hr2 hL hX
    go_enter Tryz.func51, Tryz.ntmps51
    go_wp2_with fail
    go_ret
    exact ⟨⟨false, rfl, by simpa using HNE.out⟩, 0, rfl⟩

set_option maxRecDepth 100000 in
set_option maxHeartbeats 1600000 in
theorem sameSent (A A2 : Option Addr) (n c m c2 : Nat) (L X : List (List Value)) (w : World) (hn : n = L.length) (hm : m = X.length) (hn4 : n ≤ 1000000) (hL : Things kSent L) (hX : Things kSent X) (hr : Rd w w.heap.size A L.flatten) (hr2 : Rd w w.heap.size A2 X.flatten) :
    Calls Tryz.prog 52 #[.slice A n c, .slice A2 m c2] w fun e w' => (∃ b : Bool, e = .returned (.bool b) ∧ (b = true ↔ L = X)) ∧ ∃ q, w' = w.drewN q := by
  by_cases hnm : n = m
  · subst hnm
    have HN := Lib.hid hn
    have HM := Lib.hid hm
    have HR := Lib.hid hr
    have HR2 := Lib.hid hr2
    have HL := Lib.hid hL
    have HX := Lib.hid hX
    have hk : kSent.length = 5 := by decide
    clear hn hr hr2 hm hL hX
    go_enter Tryz.func52, Tryz.ntmps52
    go_wp2_with fail
    go_loopw [5] (fun i wr => ∃ k : Nat, k ≤ n ∧ i = .int .i64 (k : Int) ∧ Hid (L.take k = X.take k) ∧ Hid (∃ q, wr = w.drewN q)) (fun i _ => n - (intOf i).toNat)
    case atStart => exact ⟨0, by omega, rfl, Lib.hid rfl, Lib.hid ⟨0, rfl⟩⟩
    case round =>
      obtain ⟨k, hkn, rfl, hE, hq⟩ := hrel
      by_cases hlt : k < n
      · have hl : k < L.length := by rw [← HN.out]; exact hlt
        have hx : k < X.length := by rw [← HM.out]; exact hlt
        obtain ⟨b, off, rfl, hb, hc⟩ := HR.out.thing HL.out (by rw [hk]; decide) hl
        obtain ⟨b2, off2, rfl, hb2, hc2⟩ := HR2.out.thing HX.out (by rw [hk]; decide) hx
        have fx := HL.out _ (List.getElem_mem hl)
        have fy := HX.out _ (List.getElem_mem hx)
        have r1 := hc k hl
        have r2 := hc2 k hx
        rw [hk] at r1 r2
        have HT : Hid ((L.take (k + 1) = X.take (k + 1) ↔ L[k] = X[k]) ∧ (L = X → L[k] = X[k])) := Lib.hid (by
          refine ⟨?_, fun h => by subst h; rfl⟩
          rw [List.take_succ_eq_append_getElem hl, List.take_succ_eq_append_getElem hx, hE.out]
          exact ⟨fun h => by have := List.append_cancel_left h; injection this, fun h => by rw [h]⟩)
        generalize L[k] = x at fx r1 HT
        generalize X[k] = y at fy r2 HT
        have hi : (Tryz.prog.info? 95).map (·.size) = some 5 := by kernel_rfl
        have hu := Tryz.underlying95
        have hix : (Tryz.prog.info? 95).map (·.size) = some x.length := by rw [hi, fx.length, hk]
        have hiy : (Tryz.prog.info? 95).map (·.size) = some y.length := by rw [hi, fy.length, hk]
        have HR1 : Hid (∀ W, Below w.heap.size w W → W.rangeAt b (off + k * 5) x ∧ W.rangeAt b2 (off2 + k * 5) y) := Lib.hid (fun W hW => ⟨rangeAt_below r1 hb hW, rangeAt_below r2 hb2 hW⟩)
        have HWB : Hid (Below w.heap.size w wr) := Lib.hid (by obtain ⟨q0, hq0⟩ := hq.out; rw [hq0]; exact below_drewN (Below.refl _ _) _)
        have hq2 : Hid (∀ z, ∃ q, wr.drewN z = w.drewN q) := Lib.hid (fun z => by obtain ⟨q0, hq0⟩ := hq.out; rw [hq0]; exact ⟨_, World.drewN_drewN _ _ _⟩)
        have h1 : (0 : Int) ≤ (k : Int) := by omega
        have h2 : (k : Int) < (n : Int) := by omega
        by_cases hxy : x = y
        · have hne : ∀ W, (binOp .neq 95 (.agg x.toArray) (.agg y.toArray)).run Tryz.prog W = .ok (.bool false) W := fun W => by
            obtain ⟨b0, h1, h2⟩ := neq_struct eqSent (by decide) x y W fx fy
            rw [h2.2 hxy] at h1
            exact h1
          have HXY := Lib.hid hxy
          clear r1 r2 hc hc2 hb hb2 fx fy hi hk hl hx hxy
          go_wp2_with fail
          apply region_to
          · refine wp_region_held_drew (S := (fun w' => w'.rangeAt b (off + k * 5) x ∧ w'.rangeAt b2 (off2 + k * 5) y)) (by kernel_rfl) (HR1.out _ HWB.out.drew) (fun dd0 => ?_)
            refine wpAnyH_take (i := 0) (v := .slice (some ⟨b, off, none⟩) n c) rfl (by kernel_rfl) (by kernel_rfl) (by kernel_rfl) (fun _ _ _ h => nomatch h.1) (.inl ⟨by kernel_rfl, fun w hw => by clear hw; go_simp⟩) (by assumption) ?_
            (try simp only [Act.put, List.getElem_toArray, List.getElem_cons_zero, List.setIfInBounds_toArray, List.set_cons_zero, List.set_cons_succ])
            refine wpAnyH_take (i := 1) (v := .int .i64 (k : Int)) rfl (by kernel_rfl) (by kernel_rfl) (by kernel_rfl) (fun _ _ _ h => nomatch h.1) (.inl ⟨by kernel_rfl, fun w hw => by clear hw; go_simp⟩) (by assumption) ?_
            (try simp only [Act.put, List.getElem_toArray, List.getElem_cons_succ, List.getElem_cons_zero, List.setIfInBounds_toArray, List.set_cons_zero, List.set_cons_succ])
            refine wpAnyH_take (i := 2) (v := .pointer (some ⟨b, off + k * 5, none⟩)) rfl (by kernel_rfl) (by kernel_rfl) (by kernel_rfl) (fun _ _ _ h => nomatch h.1) (.inl ⟨by kernel_rfl, fun w hw => by clear hw; go_simp⟩) (by assumption) ?_
            (try simp only [Act.put, List.getElem_toArray, List.getElem_cons_succ, List.getElem_cons_zero, List.setIfInBounds_toArray, List.set_cons_zero, List.set_cons_succ])
            refine wpAnyH_take (i := 3) (v := .agg x.toArray) rfl (by kernel_rfl) (by kernel_rfl) (by kernel_rfl) (fun _ _ _ h => nomatch h.1) (yieldsIf_load_mid (by kernel_rfl) 95 (.tmp 19) rfl b _ rfl x _ (fun w h => h.1) hu rfl hix) (by assumption) ?_
            (try simp only [Act.put, List.getElem_toArray, List.getElem_cons_succ, List.getElem_cons_zero, List.setIfInBounds_toArray, List.set_cons_zero, List.set_cons_succ])
            refine wpAnyH_take (i := 4) (v := .slice (some ⟨b2, off2, none⟩) n c2) rfl (by kernel_rfl) (by kernel_rfl) (by kernel_rfl) (fun _ _ _ h => nomatch h.1) (.inl ⟨by kernel_rfl, fun w hw => by clear hw; go_simp⟩) (by assumption) ?_
            (try simp only [Act.put, List.getElem_toArray, List.getElem_cons_succ, List.getElem_cons_zero, List.setIfInBounds_toArray, List.set_cons_zero, List.set_cons_succ])
            refine wpAnyH_take (i := 5) (v := .int .i64 (k : Int)) rfl (by kernel_rfl) (by kernel_rfl) (by kernel_rfl) (fun _ _ _ h => nomatch h.1) (.inl ⟨by kernel_rfl, fun w hw => by clear hw; go_simp⟩) (by assumption) ?_
            (try simp only [Act.put, List.getElem_toArray, List.getElem_cons_succ, List.getElem_cons_zero, List.setIfInBounds_toArray, List.set_cons_zero, List.set_cons_succ])
            refine wpAnyH_take (i := 6) (v := .pointer (some ⟨b2, off2 + k * 5, none⟩)) rfl (by kernel_rfl) (by kernel_rfl) (by kernel_rfl) (fun _ _ _ h => nomatch h.1) (.inl ⟨by kernel_rfl, fun w hw => by clear hw; go_simp⟩) (by assumption) ?_
            (try simp only [Act.put, List.getElem_toArray, List.getElem_cons_succ, List.getElem_cons_zero, List.setIfInBounds_toArray, List.set_cons_zero, List.set_cons_succ])
            refine wpAnyH_take (i := 7) (v := .agg y.toArray) rfl (by kernel_rfl) (by kernel_rfl) (by kernel_rfl) (fun _ _ _ h => nomatch h.1) (yieldsIf_load_mid (by kernel_rfl) 95 (.tmp 23) rfl b2 _ rfl y _ (fun w h => h.2) hu rfl hiy) (by assumption) ?_
            (try simp only [Act.put, List.getElem_toArray, List.getElem_cons_succ, List.getElem_cons_zero, List.setIfInBounds_toArray, List.set_cons_zero, List.set_cons_succ])
            refine wpAnyH_take (i := 8) (v := .bool false) rfl (by kernel_rfl) (by kernel_rfl) (by kernel_rfl) (fun _ _ _ h => nomatch h.1) (.inl ⟨by kernel_rfl, fun w hw => by clear hw; go_simp⟩) (by assumption) ?_
            (try simp only [Act.put, List.getElem_toArray, List.getElem_cons_succ, List.getElem_cons_zero, List.setIfInBounds_toArray, List.set_cons_zero, List.set_cons_succ])
            refine wpAnyH_done (by kernel_rfl) ?_ _
            exact ⟨rfl, rfl, rfl⟩
          go_wp2_with fail
          go_roundw
          case rel => exact ⟨k + 1, by omega, by go_num, Lib.hid (HT.out.1.2 HXY.out), Lib.hid (hq2.out 1)⟩
          case measure => simp [intOf]; omega
        · have hne : ∀ W, (binOp .neq 95 (.agg x.toArray) (.agg y.toArray)).run Tryz.prog W = .ok (.bool true) W := fun W => by
            obtain ⟨b0, h1, h2⟩ := neq_struct eqSent (by decide) x y W fx fy
            cases b0 with
            | false => exact absurd (h2.1 rfl) hxy
            | true => exact h1
          have HXY : Hid (L ≠ X) := Lib.hid (fun h => hxy (HT.out.2 h))
          clear r1 r2 hc hc2 hb hb2 fx fy hi hk hl hx hxy
          go_wp2_with fail
          apply region_to
          · refine wp_region_held_drew (S := (fun w' => w'.rangeAt b (off + k * 5) x ∧ w'.rangeAt b2 (off2 + k * 5) y)) (by kernel_rfl) (HR1.out _ HWB.out.drew) (fun dd0 => ?_)
            refine wpAnyH_take (i := 0) (v := .slice (some ⟨b, off, none⟩) n c) rfl (by kernel_rfl) (by kernel_rfl) (by kernel_rfl) (fun _ _ _ h => nomatch h.1) (.inl ⟨by kernel_rfl, fun w hw => by clear hw; go_simp⟩) (by assumption) ?_
            (try simp only [Act.put, List.getElem_toArray, List.getElem_cons_zero, List.setIfInBounds_toArray, List.set_cons_zero, List.set_cons_succ])
            refine wpAnyH_take (i := 1) (v := .int .i64 (k : Int)) rfl (by kernel_rfl) (by kernel_rfl) (by kernel_rfl) (fun _ _ _ h => nomatch h.1) (.inl ⟨by kernel_rfl, fun w hw => by clear hw; go_simp⟩) (by assumption) ?_
            (try simp only [Act.put, List.getElem_toArray, List.getElem_cons_succ, List.getElem_cons_zero, List.setIfInBounds_toArray, List.set_cons_zero, List.set_cons_succ])
            refine wpAnyH_take (i := 2) (v := .pointer (some ⟨b, off + k * 5, none⟩)) rfl (by kernel_rfl) (by kernel_rfl) (by kernel_rfl) (fun _ _ _ h => nomatch h.1) (.inl ⟨by kernel_rfl, fun w hw => by clear hw; go_simp⟩) (by assumption) ?_
            (try simp only [Act.put, List.getElem_toArray, List.getElem_cons_succ, List.getElem_cons_zero, List.setIfInBounds_toArray, List.set_cons_zero, List.set_cons_succ])
            refine wpAnyH_take (i := 3) (v := .agg x.toArray) rfl (by kernel_rfl) (by kernel_rfl) (by kernel_rfl) (fun _ _ _ h => nomatch h.1) (yieldsIf_load_mid (by kernel_rfl) 95 (.tmp 19) rfl b _ rfl x _ (fun w h => h.1) hu rfl hix) (by assumption) ?_
            (try simp only [Act.put, List.getElem_toArray, List.getElem_cons_succ, List.getElem_cons_zero, List.setIfInBounds_toArray, List.set_cons_zero, List.set_cons_succ])
            refine wpAnyH_take (i := 4) (v := .slice (some ⟨b2, off2, none⟩) n c2) rfl (by kernel_rfl) (by kernel_rfl) (by kernel_rfl) (fun _ _ _ h => nomatch h.1) (.inl ⟨by kernel_rfl, fun w hw => by clear hw; go_simp⟩) (by assumption) ?_
            (try simp only [Act.put, List.getElem_toArray, List.getElem_cons_succ, List.getElem_cons_zero, List.setIfInBounds_toArray, List.set_cons_zero, List.set_cons_succ])
            refine wpAnyH_take (i := 5) (v := .int .i64 (k : Int)) rfl (by kernel_rfl) (by kernel_rfl) (by kernel_rfl) (fun _ _ _ h => nomatch h.1) (.inl ⟨by kernel_rfl, fun w hw => by clear hw; go_simp⟩) (by assumption) ?_
            (try simp only [Act.put, List.getElem_toArray, List.getElem_cons_succ, List.getElem_cons_zero, List.setIfInBounds_toArray, List.set_cons_zero, List.set_cons_succ])
            refine wpAnyH_take (i := 6) (v := .pointer (some ⟨b2, off2 + k * 5, none⟩)) rfl (by kernel_rfl) (by kernel_rfl) (by kernel_rfl) (fun _ _ _ h => nomatch h.1) (.inl ⟨by kernel_rfl, fun w hw => by clear hw; go_simp⟩) (by assumption) ?_
            (try simp only [Act.put, List.getElem_toArray, List.getElem_cons_succ, List.getElem_cons_zero, List.setIfInBounds_toArray, List.set_cons_zero, List.set_cons_succ])
            refine wpAnyH_take (i := 7) (v := .agg y.toArray) rfl (by kernel_rfl) (by kernel_rfl) (by kernel_rfl) (fun _ _ _ h => nomatch h.1) (yieldsIf_load_mid (by kernel_rfl) 95 (.tmp 23) rfl b2 _ rfl y _ (fun w h => h.2) hu rfl hiy) (by assumption) ?_
            (try simp only [Act.put, List.getElem_toArray, List.getElem_cons_succ, List.getElem_cons_zero, List.setIfInBounds_toArray, List.set_cons_zero, List.set_cons_succ])
            refine wpAnyH_take (i := 8) (v := .bool true) rfl (by kernel_rfl) (by kernel_rfl) (by kernel_rfl) (fun _ _ _ h => nomatch h.1) (.inl ⟨by kernel_rfl, fun w hw => by clear hw; go_simp⟩) (by assumption) ?_
            (try simp only [Act.put, List.getElem_toArray, List.getElem_cons_succ, List.getElem_cons_zero, List.setIfInBounds_toArray, List.set_cons_zero, List.set_cons_succ])
            refine wpAnyH_done (by kernel_rfl) ?_ _
            exact ⟨rfl, rfl, rfl⟩
          go_wp2_with fail
          go_ret
          exact ⟨⟨false, rfl, by simpa using HXY.out⟩, hq2.out 1⟩
      · have HE : Hid (L = X) := Lib.hid (by
          have := hE.out
          rwa [List.take_of_length_le (by rw [← HN.out]; omega), List.take_of_length_le (by rw [← HM.out]; omega)] at this)
        go_wp2_with fail
        go_ret
        exact ⟨⟨true, rfl, by simpa using HE.out⟩, hq.out⟩
  · have HNE : Hid (L ≠ X) := Lib.hid (by rintro rfl; omega)
    have hb : ((n : Int) != (m : Int)) = true := by rw [bne_iff_ne]; omega
    clear hn hm hr hr2 hL hX
    go_enter Tryz.func52, Tryz.ntmps52
    go_wp2_with fail
    go_ret
    exact ⟨⟨false, rfl, by simpa using HNE.out⟩, 0, rfl⟩

set_option maxRecDepth 100000 in
set_option maxHeartbeats 1600000 in
theorem sameCounted (A A2 : Option Addr) (n c m c2 : Nat) (L X : List (List Value)) (w : World) (hn : n = L.length) (hm : m = X.length) (hn4 : n ≤ 1000000) (hL : Things kCounted L) (hX : Things kCounted X) (hr : Rd w w.heap.size A L.flatten) (hr2 : Rd w w.heap.size A2 X.flatten) :
    Calls Tryz.prog 53 #[.slice A n c, .slice A2 m c2] w fun e w' => (∃ b : Bool, e = .returned (.bool b) ∧ (b = true ↔ L = X)) ∧ ∃ q, w' = w.drewN q := by
  by_cases hnm : n = m
  · subst hnm
    have HN := Lib.hid hn
    have HM := Lib.hid hm
    have HR := Lib.hid hr
    have HR2 := Lib.hid hr2
    have HL := Lib.hid hL
    have HX := Lib.hid hX
    have hk : kCounted.length = 5 := by decide
    clear hn hr hr2 hm hL hX
    go_enter Tryz.func53, Tryz.ntmps53
    go_wp2_with fail
    go_loopw [5] (fun i wr => ∃ k : Nat, k ≤ n ∧ i = .int .i64 (k : Int) ∧ Hid (L.take k = X.take k) ∧ Hid (∃ q, wr = w.drewN q)) (fun i _ => n - (intOf i).toNat)
    case atStart => exact ⟨0, by omega, rfl, Lib.hid rfl, Lib.hid ⟨0, rfl⟩⟩
    case round =>
      obtain ⟨k, hkn, rfl, hE, hq⟩ := hrel
      by_cases hlt : k < n
      · have hl : k < L.length := by rw [← HN.out]; exact hlt
        have hx : k < X.length := by rw [← HM.out]; exact hlt
        obtain ⟨b, off, rfl, hb, hc⟩ := HR.out.thing HL.out (by rw [hk]; decide) hl
        obtain ⟨b2, off2, rfl, hb2, hc2⟩ := HR2.out.thing HX.out (by rw [hk]; decide) hx
        have fx := HL.out _ (List.getElem_mem hl)
        have fy := HX.out _ (List.getElem_mem hx)
        have r1 := hc k hl
        have r2 := hc2 k hx
        rw [hk] at r1 r2
        have HT : Hid ((L.take (k + 1) = X.take (k + 1) ↔ L[k] = X[k]) ∧ (L = X → L[k] = X[k])) := Lib.hid (by
          refine ⟨?_, fun h => by subst h; rfl⟩
          rw [List.take_succ_eq_append_getElem hl, List.take_succ_eq_append_getElem hx, hE.out]
          exact ⟨fun h => by have := List.append_cancel_left h; injection this, fun h => by rw [h]⟩)
        generalize L[k] = x at fx r1 HT
        generalize X[k] = y at fy r2 HT
        have hi : (Tryz.prog.info? 98).map (·.size) = some 5 := by kernel_rfl
        have hu := Tryz.underlying98
        have hix : (Tryz.prog.info? 98).map (·.size) = some x.length := by rw [hi, fx.length, hk]
        have hiy : (Tryz.prog.info? 98).map (·.size) = some y.length := by rw [hi, fy.length, hk]
        have HR1 : Hid (∀ W, Below w.heap.size w W → W.rangeAt b (off + k * 5) x ∧ W.rangeAt b2 (off2 + k * 5) y) := Lib.hid (fun W hW => ⟨rangeAt_below r1 hb hW, rangeAt_below r2 hb2 hW⟩)
        have HWB : Hid (Below w.heap.size w wr) := Lib.hid (by obtain ⟨q0, hq0⟩ := hq.out; rw [hq0]; exact below_drewN (Below.refl _ _) _)
        have hq2 : Hid (∀ z, ∃ q, wr.drewN z = w.drewN q) := Lib.hid (fun z => by obtain ⟨q0, hq0⟩ := hq.out; rw [hq0]; exact ⟨_, World.drewN_drewN _ _ _⟩)
        have h1 : (0 : Int) ≤ (k : Int) := by omega
        have h2 : (k : Int) < (n : Int) := by omega
        by_cases hxy : x = y
        · have hne : ∀ W, (binOp .neq 98 (.agg x.toArray) (.agg y.toArray)).run Tryz.prog W = .ok (.bool false) W := fun W => by
            obtain ⟨b0, h1, h2⟩ := neq_struct eqCounted (by decide) x y W fx fy
            rw [h2.2 hxy] at h1
            exact h1
          have HXY := Lib.hid hxy
          clear r1 r2 hc hc2 hb hb2 fx fy hi hk hl hx hxy
          go_wp2_with fail
          apply region_to
          · refine wp_region_held_drew (S := (fun w' => w'.rangeAt b (off + k * 5) x ∧ w'.rangeAt b2 (off2 + k * 5) y)) (by kernel_rfl) (HR1.out _ HWB.out.drew) (fun dd0 => ?_)
            refine wpAnyH_take (i := 0) (v := .slice (some ⟨b, off, none⟩) n c) rfl (by kernel_rfl) (by kernel_rfl) (by kernel_rfl) (fun _ _ _ h => nomatch h.1) (.inl ⟨by kernel_rfl, fun w hw => by clear hw; go_simp⟩) (by assumption) ?_
            (try simp only [Act.put, List.getElem_toArray, List.getElem_cons_zero, List.setIfInBounds_toArray, List.set_cons_zero, List.set_cons_succ])
            refine wpAnyH_take (i := 1) (v := .int .i64 (k : Int)) rfl (by kernel_rfl) (by kernel_rfl) (by kernel_rfl) (fun _ _ _ h => nomatch h.1) (.inl ⟨by kernel_rfl, fun w hw => by clear hw; go_simp⟩) (by assumption) ?_
            (try simp only [Act.put, List.getElem_toArray, List.getElem_cons_succ, List.getElem_cons_zero, List.setIfInBounds_toArray, List.set_cons_zero, List.set_cons_succ])
            refine wpAnyH_take (i := 2) (v := .pointer (some ⟨b, off + k * 5, none⟩)) rfl (by kernel_rfl) (by kernel_rfl) (by kernel_rfl) (fun _ _ _ h => nomatch h.1) (.inl ⟨by kernel_rfl, fun w hw => by clear hw; go_simp⟩) (by assumption) ?_
            (try simp only [Act.put, List.getElem_toArray, List.getElem_cons_succ, List.getElem_cons_zero, List.setIfInBounds_toArray, List.set_cons_zero, List.set_cons_succ])
            refine wpAnyH_take (i := 3) (v := .agg x.toArray) rfl (by kernel_rfl) (by kernel_rfl) (by kernel_rfl) (fun _ _ _ h => nomatch h.1) (yieldsIf_load_mid (by kernel_rfl) 98 (.tmp 19) rfl b _ rfl x _ (fun w h => h.1) hu rfl hix) (by assumption) ?_
            (try simp only [Act.put, List.getElem_toArray, List.getElem_cons_succ, List.getElem_cons_zero, List.setIfInBounds_toArray, List.set_cons_zero, List.set_cons_succ])
            refine wpAnyH_take (i := 4) (v := .slice (some ⟨b2, off2, none⟩) n c2) rfl (by kernel_rfl) (by kernel_rfl) (by kernel_rfl) (fun _ _ _ h => nomatch h.1) (.inl ⟨by kernel_rfl, fun w hw => by clear hw; go_simp⟩) (by assumption) ?_
            (try simp only [Act.put, List.getElem_toArray, List.getElem_cons_succ, List.getElem_cons_zero, List.setIfInBounds_toArray, List.set_cons_zero, List.set_cons_succ])
            refine wpAnyH_take (i := 5) (v := .int .i64 (k : Int)) rfl (by kernel_rfl) (by kernel_rfl) (by kernel_rfl) (fun _ _ _ h => nomatch h.1) (.inl ⟨by kernel_rfl, fun w hw => by clear hw; go_simp⟩) (by assumption) ?_
            (try simp only [Act.put, List.getElem_toArray, List.getElem_cons_succ, List.getElem_cons_zero, List.setIfInBounds_toArray, List.set_cons_zero, List.set_cons_succ])
            refine wpAnyH_take (i := 6) (v := .pointer (some ⟨b2, off2 + k * 5, none⟩)) rfl (by kernel_rfl) (by kernel_rfl) (by kernel_rfl) (fun _ _ _ h => nomatch h.1) (.inl ⟨by kernel_rfl, fun w hw => by clear hw; go_simp⟩) (by assumption) ?_
            (try simp only [Act.put, List.getElem_toArray, List.getElem_cons_succ, List.getElem_cons_zero, List.setIfInBounds_toArray, List.set_cons_zero, List.set_cons_succ])
            refine wpAnyH_take (i := 7) (v := .agg y.toArray) rfl (by kernel_rfl) (by kernel_rfl) (by kernel_rfl) (fun _ _ _ h => nomatch h.1) (yieldsIf_load_mid (by kernel_rfl) 98 (.tmp 23) rfl b2 _ rfl y _ (fun w h => h.2) hu rfl hiy) (by assumption) ?_
            (try simp only [Act.put, List.getElem_toArray, List.getElem_cons_succ, List.getElem_cons_zero, List.setIfInBounds_toArray, List.set_cons_zero, List.set_cons_succ])
            refine wpAnyH_take (i := 8) (v := .bool false) rfl (by kernel_rfl) (by kernel_rfl) (by kernel_rfl) (fun _ _ _ h => nomatch h.1) (.inl ⟨by kernel_rfl, fun w hw => by clear hw; go_simp⟩) (by assumption) ?_
            (try simp only [Act.put, List.getElem_toArray, List.getElem_cons_succ, List.getElem_cons_zero, List.setIfInBounds_toArray, List.set_cons_zero, List.set_cons_succ])
            refine wpAnyH_done (by kernel_rfl) ?_ _
            exact ⟨rfl, rfl, rfl⟩
          go_wp2_with fail
          go_roundw
          case rel => exact ⟨k + 1, by omega, by go_num, Lib.hid (HT.out.1.2 HXY.out), Lib.hid (hq2.out 1)⟩
          case measure => simp [intOf]; omega
        · have hne : ∀ W, (binOp .neq 98 (.agg x.toArray) (.agg y.toArray)).run Tryz.prog W = .ok (.bool true) W := fun W => by
            obtain ⟨b0, h1, h2⟩ := neq_struct eqCounted (by decide) x y W fx fy
            cases b0 with
            | false => exact absurd (h2.1 rfl) hxy
            | true => exact h1
          have HXY : Hid (L ≠ X) := Lib.hid (fun h => hxy (HT.out.2 h))
          clear r1 r2 hc hc2 hb hb2 fx fy hi hk hl hx hxy
          go_wp2_with fail
          apply region_to
          · refine wp_region_held_drew (S := (fun w' => w'.rangeAt b (off + k * 5) x ∧ w'.rangeAt b2 (off2 + k * 5) y)) (by kernel_rfl) (HR1.out _ HWB.out.drew) (fun dd0 => ?_)
            refine wpAnyH_take (i := 0) (v := .slice (some ⟨b, off, none⟩) n c) rfl (by kernel_rfl) (by kernel_rfl) (by kernel_rfl) (fun _ _ _ h => nomatch h.1) (.inl ⟨by kernel_rfl, fun w hw => by clear hw; go_simp⟩) (by assumption) ?_
            (try simp only [Act.put, List.getElem_toArray, List.getElem_cons_zero, List.setIfInBounds_toArray, List.set_cons_zero, List.set_cons_succ])
            refine wpAnyH_take (i := 1) (v := .int .i64 (k : Int)) rfl (by kernel_rfl) (by kernel_rfl) (by kernel_rfl) (fun _ _ _ h => nomatch h.1) (.inl ⟨by kernel_rfl, fun w hw => by clear hw; go_simp⟩) (by assumption) ?_
            (try simp only [Act.put, List.getElem_toArray, List.getElem_cons_succ, List.getElem_cons_zero, List.setIfInBounds_toArray, List.set_cons_zero, List.set_cons_succ])
            refine wpAnyH_take (i := 2) (v := .pointer (some ⟨b, off + k * 5, none⟩)) rfl (by kernel_rfl) (by kernel_rfl) (by kernel_rfl) (fun _ _ _ h => nomatch h.1) (.inl ⟨by kernel_rfl, fun w hw => by clear hw; go_simp⟩) (by assumption) ?_
            (try simp only [Act.put, List.getElem_toArray, List.getElem_cons_succ, List.getElem_cons_zero, List.setIfInBounds_toArray, List.set_cons_zero, List.set_cons_succ])
            refine wpAnyH_take (i := 3) (v := .agg x.toArray) rfl (by kernel_rfl) (by kernel_rfl) (by kernel_rfl) (fun _ _ _ h => nomatch h.1) (yieldsIf_load_mid (by kernel_rfl) 98 (.tmp 19) rfl b _ rfl x _ (fun w h => h.1) hu rfl hix) (by assumption) ?_
            (try simp only [Act.put, List.getElem_toArray, List.getElem_cons_succ, List.getElem_cons_zero, List.setIfInBounds_toArray, List.set_cons_zero, List.set_cons_succ])
            refine wpAnyH_take (i := 4) (v := .slice (some ⟨b2, off2, none⟩) n c2) rfl (by kernel_rfl) (by kernel_rfl) (by kernel_rfl) (fun _ _ _ h => nomatch h.1) (.inl ⟨by kernel_rfl, fun w hw => by clear hw; go_simp⟩) (by assumption) ?_
            (try simp only [Act.put, List.getElem_toArray, List.getElem_cons_succ, List.getElem_cons_zero, List.setIfInBounds_toArray, List.set_cons_zero, List.set_cons_succ])
            refine wpAnyH_take (i := 5) (v := .int .i64 (k : Int)) rfl (by kernel_rfl) (by kernel_rfl) (by kernel_rfl) (fun _ _ _ h => nomatch h.1) (.inl ⟨by kernel_rfl, fun w hw => by clear hw; go_simp⟩) (by assumption) ?_
            (try simp only [Act.put, List.getElem_toArray, List.getElem_cons_succ, List.getElem_cons_zero, List.setIfInBounds_toArray, List.set_cons_zero, List.set_cons_succ])
            refine wpAnyH_take (i := 6) (v := .pointer (some ⟨b2, off2 + k * 5, none⟩)) rfl (by kernel_rfl) (by kernel_rfl) (by kernel_rfl) (fun _ _ _ h => nomatch h.1) (.inl ⟨by kernel_rfl, fun w hw => by clear hw; go_simp⟩) (by assumption) ?_
            (try simp only [Act.put, List.getElem_toArray, List.getElem_cons_succ, List.getElem_cons_zero, List.setIfInBounds_toArray, List.set_cons_zero, List.set_cons_succ])
            refine wpAnyH_take (i := 7) (v := .agg y.toArray) rfl (by kernel_rfl) (by kernel_rfl) (by kernel_rfl) (fun _ _ _ h => nomatch h.1) (yieldsIf_load_mid (by kernel_rfl) 98 (.tmp 23) rfl b2 _ rfl y _ (fun w h => h.2) hu rfl hiy) (by assumption) ?_
            (try simp only [Act.put, List.getElem_toArray, List.getElem_cons_succ, List.getElem_cons_zero, List.setIfInBounds_toArray, List.set_cons_zero, List.set_cons_succ])
            refine wpAnyH_take (i := 8) (v := .bool true) rfl (by kernel_rfl) (by kernel_rfl) (by kernel_rfl) (fun _ _ _ h => nomatch h.1) (.inl ⟨by kernel_rfl, fun w hw => by clear hw; go_simp⟩) (by assumption) ?_
            (try simp only [Act.put, List.getElem_toArray, List.getElem_cons_succ, List.getElem_cons_zero, List.setIfInBounds_toArray, List.set_cons_zero, List.set_cons_succ])
            refine wpAnyH_done (by kernel_rfl) ?_ _
            exact ⟨rfl, rfl, rfl⟩
          go_wp2_with fail
          go_ret
          exact ⟨⟨false, rfl, by simpa using HXY.out⟩, hq2.out 1⟩
      · have HE : Hid (L = X) := Lib.hid (by
          have := hE.out
          rwa [List.take_of_length_le (by rw [← HN.out]; omega), List.take_of_length_le (by rw [← HM.out]; omega)] at this)
        go_wp2_with fail
        go_ret
        exact ⟨⟨true, rfl, by simpa using HE.out⟩, hq.out⟩
  · have HNE : Hid (L ≠ X) := Lib.hid (by rintro rfl; omega)
    have hb : ((n : Int) != (m : Int)) = true := by rw [bne_iff_ne]; omega
    clear hn hm hr hr2 hL hX
    go_enter Tryz.func53, Tryz.ntmps53
    go_wp2_with fail
    go_ret
    exact ⟨⟨false, rfl, by simpa using HNE.out⟩, 0, rfl⟩

set_option maxRecDepth 100000 in
set_option maxHeartbeats 1600000 in
theorem sameTotal (A A2 : Option Addr) (n c m c2 : Nat) (L X : List (List Value)) (w : World) (hn : n = L.length) (hm : m = X.length) (hn4 : n ≤ 1000000) (hL : Things kTotal L) (hX : Things kTotal X) (hr : Rd w w.heap.size A L.flatten) (hr2 : Rd w w.heap.size A2 X.flatten) :
    Calls Tryz.prog 54 #[.slice A n c, .slice A2 m c2] w fun e w' => (∃ b : Bool, e = .returned (.bool b) ∧ (b = true ↔ L = X)) ∧ ∃ q, w' = w.drewN q := by
  by_cases hnm : n = m
  · subst hnm
    have HN := Lib.hid hn
    have HM := Lib.hid hm
    have HR := Lib.hid hr
    have HR2 := Lib.hid hr2
    have HL := Lib.hid hL
    have HX := Lib.hid hX
    have hk : kTotal.length = 6 := by decide
    clear hn hr hr2 hm hL hX
    go_enter Tryz.func54, Tryz.ntmps54
    go_wp2_with fail
    go_loopw [5] (fun i wr => ∃ k : Nat, k ≤ n ∧ i = .int .i64 (k : Int) ∧ Hid (L.take k = X.take k) ∧ Hid (∃ q, wr = w.drewN q)) (fun i _ => n - (intOf i).toNat)
    case atStart => exact ⟨0, by omega, rfl, Lib.hid rfl, Lib.hid ⟨0, rfl⟩⟩
    case round =>
      obtain ⟨k, hkn, rfl, hE, hq⟩ := hrel
      by_cases hlt : k < n
      · have hl : k < L.length := by rw [← HN.out]; exact hlt
        have hx : k < X.length := by rw [← HM.out]; exact hlt
        obtain ⟨b, off, rfl, hb, hc⟩ := HR.out.thing HL.out (by rw [hk]; decide) hl
        obtain ⟨b2, off2, rfl, hb2, hc2⟩ := HR2.out.thing HX.out (by rw [hk]; decide) hx
        have fx := HL.out _ (List.getElem_mem hl)
        have fy := HX.out _ (List.getElem_mem hx)
        have r1 := hc k hl
        have r2 := hc2 k hx
        rw [hk] at r1 r2
        have HT : Hid ((L.take (k + 1) = X.take (k + 1) ↔ L[k] = X[k]) ∧ (L = X → L[k] = X[k])) := Lib.hid (by
          refine ⟨?_, fun h => by subst h; rfl⟩
          rw [List.take_succ_eq_append_getElem hl, List.take_succ_eq_append_getElem hx, hE.out]
          exact ⟨fun h => by have := List.append_cancel_left h; injection this, fun h => by rw [h]⟩)
        generalize L[k] = x at fx r1 HT
        generalize X[k] = y at fy r2 HT
        have hi : (Tryz.prog.info? 101).map (·.size) = some 6 := by kernel_rfl
        have hu := Tryz.underlying101
        have hix : (Tryz.prog.info? 101).map (·.size) = some x.length := by rw [hi, fx.length, hk]
        have hiy : (Tryz.prog.info? 101).map (·.size) = some y.length := by rw [hi, fy.length, hk]
        have HR1 : Hid (∀ W, Below w.heap.size w W → W.rangeAt b (off + k * 6) x ∧ W.rangeAt b2 (off2 + k * 6) y) := Lib.hid (fun W hW => ⟨rangeAt_below r1 hb hW, rangeAt_below r2 hb2 hW⟩)
        have HWB : Hid (Below w.heap.size w wr) := Lib.hid (by obtain ⟨q0, hq0⟩ := hq.out; rw [hq0]; exact below_drewN (Below.refl _ _) _)
        have hq2 : Hid (∀ z, ∃ q, wr.drewN z = w.drewN q) := Lib.hid (fun z => by obtain ⟨q0, hq0⟩ := hq.out; rw [hq0]; exact ⟨_, World.drewN_drewN _ _ _⟩)
        have h1 : (0 : Int) ≤ (k : Int) := by omega
        have h2 : (k : Int) < (n : Int) := by omega
        by_cases hxy : x = y
        · have hne : ∀ W, (binOp .neq 101 (.agg x.toArray) (.agg y.toArray)).run Tryz.prog W = .ok (.bool false) W := fun W => by
            obtain ⟨b0, h1, h2⟩ := neq_struct eqTotal (by decide) x y W fx fy
            rw [h2.2 hxy] at h1
            exact h1
          have HXY := Lib.hid hxy
          clear r1 r2 hc hc2 hb hb2 fx fy hi hk hl hx hxy
          go_wp2_with fail
          apply region_to
          · refine wp_region_held_drew (S := (fun w' => w'.rangeAt b (off + k * 6) x ∧ w'.rangeAt b2 (off2 + k * 6) y)) (by kernel_rfl) (HR1.out _ HWB.out.drew) (fun dd0 => ?_)
            refine wpAnyH_take (i := 0) (v := .slice (some ⟨b, off, none⟩) n c) rfl (by kernel_rfl) (by kernel_rfl) (by kernel_rfl) (fun _ _ _ h => nomatch h.1) (.inl ⟨by kernel_rfl, fun w hw => by clear hw; go_simp⟩) (by assumption) ?_
            (try simp only [Act.put, List.getElem_toArray, List.getElem_cons_zero, List.setIfInBounds_toArray, List.set_cons_zero, List.set_cons_succ])
            refine wpAnyH_take (i := 1) (v := .int .i64 (k : Int)) rfl (by kernel_rfl) (by kernel_rfl) (by kernel_rfl) (fun _ _ _ h => nomatch h.1) (.inl ⟨by kernel_rfl, fun w hw => by clear hw; go_simp⟩) (by assumption) ?_
            (try simp only [Act.put, List.getElem_toArray, List.getElem_cons_succ, List.getElem_cons_zero, List.setIfInBounds_toArray, List.set_cons_zero, List.set_cons_succ])
            refine wpAnyH_take (i := 2) (v := .pointer (some ⟨b, off + k * 6, none⟩)) rfl (by kernel_rfl) (by kernel_rfl) (by kernel_rfl) (fun _ _ _ h => nomatch h.1) (.inl ⟨by kernel_rfl, fun w hw => by clear hw; go_simp⟩) (by assumption) ?_
            (try simp only [Act.put, List.getElem_toArray, List.getElem_cons_succ, List.getElem_cons_zero, List.setIfInBounds_toArray, List.set_cons_zero, List.set_cons_succ])
            refine wpAnyH_take (i := 3) (v := .agg x.toArray) rfl (by kernel_rfl) (by kernel_rfl) (by kernel_rfl) (fun _ _ _ h => nomatch h.1) (yieldsIf_load_mid (by kernel_rfl) 101 (.tmp 19) rfl b _ rfl x _ (fun w h => h.1) hu rfl hix) (by assumption) ?_
            (try simp only [Act.put, List.getElem_toArray, List.getElem_cons_succ, List.getElem_cons_zero, List.setIfInBounds_toArray, List.set_cons_zero, List.set_cons_succ])
            refine wpAnyH_take (i := 4) (v := .slice (some ⟨b2, off2, none⟩) n c2) rfl (by kernel_rfl) (by kernel_rfl) (by kernel_rfl) (fun _ _ _ h => nomatch h.1) (.inl ⟨by kernel_rfl, fun w hw => by clear hw; go_simp⟩) (by assumption) ?_
            (try simp only [Act.put, List.getElem_toArray, List.getElem_cons_succ, List.getElem_cons_zero, List.setIfInBounds_toArray, List.set_cons_zero, List.set_cons_succ])
            refine wpAnyH_take (i := 5) (v := .int .i64 (k : Int)) rfl (by kernel_rfl) (by kernel_rfl) (by kernel_rfl) (fun _ _ _ h => nomatch h.1) (.inl ⟨by kernel_rfl, fun w hw => by clear hw; go_simp⟩) (by assumption) ?_
            (try simp only [Act.put, List.getElem_toArray, List.getElem_cons_succ, List.getElem_cons_zero, List.setIfInBounds_toArray, List.set_cons_zero, List.set_cons_succ])
            refine wpAnyH_take (i := 6) (v := .pointer (some ⟨b2, off2 + k * 6, none⟩)) rfl (by kernel_rfl) (by kernel_rfl) (by kernel_rfl) (fun _ _ _ h => nomatch h.1) (.inl ⟨by kernel_rfl, fun w hw => by clear hw; go_simp⟩) (by assumption) ?_
            (try simp only [Act.put, List.getElem_toArray, List.getElem_cons_succ, List.getElem_cons_zero, List.setIfInBounds_toArray, List.set_cons_zero, List.set_cons_succ])
            refine wpAnyH_take (i := 7) (v := .agg y.toArray) rfl (by kernel_rfl) (by kernel_rfl) (by kernel_rfl) (fun _ _ _ h => nomatch h.1) (yieldsIf_load_mid (by kernel_rfl) 101 (.tmp 23) rfl b2 _ rfl y _ (fun w h => h.2) hu rfl hiy) (by assumption) ?_
            (try simp only [Act.put, List.getElem_toArray, List.getElem_cons_succ, List.getElem_cons_zero, List.setIfInBounds_toArray, List.set_cons_zero, List.set_cons_succ])
            refine wpAnyH_take (i := 8) (v := .bool false) rfl (by kernel_rfl) (by kernel_rfl) (by kernel_rfl) (fun _ _ _ h => nomatch h.1) (.inl ⟨by kernel_rfl, fun w hw => by clear hw; go_simp⟩) (by assumption) ?_
            (try simp only [Act.put, List.getElem_toArray, List.getElem_cons_succ, List.getElem_cons_zero, List.setIfInBounds_toArray, List.set_cons_zero, List.set_cons_succ])
            refine wpAnyH_done (by kernel_rfl) ?_ _
            exact ⟨rfl, rfl, rfl⟩
          go_wp2_with fail
          go_roundw
          case rel => exact ⟨k + 1, by omega, by go_num, Lib.hid (HT.out.1.2 HXY.out), Lib.hid (hq2.out 1)⟩
          case measure => simp [intOf]; omega
        · have hne : ∀ W, (binOp .neq 101 (.agg x.toArray) (.agg y.toArray)).run Tryz.prog W = .ok (.bool true) W := fun W => by
            obtain ⟨b0, h1, h2⟩ := neq_struct eqTotal (by decide) x y W fx fy
            cases b0 with
            | false => exact absurd (h2.1 rfl) hxy
            | true => exact h1
          have HXY : Hid (L ≠ X) := Lib.hid (fun h => hxy (HT.out.2 h))
          clear r1 r2 hc hc2 hb hb2 fx fy hi hk hl hx hxy
          go_wp2_with fail
          apply region_to
          · refine wp_region_held_drew (S := (fun w' => w'.rangeAt b (off + k * 6) x ∧ w'.rangeAt b2 (off2 + k * 6) y)) (by kernel_rfl) (HR1.out _ HWB.out.drew) (fun dd0 => ?_)
            refine wpAnyH_take (i := 0) (v := .slice (some ⟨b, off, none⟩) n c) rfl (by kernel_rfl) (by kernel_rfl) (by kernel_rfl) (fun _ _ _ h => nomatch h.1) (.inl ⟨by kernel_rfl, fun w hw => by clear hw; go_simp⟩) (by assumption) ?_
            (try simp only [Act.put, List.getElem_toArray, List.getElem_cons_zero, List.setIfInBounds_toArray, List.set_cons_zero, List.set_cons_succ])
            refine wpAnyH_take (i := 1) (v := .int .i64 (k : Int)) rfl (by kernel_rfl) (by kernel_rfl) (by kernel_rfl) (fun _ _ _ h => nomatch h.1) (.inl ⟨by kernel_rfl, fun w hw => by clear hw; go_simp⟩) (by assumption) ?_
            (try simp only [Act.put, List.getElem_toArray, List.getElem_cons_succ, List.getElem_cons_zero, List.setIfInBounds_toArray, List.set_cons_zero, List.set_cons_succ])
            refine wpAnyH_take (i := 2) (v := .pointer (some ⟨b, off + k * 6, none⟩)) rfl (by kernel_rfl) (by kernel_rfl) (by kernel_rfl) (fun _ _ _ h => nomatch h.1) (.inl ⟨by kernel_rfl, fun w hw => by clear hw; go_simp⟩) (by assumption) ?_
            (try simp only [Act.put, List.getElem_toArray, List.getElem_cons_succ, List.getElem_cons_zero, List.setIfInBounds_toArray, List.set_cons_zero, List.set_cons_succ])
            refine wpAnyH_take (i := 3) (v := .agg x.toArray) rfl (by kernel_rfl) (by kernel_rfl) (by kernel_rfl) (fun _ _ _ h => nomatch h.1) (yieldsIf_load_mid (by kernel_rfl) 101 (.tmp 19) rfl b _ rfl x _ (fun w h => h.1) hu rfl hix) (by assumption) ?_
            (try simp only [Act.put, List.getElem_toArray, List.getElem_cons_succ, List.getElem_cons_zero, List.setIfInBounds_toArray, List.set_cons_zero, List.set_cons_succ])
            refine wpAnyH_take (i := 4) (v := .slice (some ⟨b2, off2, none⟩) n c2) rfl (by kernel_rfl) (by kernel_rfl) (by kernel_rfl) (fun _ _ _ h => nomatch h.1) (.inl ⟨by kernel_rfl, fun w hw => by clear hw; go_simp⟩) (by assumption) ?_
            (try simp only [Act.put, List.getElem_toArray, List.getElem_cons_succ, List.getElem_cons_zero, List.setIfInBounds_toArray, List.set_cons_zero, List.set_cons_succ])
            refine wpAnyH_take (i := 5) (v := .int .i64 (k : Int)) rfl (by kernel_rfl) (by kernel_rfl) (by kernel_rfl) (fun _ _ _ h => nomatch h.1) (.inl ⟨by kernel_rfl, fun w hw => by clear hw; go_simp⟩) (by assumption) ?_
            (try simp only [Act.put, List.getElem_toArray, List.getElem_cons_succ, List.getElem_cons_zero, List.setIfInBounds_toArray, List.set_cons_zero, List.set_cons_succ])
            refine wpAnyH_take (i := 6) (v := .pointer (some ⟨b2, off2 + k * 6, none⟩)) rfl (by kernel_rfl) (by kernel_rfl) (by kernel_rfl) (fun _ _ _ h => nomatch h.1) (.inl ⟨by kernel_rfl, fun w hw => by clear hw; go_simp⟩) (by assumption) ?_
            (try simp only [Act.put, List.getElem_toArray, List.getElem_cons_succ, List.getElem_cons_zero, List.setIfInBounds_toArray, List.set_cons_zero, List.set_cons_succ])
            refine wpAnyH_take (i := 7) (v := .agg y.toArray) rfl (by kernel_rfl) (by kernel_rfl) (by kernel_rfl) (fun _ _ _ h => nomatch h.1) (yieldsIf_load_mid (by kernel_rfl) 101 (.tmp 23) rfl b2 _ rfl y _ (fun w h => h.2) hu rfl hiy) (by assumption) ?_
            (try simp only [Act.put, List.getElem_toArray, List.getElem_cons_succ, List.getElem_cons_zero, List.setIfInBounds_toArray, List.set_cons_zero, List.set_cons_succ])
            refine wpAnyH_take (i := 8) (v := .bool true) rfl (by kernel_rfl) (by kernel_rfl) (by kernel_rfl) (fun _ _ _ h => nomatch h.1) (.inl ⟨by kernel_rfl, fun w hw => by clear hw; go_simp⟩) (by assumption) ?_
            (try simp only [Act.put, List.getElem_toArray, List.getElem_cons_succ, List.getElem_cons_zero, List.setIfInBounds_toArray, List.set_cons_zero, List.set_cons_succ])
            refine wpAnyH_done (by kernel_rfl) ?_ _
            exact ⟨rfl, rfl, rfl⟩
          go_wp2_with fail
          go_ret
          exact ⟨⟨false, rfl, by simpa using HXY.out⟩, hq2.out 1⟩
      · have HE : Hid (L = X) := Lib.hid (by
          have := hE.out
          rwa [List.take_of_length_le (by rw [← HN.out]; omega), List.take_of_length_le (by rw [← HM.out]; omega)] at this)
        go_wp2_with fail
        go_ret
        exact ⟨⟨true, rfl, by simpa using HE.out⟩, hq.out⟩
  · have HNE : Hid (L ≠ X) := Lib.hid (by rintro rfl; omega)
    have hb : ((n : Int) != (m : Int)) = true := by rw [bne_iff_ne]; omega
    clear hn hm hr hr2 hL hX
    go_enter Tryz.func54, Tryz.ntmps54
    go_wp2_with fail
    go_ret
    exact ⟨⟨false, rfl, by simpa using HNE.out⟩, 0, rfl⟩

end Go.Proofs.YtjphjblcahadkaaGreat
