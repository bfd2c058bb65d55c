/-
  37E LAW LayoutBins, over the contracts. (By wip/tools/gen_bins10.py.)
-/
import Derived.Test.YtejlpmjgdaippaaYCon
import Derived.Test.YtejlpmjgdaippaaYRow
import Derived.Test.YtejlpmjgdaippaaYInv
import Derived.Test.YtejlpmjgdaippaaHSmall
import Derived.Test.YtejlpmjgdaippaaHBoth
import Derived.Test.YtejlpmjgdaippaaHA
import Derived.Deep.CutBlock
import Derived.BigQuiet
namespace Go.Proofs.Ytejlpmjgdaippaa.layoutBins
set_option linter.unusedVariables false
open Go.RowKit
open Pl (firstG findG putG)

set_option maxRecDepth 100000 in
set_option maxHeartbeats 12800000 in
theorem walk (C : Cons) (A1 : Option Addr) (n1 c1 : Nat) (LZ : List (List Value)) (A2 : Option Addr) (n2 c2 : Nat) (LB : List (List Value)) (w : World) (hz : LIn kZone w (.slice A1 n1 c1) A1 n1 c1 LZ) (hb : LIn kBin w (.slice A2 n2 c2) A2 n2 c2 LB) :
    Calls Try.prog 6 #[.slice A1 n1 c1, .slice A2 n2 c2] w fun e w' => e = .returned (.bool true) ∧ Below w.heap.size w w' := by
  have HCO := Lib.hid C
  have HAW : Hid (∀ W, Calls Try.prog 11 #[] W fun e w' => e = .returned (.bool true) ∧ Below W.heap.size W w') := Lib.hid (fun W => awake_any C W)
  have huh := Try.underlying37
  have huz := Try.underlying39
  have hub := Try.underlying41
  have HSH : Hid (∀ a : Hs, (Try.prog.info? 37).map (·.size) = some a.cells.size) := Lib.hid (fun a => by kernel_rfl)
  have HSHL : Hid (∀ a : Hs, (Try.prog.info? 37).map (·.size) = some a.cells.toList.length) := Lib.hid (fun a => by kernel_rfl)
  have H1C : Hid (∀ a : Hs, a.cells.all (·.oneCell') = true) := Lib.hid (fun a => by simp [Hs.cells, Value.oneCell'])
  have HSZ : Hid (∀ y, Fits kZone y → (Try.prog.info? 39).map (·.size) = some y.length) := Lib.hid (fun y hy => by rw [show (Try.prog.info? 39).map (·.size) = some 2 from by kernel_rfl, hy.length]; rfl)
  have HSB : Hid (∀ y, Fits kBin y → (Try.prog.info? 41).map (·.size) = some y.length) := Lib.hid (fun y hy => by rw [show (Try.prog.info? 41).map (·.size) = some 8 from by kernel_rfl, hy.length]; rfl)
  have hn1 : n1 ≤ 9223372036854775807 := Nat.le_trans hz.2.2.1 hz.2.2.2.1
  have hn2 : n2 ≤ 9223372036854775807 := Nat.le_trans hb.2.2.1 hb.2.2.2.1
  have HLZ := Lib.hid hz
  have HLB := Lib.hid hb
  have HST : Hid (BInv w hsN (fun _ => []) (w.alloc (.cells Hs.zero 37))) := Lib.hid (BInv.start w)
  clear hz hb C
  go_enter Try.func6, Try.ntmps6
  go_upto_block 0 with fail
  go_cut [6, 7, 8] from 17 to 38 (fun _ _ _ wx => ∃ (a : Hs) (L : Nat → List (List Value)), Hid (BInv w a L wx ∧ L 3 = []))
  case first =>
    go_wp2_with fail
    go_loopw [6] (fun i wr => ∃ (k : Nat) (a : Hs) (L : Nat → List (List Value)), k ≤ n1 ∧ k ≤ 100 ∧ i = .int .i64 (k : Int) ∧ Hid (BInv w a L wr ∧ L 3 = [])) (fun i _ => n1 - (intOf i).toNat)
    case atStart => exact ⟨0, hsN, (fun _ => []), by omega, by omega, rfl, Lib.hid ⟨HST.out, rfl⟩⟩
    case round =>
      obtain ⟨k, a, L, hk, hk2, rfl, HI⟩ := hrel
      have hcase : (k < n1 ∧ k < 100) ∨ (k < n1 ∧ ¬ k < 100) ∨ ¬ k < n1 := by omega
      rcases hcase with ⟨hlt, hlt2⟩ | ⟨hlt, hlt2⟩ | hlt
      case inr.inl => go_wp2_with fail; go_meet; exact ⟨a, L, HI⟩
      case inr.inr => go_wp2_with fail; go_meet; exact ⟨a, L, HI⟩
      have hkl : k < LZ.length := by rw [← HLZ.out.2.1]; exact hlt
      obtain ⟨b, off, rfl, hb, hc⟩ := HLZ.out.2.2.2.2.2.2.thing HLZ.out.2.2.2.2.1 (by decide) hkl
      have fe := HLZ.out.2.2.2.2.1 _ (List.getElem_mem hkl)
      have me := HLZ.out.2.2.2.2.2.1 _ (List.getElem_mem hkl)
      have r0 := hc k hkl
      rw [show kZone.length = 2 from rfl] at r0
      obtain ⟨e, he⟩ : ∃ e, LZ[k] = e := ⟨_, rfl⟩
      rw [he] at fe r0 me
      have HFE := Lib.hid fe
      have HEL := Lib.hid (HSZ.out e fe)
      have HLX : Hid (∀ W, Below w.heap.size w W → W.rangeAt b (off + k * 2) e) := Lib.hid (fun W hW => rangeAt_below r0 hb hW)
      have h1 : (0 : Int) ≤ (k : Int) := by omega
      have h2 : (k : Int) < (n1 : Int) := by omega
      have h3 : (k : Int) < 100 := by omega
      have h4 : (k : Int) ≤ 9223372036854775806 := by omega
      have HXE := Lib.hid (zone_cells HFE.out)
      have HM1 : Hid ((codeOf e).size ≤ maxLen ∧ (siteZ e).size ≤ maxLen) := Lib.hid (by
        rw [HXE.out] at me
        exact ⟨me (.string (codeOf e)) (by simp), me (.string (siteZ e)) (by simp)⟩)
      obtain ⟨j, hj⟩ : ∃ j, addZE (L 2) e = j := ⟨_, rfl⟩
      have HJ := Lib.hid hj
      obtain ⟨l, hl⟩ : ∃ l, putG ordZone (L 2) e = l := ⟨_, rfl⟩
      have HL := Lib.hid hl
      have HAD : Hid (∀ W, Below wr.heap.size wr W → Calls Try.prog 13 #[.agg a.cells, .agg e.toArray] W (fun e' W' => Below W.heap.size W W' ∧ ∃ p : Hs, e' = .returned (.tuple #[.agg p.cells, .int .i64 (j : Nat)]) ∧ PutK 39 2 2 j l a p W.heap.size W')) := Lib.hid (fun W hW => by
        have hI := HI.out.1.below hW
        have := HCO.out.addz a L (codeOf e) (siteZ e) W hI.ht (by rw [(hI.ht 2 (by decide)).1]; exact Nat.le_trans hI.zn (by decide)) (hI.caps 2 (by decide)) HM1.out.1 HM1.out.2
        rw [show #[Value.string (codeOf e), .string (siteZ e)] = e.toArray from congrArg List.toArray HXE.out.symm, ← HXE.out, hj, hl] at this
        exact this.mono fun e' W' h => h.k)
      clear hj hl
      clear hc r0 he fe me hb
      have ST7 : Hid (∀ W, Below wr.heap.size wr W → W.rangeAt w.heap.size 0 a.cells.toList ∧ W.rangeAt b (off + k * 2) e) := Lib.hid (fun W hW => ⟨range_row0 (HI.out.1.below hW).box, HLX.out W (HI.out.1.below hW).bel⟩)
      have HSW : Hid (w.heap.size < wr.heap.size) := Lib.hid (HI.out.1).sz
      go_wp2_with fail
      apply region_to2 (R := fun g (p : Hs) W => Hid (Below wr.heap.size wr W ∧ wr.heap.size ≤ g ∧ W.heap[g]? = some (.cells p.cells 37 (0, 0)) ∧ PutK 39 2 2 j l a p wr.heap.size W))
      · refine wp_region_held_drew (S := (fun w' => w'.rangeAt w.heap.size 0 a.cells.toList ∧ w'.rangeAt b (off + k * 2) e)) (by kernel_rfl) (ST7.out _ (Below.refl wr.heap.size wr).drew) (fun dd0 => ?_)
        refine wpAnyH_take (i := 0) (v := .agg a.cells) rfl (by kernel_rfl) (by kernel_rfl) (by kernel_rfl) (fun _ _ _ h => nomatch h.1) (yieldsIf_load_mid (by kernel_rfl) 37 (.tmp 5) rfl w.heap.size (0) rfl a.cells.toList _ (fun w h => h.1) huh rfl (HSHL.out _)) (by assumption) ?_
        (try simp only [Act.put, List.getElem_toArray, List.getElem_cons_zero, List.setIfInBounds_toArray, List.set_cons_zero, List.set_cons_succ])
        refine wpAnyH_take (i := 1) (v := .slice (some ⟨b, off, none⟩) n1 c1) rfl (by kernel_rfl) (by kernel_rfl) (by kernel_rfl) (fun _ _ _ h => nomatch h.1) (.inl ⟨by kernel_rfl, fun w hw => by clear hw; go_simp⟩) (by assumption) ?_
        (try simp only [Act.put, List.getElem_toArray, List.getElem_cons_succ, List.getElem_cons_zero, List.setIfInBounds_toArray, List.set_cons_zero, List.set_cons_succ])
        refine wpAnyH_take (i := 2) (v := .int .i64 (k : Int)) rfl (by kernel_rfl) (by kernel_rfl) (by kernel_rfl) (fun _ _ _ h => nomatch h.1) (.inl ⟨by kernel_rfl, fun w hw => by clear hw; go_simp⟩) (by assumption) ?_
        (try simp only [Act.put, List.getElem_toArray, List.getElem_cons_succ, List.getElem_cons_zero, List.setIfInBounds_toArray, List.set_cons_zero, List.set_cons_succ])
        refine wpAnyH_take (i := 3) (v := .pointer (some ⟨b, off + k * 2, none⟩)) rfl (by kernel_rfl) (by kernel_rfl) (by kernel_rfl) (fun _ _ _ h => nomatch h.1) (.inl ⟨by kernel_rfl, fun w hw => by clear hw; go_simp⟩) (by assumption) ?_
        (try simp only [Act.put, List.getElem_toArray, List.getElem_cons_succ, List.getElem_cons_zero, List.setIfInBounds_toArray, List.set_cons_zero, List.set_cons_succ])
        refine wpAnyH_take (i := 4) (v := .agg e.toArray) rfl (by kernel_rfl) (by kernel_rfl) (by kernel_rfl) (fun _ _ _ h => nomatch h.1) (yieldsIf_load_mid (by kernel_rfl) 39 (.tmp 31) rfl b (off + k * 2) rfl e _ (fun w h => h.2) huz rfl HEL.out) (by assumption) ?_
        (try simp only [Act.put, List.getElem_toArray, List.getElem_cons_succ, List.getElem_cons_zero, List.setIfInBounds_toArray, List.set_cons_zero, List.set_cons_succ])
        refine wpAnyH_ready (rs := [5, 9]) (by kernel_rfl) (by simp) ?_
        refine AllReadyH.cons rfl (fun K hK => ?_) (AllReadyH.cons rfl (fun K hK => ?_) AllReadyH.nil)
        · go_simp
          refine (HAD.out _ (Below.refl wr.heap.size wr).drew).mono ?_
          rintro e' w2 ⟨hb2, p, rfl, hp⟩
          have H2 : Hid (Below wr.heap.size wr w2) := Lib.hid ((Below.refl wr.heap.size wr).drew.trans hb2)
          refine hK.out _ _ (ST7.out _ H2.out) (fun _ => ?_)
          clear hK K
          (try simp only [Act.put, List.getElem_toArray, List.getElem_cons_succ, List.getElem_cons_zero, List.setIfInBounds_toArray, List.set_cons_zero, List.set_cons_succ])
          refine wpAnyH_take (i := 6) (v := .tuple #[.agg p.cells, .int .i64 (j : Int)]) rfl (by kernel_rfl) (by kernel_rfl) (by kernel_rfl) (fun _ _ _ h => nomatch h.1) (.inl ⟨by kernel_rfl, fun w hw => by clear hw; go_simp⟩) (by assumption) ?_
          (try simp only [Act.put, List.getElem_toArray, List.getElem_cons_succ, List.getElem_cons_zero, List.setIfInBounds_toArray, List.set_cons_zero, List.set_cons_succ])
          refine wpAnyH_take (i := 7) (v := .agg p.cells) rfl (by kernel_rfl) (by kernel_rfl) (by kernel_rfl) (fun _ _ _ h => nomatch h.1) (.inl ⟨by kernel_rfl, fun w hw => by clear hw; go_simp⟩) (by assumption) ?_
          (try simp only [Act.put, List.getElem_toArray, List.getElem_cons_succ, List.getElem_cons_zero, List.setIfInBounds_toArray, List.set_cons_zero, List.set_cons_succ])
          refine wpAnyH_take (i := 8) (v := .int .i64 (j : Int)) rfl (by kernel_rfl) (by kernel_rfl) (by kernel_rfl) (fun _ _ _ h => nomatch h.1) (.inl ⟨by kernel_rfl, fun w hw => by clear hw; go_simp⟩) (by assumption) ?_
          (try simp only [Act.put, List.getElem_toArray, List.getElem_cons_succ, List.getElem_cons_zero, List.setIfInBounds_toArray, List.set_cons_zero, List.set_cons_succ])
          refine wpAnyH_ready (rs := [9]) (by kernel_rfl) (by simp) ?_
          refine AllReadyH.cons rfl (fun K hK => ?_) AllReadyH.nil
          go_simp
          have hal : Below wr.heap.size wr (w2.alloc (.cells #[.slice none 0 0, .slice none 0 0, .slice none 0 0, .slice none 0 0, .slice none 0 0, .slice none 0 0, .slice none 0 0, .slice none 0 0, .slice none 0 0, .slice none 0 0, .slice none 0 0, .slice none 0 0, .slice none 0 0, .slice none 0 0, .int .i64 0] 37)) := H2.out.alloc H2.out.size _
          have hbx := heap_alloc_new w2 (.cells #[.slice none 0 0, .slice none 0 0, .slice none 0 0, .slice none 0 0, .slice none 0 0, .slice none 0 0, .slice none 0 0, .slice none 0 0, .slice none 0 0, .slice none 0 0, .slice none 0 0, .slice none 0 0, .slice none 0 0, .slice none 0 0, .int .i64 0] 37)
          obtain ⟨g, hg⟩ : ∃ g, g = w2.heap.size := ⟨_, rfl⟩
          have HGW : Hid (wr.heap.size ≤ g) := Lib.hid (by rw [hg]; exact H2.out.size)
          obtain ⟨w3, hw3⟩ : ∃ w3, w3 = w2.alloc (.cells #[.slice none 0 0, .slice none 0 0, .slice none 0 0, .slice none 0 0, .slice none 0 0, .slice none 0 0, .slice none 0 0, .slice none 0 0, .slice none 0 0, .slice none 0 0, .slice none 0 0, .slice none 0 0, .slice none 0 0, .slice none 0 0, .int .i64 0] 37) := ⟨_, rfl⟩
          have HOP : Hid (PutK 39 2 2 j l a p wr.heap.size (w3.setRow g p.cells)) := Lib.hid (hp.below (Nat.le_refl _) (by rw [hw3]; exact setRow_below ((Below.refl _ _).alloc (Nat.le_refl _) _) (Nat.le_of_eq hg.symm) _))
          rw [← hg] at hbx ⊢
          rw [← hw3] at hal hbx ⊢
          refine hK.out _ _ (ST7.out _ hal) (fun _ => ?_)
          clear hK K hp hb2 hw3 hg
          (try simp only [Act.put, List.getElem_toArray, List.getElem_cons_succ, List.getElem_cons_zero, List.setIfInBounds_toArray, List.set_cons_zero, List.set_cons_succ])
          refine wpAnyH_ready (rs := [10]) (by kernel_rfl) (by simp) ?_
          refine AllReadyH.cons rfl (fun K hK => ?_) AllReadyH.nil
          rw [if_pos (by kernel_rfl)]
          refine wp_store_row 37 (.tmp 7) (.tmp 34) rfl g p.cells rfl rfl _ _ hbx (HSH.out _) rfl (H1C.out _) ?_
          have hst : Below wr.heap.size wr (w3.setRow g p.cells) := setRow_below hal HGW.out _
          refine hK.out _ _ (ST7.out _ hst) (fun _ => ?_)
          clear hK K
          (try simp only [Act.put, List.getElem_toArray, List.getElem_cons_succ, List.getElem_cons_zero])
          refine wpAnyH_take (i := 11) (v := .int .i64 (j : Int)) rfl (by kernel_rfl) (by kernel_rfl) (by kernel_rfl) (fun _ _ _ h => nomatch h.1) (.inl ⟨by kernel_rfl, fun w hw => by clear hw; go_simp⟩) (by assumption) ?_
          (try simp only [Act.put, List.getElem_toArray, List.getElem_cons_succ, List.getElem_cons_zero, List.setIfInBounds_toArray, List.set_cons_zero, List.set_cons_succ])
          refine wpAnyH_done (by kernel_rfl) ?_ _
          exact ⟨rfl, g, p, rfl, Lib.hid ⟨hst, HGW.out, setRow_heap _ _ _ _ _ _ hbx, HOP.out⟩⟩
        · go_simp
          have hal0 : Below wr.heap.size wr (wr.alloc (.cells #[.slice none 0 0, .slice none 0 0, .slice none 0 0, .slice none 0 0, .slice none 0 0, .slice none 0 0, .slice none 0 0, .slice none 0 0, .slice none 0 0, .slice none 0 0, .slice none 0 0, .slice none 0 0, .slice none 0 0, .slice none 0 0, .int .i64 0] 37)).drew := ((Below.refl wr.heap.size wr).alloc (Nat.le_refl _) _).drew
          have hbx0 : (wr.alloc (.cells #[.slice none 0 0, .slice none 0 0, .slice none 0 0, .slice none 0 0, .slice none 0 0, .slice none 0 0, .slice none 0 0, .slice none 0 0, .slice none 0 0, .slice none 0 0, .slice none 0 0, .slice none 0 0, .slice none 0 0, .slice none 0 0, .int .i64 0] 37)).drew.heap[wr.heap.size]? = some (.cells #[.slice none 0 0, .slice none 0 0, .slice none 0 0, .slice none 0 0, .slice none 0 0, .slice none 0 0, .slice none 0 0, .slice none 0 0, .slice none 0 0, .slice none 0 0, .slice none 0 0, .slice none 0 0, .slice none 0 0, .slice none 0 0, .int .i64 0] 37 (0, 0)) := heap_alloc_new wr (.cells #[.slice none 0 0, .slice none 0 0, .slice none 0 0, .slice none 0 0, .slice none 0 0, .slice none 0 0, .slice none 0 0, .slice none 0 0, .slice none 0 0, .slice none 0 0, .slice none 0 0, .slice none 0 0, .slice none 0 0, .slice none 0 0, .int .i64 0] 37)
          obtain ⟨g, hg⟩ : ∃ g, g = wr.heap.size := ⟨_, rfl⟩
          have HGW : Hid (wr.heap.size ≤ g) := Lib.hid (by rw [hg]; exact Nat.le_refl _)
          obtain ⟨w3, hw3⟩ : ∃ w3, w3 = (wr.alloc (.cells #[.slice none 0 0, .slice none 0 0, .slice none 0 0, .slice none 0 0, .slice none 0 0, .slice none 0 0, .slice none 0 0, .slice none 0 0, .slice none 0 0, .slice none 0 0, .slice none 0 0, .slice none 0 0, .slice none 0 0, .slice none 0 0, .int .i64 0] 37)).drew := ⟨_, rfl⟩
          have HG3 : Hid (g < w3.heap.size) := Lib.hid (by rw [hw3, hg]; simp [World.drew])
          rw [← hw3] at hal0 hbx0 ⊢
          rw [← hg] at hbx0 ⊢
          refine hK.out _ _ (ST7.out _ hal0) (fun _ => ?_)
          clear hK K hw3 hg
          (try simp only [Act.put, List.getElem_toArray, List.getElem_cons_succ, List.getElem_cons_zero, List.setIfInBounds_toArray, List.set_cons_zero, List.set_cons_succ])
          refine wpAnyH_ready (rs := [5]) (by kernel_rfl) (by simp) ?_
          refine AllReadyH.cons rfl (fun K hK => ?_) AllReadyH.nil
          go_simp
          refine (HAD.out _ hal0).mono ?_
          rintro e' w2 ⟨hb2, p, rfl, hp⟩
          have hal : Below wr.heap.size wr w2 := hal0.trans (hb2.mono hal0.size)
          have hbx := (hb2.block g HG3.out).trans hbx0
          have HOP : Hid (PutK 39 2 2 j l a p wr.heap.size (w2.setRow g p.cells)) := Lib.hid (hp.rowed HG3.out hal0.size _)
          refine hK.out _ _ (ST7.out _ hal) (fun _ => ?_)
          clear hK K hp hb2 hbx0 hal0
          (try simp only [Act.put, List.getElem_toArray, List.getElem_cons_succ, List.getElem_cons_zero, List.setIfInBounds_toArray, List.set_cons_zero, List.set_cons_succ])
          refine wpAnyH_take (i := 6) (v := .tuple #[.agg p.cells, .int .i64 (j : Int)]) rfl (by kernel_rfl) (by kernel_rfl) (by kernel_rfl) (fun _ _ _ h => nomatch h.1) (.inl ⟨by kernel_rfl, fun w hw => by clear hw; go_simp⟩) (by assumption) ?_
          (try simp only [Act.put, List.getElem_toArray, List.getElem_cons_succ, List.getElem_cons_zero, List.setIfInBounds_toArray, List.set_cons_zero, List.set_cons_succ])
          refine wpAnyH_take (i := 7) (v := .agg p.cells) rfl (by kernel_rfl) (by kernel_rfl) (by kernel_rfl) (fun _ _ _ h => nomatch h.1) (.inl ⟨by kernel_rfl, fun w hw => by clear hw; go_simp⟩) (by assumption) ?_
          (try simp only [Act.put, List.getElem_toArray, List.getElem_cons_succ, List.getElem_cons_zero, List.setIfInBounds_toArray, List.set_cons_zero, List.set_cons_succ])
          refine wpAnyH_take (i := 8) (v := .int .i64 (j : Int)) rfl (by kernel_rfl) (by kernel_rfl) (by kernel_rfl) (fun _ _ _ h => nomatch h.1) (.inl ⟨by kernel_rfl, fun w hw => by clear hw; go_simp⟩) (by assumption) ?_
          (try simp only [Act.put, List.getElem_toArray, List.getElem_cons_succ, List.getElem_cons_zero, List.setIfInBounds_toArray, List.set_cons_zero, List.set_cons_succ])
          refine wpAnyH_ready (rs := [10]) (by kernel_rfl) (by simp) ?_
          refine AllReadyH.cons rfl (fun K hK => ?_) AllReadyH.nil
          rw [if_pos (by kernel_rfl)]
          refine wp_store_row 37 (.tmp 7) (.tmp 34) rfl g p.cells rfl rfl _ _ hbx (HSH.out _) rfl (H1C.out _) ?_
          have hst : Below wr.heap.size wr (w2.setRow g p.cells) := setRow_below hal HGW.out _
          refine hK.out _ _ (ST7.out _ hst) (fun _ => ?_)
          clear hK K
          (try simp only [Act.put, List.getElem_toArray, List.getElem_cons_succ, List.getElem_cons_zero])
          refine wpAnyH_take (i := 11) (v := .int .i64 (j : Int)) rfl (by kernel_rfl) (by kernel_rfl) (by kernel_rfl) (fun _ _ _ h => nomatch h.1) (.inl ⟨by kernel_rfl, fun w hw => by clear hw; go_simp⟩) (by assumption) ?_
          (try simp only [Act.put, List.getElem_toArray, List.getElem_cons_succ, List.getElem_cons_zero, List.setIfInBounds_toArray, List.set_cons_zero, List.set_cons_succ])
          refine wpAnyH_done (by kernel_rfl) ?_ _
          exact ⟨rfl, g, p, rfl, Lib.hid ⟨hst, HGW.out, setRow_heap _ _ _ _ _ _ hbx, HOP.out⟩⟩
      · intro g p W1 hR
        have HB1 := Lib.hid hR.out.1
        have HG1 := Lib.hid hR.out.2.2.1
        have HP1 := Lib.hid hR.out.2.2.2
        have HI1 := Lib.hid ((HI.out.1).below HB1.out)
        clear hR ST7 HAD
        by_cases hj0 : j = 0
        · subst hj0
          have HDN : Hid (BInv w p (setE 0 L 2 l) (W1.setRow w.heap.size p.cells) ∧ setE 0 L 2 l 3 = []) := Lib.hid (by
            have hp := HP1.out
            rw [← HL.out] at hp ⊢
            exact ⟨HI1.out.zone HI.out.2 HJ.out (PutK.ht (by decide) HFE.out (by rw [(HI1.out.ht 2 (by decide)).1]; exact Nat.le_trans HI1.out.zn (by decide)) HI1.out.ht hp) (hp.caps HI1.out.caps) (hp.apart HSW.out HI1.out.ap), HI.out.2⟩)
          go_wp2_with (first
            | (refine wpList_load_row rfl 37 (.tmp 7) rfl g rfl _ _ _ _ HG1.out huh rfl (HSH.out _) ?_)
            | (refine wpList_store_row rfl 37 (.tmp 5) (.tmp 38) rfl w.heap.size p.cells rfl rfl _ _ HI1.out.box (HSH.out _) rfl (H1C.out _) ?_)
            | fail)
          go_roundw
          case rel => exact ⟨k + 1, p, setE 0 L 2 l, by omega, by omega, by go_num, HDN⟩
          case measure => simp [intOf]; omega
        · have hjb : ((j : Int) == 0) = false := by simpa using hj0
          clear hj0
          go_wp2_with fail
          go_roundw
          case rel => exact ⟨k + 1, a, L, by omega, by omega, by go_num, Lib.hid ⟨HI1.out, HI.out.2⟩⟩
          case measure => simp [intOf]; omega
  case rest =>
  obtain ⟨a0, L0, HI0⟩ := hcut
  go_upto_block 2 with fail
  go_cut [9, 10, 11] from 39 to 60 (fun _ _ _ wx => ∃ (a : Hs) (L : Nat → List (List Value)), Hid (BInv w a L wx))
  case first =>
    go_wp2_with fail
    go_loopw [9] (fun i wr => ∃ (k : Nat) (a : Hs) (L : Nat → List (List Value)), k ≤ n2 ∧ k ≤ 100 ∧ i = .int .i64 (k : Int) ∧ Hid (BInv w a L wr)) (fun i _ => n2 - (intOf i).toNat)
    case atStart => exact ⟨0, a0, L0, by omega, by omega, rfl, Lib.hid HI0.out.1⟩
    case round =>
      obtain ⟨k, a, L, hk, hk2, rfl, HI⟩ := hrel
      have hcase : (k < n2 ∧ k < 100) ∨ (k < n2 ∧ ¬ k < 100) ∨ ¬ k < n2 := by omega
      rcases hcase with ⟨hlt, hlt2⟩ | ⟨hlt, hlt2⟩ | hlt
      case inr.inl => go_wp2_with fail; go_meet; exact ⟨a, L, HI⟩
      case inr.inr => go_wp2_with fail; go_meet; exact ⟨a, L, HI⟩
      have hkl : k < LB.length := by rw [← HLB.out.2.1]; exact hlt
      obtain ⟨b, off, rfl, hb, hc⟩ := HLB.out.2.2.2.2.2.2.thing HLB.out.2.2.2.2.1 (by decide) hkl
      have fe := HLB.out.2.2.2.2.1 _ (List.getElem_mem hkl)
      have me := HLB.out.2.2.2.2.2.1 _ (List.getElem_mem hkl)
      have r0 := hc k hkl
      rw [show kBin.length = 8 from rfl] at r0
      obtain ⟨e, he⟩ : ∃ e, LB[k] = e := ⟨_, rfl⟩
      rw [he] at fe r0 me
      have HFE := Lib.hid fe
      have HEL := Lib.hid (HSB.out e fe)
      have HLX : Hid (∀ W, Below w.heap.size w W → W.rangeAt b (off + k * 8) e) := Lib.hid (fun W hW => rangeAt_below r0 hb hW)
      have h1 : (0 : Int) ≤ (k : Int) := by omega
      have h2 : (k : Int) < (n2 : Int) := by omega
      have h3 : (k : Int) < 100 := by omega
      have h4 : (k : Int) ≤ 9223372036854775806 := by omega
      have HXE := Lib.hid (bn_cells HFE.out)
      have HM1 : Hid ((bnOf e).code.size ≤ maxLen) := Lib.hid (by
        rw [HXE.out] at me
        exact me (.string (bnOf e).code) (by simp [Bn.cells]))
      obtain ⟨j, hj⟩ : ∃ j, addBE (L 2) (L 3) (bnOf e) = j := ⟨_, rfl⟩
      have HJ := Lib.hid hj
      obtain ⟨l, hl⟩ : ∃ l, putG ordBin (L 3) e = l := ⟨_, rfl⟩
      have HL := Lib.hid hl
      have HAD : Hid (∀ W, Below wr.heap.size wr W → Calls Try.prog 15 #[.agg a.cells, .agg e.toArray] W (fun e' W' => Below W.heap.size W W' ∧ ∃ p : Hs, e' = .returned (.tuple #[.agg p.cells, .int .i64 (j : Nat)]) ∧ PutK 41 8 3 j l a p W.heap.size W')) := Lib.hid (fun W hW => by
        have hI := HI.out.below hW
        have : Calls Try.prog 15 #[.agg a.cells, .agg (bnOf e).cells.toArray] W (PutP 41 8 3 (addBE (L 2) (L 3) (bnOf e)) (putG ordBin (L 3) (bnOf e).cells) a W) := HCO.out.addb a L _ _ _ _ _ _ _ _ W hI.ht (by rw [(hI.ht 3 (by decide)).1]; exact Nat.le_trans hI.bn (by decide)) (hI.caps 3 (by decide)) HM1.out
        rw [← HXE.out, hj, hl] at this
        exact this.mono fun e' W' h => h.k)
      clear hj hl
      clear hc r0 he fe me hb
      have ST7 : Hid (∀ W, Below wr.heap.size wr W → W.rangeAt w.heap.size 0 a.cells.toList ∧ W.rangeAt b (off + k * 8) e) := Lib.hid (fun W hW => ⟨range_row0 (HI.out.below hW).box, HLX.out W (HI.out.below hW).bel⟩)
      have HSW : Hid (w.heap.size < wr.heap.size) := Lib.hid (HI.out).sz
      go_wp2_with fail
      apply region_to2 (R := fun g (p : Hs) W => Hid (Below wr.heap.size wr W ∧ wr.heap.size ≤ g ∧ W.heap[g]? = some (.cells p.cells 37 (0, 0)) ∧ PutK 41 8 3 j l a p wr.heap.size W))
      · refine wp_region_held_drew (S := (fun w' => w'.rangeAt w.heap.size 0 a.cells.toList ∧ w'.rangeAt b (off + k * 8) e)) (by kernel_rfl) (ST7.out _ (Below.refl wr.heap.size wr).drew) (fun dd0 => ?_)
        refine wpAnyH_take (i := 0) (v := .agg a.cells) rfl (by kernel_rfl) (by kernel_rfl) (by kernel_rfl) (fun _ _ _ h => nomatch h.1) (yieldsIf_load_mid (by kernel_rfl) 37 (.tmp 5) rfl w.heap.size (0) rfl a.cells.toList _ (fun w h => h.1) huh rfl (HSHL.out _)) (by assumption) ?_
        (try simp only [Act.put, List.getElem_toArray, List.getElem_cons_zero, List.setIfInBounds_toArray, List.set_cons_zero, List.set_cons_succ])
        refine wpAnyH_take (i := 1) (v := .slice (some ⟨b, off, none⟩) n2 c2) rfl (by kernel_rfl) (by kernel_rfl) (by kernel_rfl) (fun _ _ _ h => nomatch h.1) (.inl ⟨by kernel_rfl, fun w hw => by clear hw; go_simp⟩) (by assumption) ?_
        (try simp only [Act.put, List.getElem_toArray, List.getElem_cons_succ, List.getElem_cons_zero, List.setIfInBounds_toArray, List.set_cons_zero, List.set_cons_succ])
        refine wpAnyH_take (i := 2) (v := .int .i64 (k : Int)) rfl (by kernel_rfl) (by kernel_rfl) (by kernel_rfl) (fun _ _ _ h => nomatch h.1) (.inl ⟨by kernel_rfl, fun w hw => by clear hw; go_simp⟩) (by assumption) ?_
        (try simp only [Act.put, List.getElem_toArray, List.getElem_cons_succ, List.getElem_cons_zero, List.setIfInBounds_toArray, List.set_cons_zero, List.set_cons_succ])
        refine wpAnyH_take (i := 3) (v := .pointer (some ⟨b, off + k * 8, none⟩)) rfl (by kernel_rfl) (by kernel_rfl) (by kernel_rfl) (fun _ _ _ h => nomatch h.1) (.inl ⟨by kernel_rfl, fun w hw => by clear hw; go_simp⟩) (by assumption) ?_
        (try simp only [Act.put, List.getElem_toArray, List.getElem_cons_succ, List.getElem_cons_zero, List.setIfInBounds_toArray, List.set_cons_zero, List.set_cons_succ])
        refine wpAnyH_take (i := 4) (v := .agg e.toArray) rfl (by kernel_rfl) (by kernel_rfl) (by kernel_rfl) (fun _ _ _ h => nomatch h.1) (yieldsIf_load_mid (by kernel_rfl) 41 (.tmp 53) rfl b (off + k * 8) rfl e _ (fun w h => h.2) hub rfl HEL.out) (by assumption) ?_
        (try simp only [Act.put, List.getElem_toArray, List.getElem_cons_succ, List.getElem_cons_zero, List.setIfInBounds_toArray, List.set_cons_zero, List.set_cons_succ])
        refine wpAnyH_ready (rs := [5, 9]) (by kernel_rfl) (by simp) ?_
        refine AllReadyH.cons rfl (fun K hK => ?_) (AllReadyH.cons rfl (fun K hK => ?_) AllReadyH.nil)
        · go_simp
          refine (HAD.out _ (Below.refl wr.heap.size wr).drew).mono ?_
          rintro e' w2 ⟨hb2, p, rfl, hp⟩
          have H2 : Hid (Below wr.heap.size wr w2) := Lib.hid ((Below.refl wr.heap.size wr).drew.trans hb2)
          refine hK.out _ _ (ST7.out _ H2.out) (fun _ => ?_)
          clear hK K
          (try simp only [Act.put, List.getElem_toArray, List.getElem_cons_succ, List.getElem_cons_zero, List.setIfInBounds_toArray, List.set_cons_zero, List.set_cons_succ])
          refine wpAnyH_take (i := 6) (v := .tuple #[.agg p.cells, .int .i64 (j : Int)]) rfl (by kernel_rfl) (by kernel_rfl) (by kernel_rfl) (fun _ _ _ h => nomatch h.1) (.inl ⟨by kernel_rfl, fun w hw => by clear hw; go_simp⟩) (by assumption) ?_
          (try simp only [Act.put, List.getElem_toArray, List.getElem_cons_succ, List.getElem_cons_zero, List.setIfInBounds_toArray, List.set_cons_zero, List.set_cons_succ])
          refine wpAnyH_take (i := 7) (v := .agg p.cells) rfl (by kernel_rfl) (by kernel_rfl) (by kernel_rfl) (fun _ _ _ h => nomatch h.1) (.inl ⟨by kernel_rfl, fun w hw => by clear hw; go_simp⟩) (by assumption) ?_
          (try simp only [Act.put, List.getElem_toArray, List.getElem_cons_succ, List.getElem_cons_zero, List.setIfInBounds_toArray, List.set_cons_zero, List.set_cons_succ])
          refine wpAnyH_take (i := 8) (v := .int .i64 (j : Int)) rfl (by kernel_rfl) (by kernel_rfl) (by kernel_rfl) (fun _ _ _ h => nomatch h.1) (.inl ⟨by kernel_rfl, fun w hw => by clear hw; go_simp⟩) (by assumption) ?_
          (try simp only [Act.put, List.getElem_toArray, List.getElem_cons_succ, List.getElem_cons_zero, List.setIfInBounds_toArray, List.set_cons_zero, List.set_cons_succ])
          refine wpAnyH_ready (rs := [9]) (by kernel_rfl) (by simp) ?_
          refine AllReadyH.cons rfl (fun K hK => ?_) AllReadyH.nil
          go_simp
          have hal : Below wr.heap.size wr (w2.alloc (.cells #[.slice none 0 0, .slice none 0 0, .slice none 0 0, .slice none 0 0, .slice none 0 0, .slice none 0 0, .slice none 0 0, .slice none 0 0, .slice none 0 0, .slice none 0 0, .slice none 0 0, .slice none 0 0, .slice none 0 0, .slice none 0 0, .int .i64 0] 37)) := H2.out.alloc H2.out.size _
          have hbx := heap_alloc_new w2 (.cells #[.slice none 0 0, .slice none 0 0, .slice none 0 0, .slice none 0 0, .slice none 0 0, .slice none 0 0, .slice none 0 0, .slice none 0 0, .slice none 0 0, .slice none 0 0, .slice none 0 0, .slice none 0 0, .slice none 0 0, .slice none 0 0, .int .i64 0] 37)
          obtain ⟨g, hg⟩ : ∃ g, g = w2.heap.size := ⟨_, rfl⟩
          have HGW : Hid (wr.heap.size ≤ g) := Lib.hid (by rw [hg]; exact H2.out.size)
          obtain ⟨w3, hw3⟩ : ∃ w3, w3 = w2.alloc (.cells #[.slice none 0 0, .slice none 0 0, .slice none 0 0, .slice none 0 0, .slice none 0 0, .slice none 0 0, .slice none 0 0, .slice none 0 0, .slice none 0 0, .slice none 0 0, .slice none 0 0, .slice none 0 0, .slice none 0 0, .slice none 0 0, .int .i64 0] 37) := ⟨_, rfl⟩
          have HOP : Hid (PutK 41 8 3 j l a p wr.heap.size (w3.setRow g p.cells)) := Lib.hid (hp.below (Nat.le_refl _) (by rw [hw3]; exact setRow_below ((Below.refl _ _).alloc (Nat.le_refl _) _) (Nat.le_of_eq hg.symm) _))
          rw [← hg] at hbx ⊢
          rw [← hw3] at hal hbx ⊢
          refine hK.out _ _ (ST7.out _ hal) (fun _ => ?_)
          clear hK K hp hb2 hw3 hg
          (try simp only [Act.put, List.getElem_toArray, List.getElem_cons_succ, List.getElem_cons_zero, List.setIfInBounds_toArray, List.set_cons_zero, List.set_cons_succ])
          refine wpAnyH_ready (rs := [10]) (by kernel_rfl) (by simp) ?_
          refine AllReadyH.cons rfl (fun K hK => ?_) AllReadyH.nil
          rw [if_pos (by kernel_rfl)]
          refine wp_store_row 37 (.tmp 10) (.tmp 56) rfl g p.cells rfl rfl _ _ hbx (HSH.out _) rfl (H1C.out _) ?_
          have hst : Below wr.heap.size wr (w3.setRow g p.cells) := setRow_below hal HGW.out _
          refine hK.out _ _ (ST7.out _ hst) (fun _ => ?_)
          clear hK K
          (try simp only [Act.put, List.getElem_toArray, List.getElem_cons_succ, List.getElem_cons_zero])
          refine wpAnyH_take (i := 11) (v := .int .i64 (j : Int)) rfl (by kernel_rfl) (by kernel_rfl) (by kernel_rfl) (fun _ _ _ h => nomatch h.1) (.inl ⟨by kernel_rfl, fun w hw => by clear hw; go_simp⟩) (by assumption) ?_
          (try simp only [Act.put, List.getElem_toArray, List.getElem_cons_succ, List.getElem_cons_zero, List.setIfInBounds_toArray, List.set_cons_zero, List.set_cons_succ])
          refine wpAnyH_done (by kernel_rfl) ?_ _
          exact ⟨rfl, g, p, rfl, Lib.hid ⟨hst, HGW.out, setRow_heap _ _ _ _ _ _ hbx, HOP.out⟩⟩
        · go_simp
          have hal0 : Below wr.heap.size wr (wr.alloc (.cells #[.slice none 0 0, .slice none 0 0, .slice none 0 0, .slice none 0 0, .slice none 0 0, .slice none 0 0, .slice none 0 0, .slice none 0 0, .slice none 0 0, .slice none 0 0, .slice none 0 0, .slice none 0 0, .slice none 0 0, .slice none 0 0, .int .i64 0] 37)).drew := ((Below.refl wr.heap.size wr).alloc (Nat.le_refl _) _).drew
          have hbx0 : (wr.alloc (.cells #[.slice none 0 0, .slice none 0 0, .slice none 0 0, .slice none 0 0, .slice none 0 0, .slice none 0 0, .slice none 0 0, .slice none 0 0, .slice none 0 0, .slice none 0 0, .slice none 0 0, .slice none 0 0, .slice none 0 0, .slice none 0 0, .int .i64 0] 37)).drew.heap[wr.heap.size]? = some (.cells #[.slice none 0 0, .slice none 0 0, .slice none 0 0, .slice none 0 0, .slice none 0 0, .slice none 0 0, .slice none 0 0, .slice none 0 0, .slice none 0 0, .slice none 0 0, .slice none 0 0, .slice none 0 0, .slice none 0 0, .slice none 0 0, .int .i64 0] 37 (0, 0)) := heap_alloc_new wr (.cells #[.slice none 0 0, .slice none 0 0, .slice none 0 0, .slice none 0 0, .slice none 0 0, .slice none 0 0, .slice none 0 0, .slice none 0 0, .slice none 0 0, .slice none 0 0, .slice none 0 0, .slice none 0 0, .slice none 0 0, .slice none 0 0, .int .i64 0] 37)
          obtain ⟨g, hg⟩ : ∃ g, g = wr.heap.size := ⟨_, rfl⟩
          have HGW : Hid (wr.heap.size ≤ g) := Lib.hid (by rw [hg]; exact Nat.le_refl _)
          obtain ⟨w3, hw3⟩ : ∃ w3, w3 = (wr.alloc (.cells #[.slice none 0 0, .slice none 0 0, .slice none 0 0, .slice none 0 0, .slice none 0 0, .slice none 0 0, .slice none 0 0, .slice none 0 0, .slice none 0 0, .slice none 0 0, .slice none 0 0, .slice none 0 0, .slice none 0 0, .slice none 0 0, .int .i64 0] 37)).drew := ⟨_, rfl⟩
          have HG3 : Hid (g < w3.heap.size) := Lib.hid (by rw [hw3, hg]; simp [World.drew])
          rw [← hw3] at hal0 hbx0 ⊢
          rw [← hg] at hbx0 ⊢
          refine hK.out _ _ (ST7.out _ hal0) (fun _ => ?_)
          clear hK K hw3 hg
          (try simp only [Act.put, List.getElem_toArray, List.getElem_cons_succ, List.getElem_cons_zero, List.setIfInBounds_toArray, List.set_cons_zero, List.set_cons_succ])
          refine wpAnyH_ready (rs := [5]) (by kernel_rfl) (by simp) ?_
          refine AllReadyH.cons rfl (fun K hK => ?_) AllReadyH.nil
          go_simp
          refine (HAD.out _ hal0).mono ?_
          rintro e' w2 ⟨hb2, p, rfl, hp⟩
          have hal : Below wr.heap.size wr w2 := hal0.trans (hb2.mono hal0.size)
          have hbx := (hb2.block g HG3.out).trans hbx0
          have HOP : Hid (PutK 41 8 3 j l a p wr.heap.size (w2.setRow g p.cells)) := Lib.hid (hp.rowed HG3.out hal0.size _)
          refine hK.out _ _ (ST7.out _ hal) (fun _ => ?_)
          clear hK K hp hb2 hbx0 hal0
          (try simp only [Act.put, List.getElem_toArray, List.getElem_cons_succ, List.getElem_cons_zero, List.setIfInBounds_toArray, List.set_cons_zero, List.set_cons_succ])
          refine wpAnyH_take (i := 6) (v := .tuple #[.agg p.cells, .int .i64 (j : Int)]) rfl (by kernel_rfl) (by kernel_rfl) (by kernel_rfl) (fun _ _ _ h => nomatch h.1) (.inl ⟨by kernel_rfl, fun w hw => by clear hw; go_simp⟩) (by assumption) ?_
          (try simp only [Act.put, List.getElem_toArray, List.getElem_cons_succ, List.getElem_cons_zero, List.setIfInBounds_toArray, List.set_cons_zero, List.set_cons_succ])
          refine wpAnyH_take (i := 7) (v := .agg p.cells) rfl (by kernel_rfl) (by kernel_rfl) (by kernel_rfl) (fun _ _ _ h => nomatch h.1) (.inl ⟨by kernel_rfl, fun w hw => by clear hw; go_simp⟩) (by assumption) ?_
          (try simp only [Act.put, List.getElem_toArray, List.getElem_cons_succ, List.getElem_cons_zero, List.setIfInBounds_toArray, List.set_cons_zero, List.set_cons_succ])
          refine wpAnyH_take (i := 8) (v := .int .i64 (j : Int)) rfl (by kernel_rfl) (by kernel_rfl) (by kernel_rfl) (fun _ _ _ h => nomatch h.1) (.inl ⟨by kernel_rfl, fun w hw => by clear hw; go_simp⟩) (by assumption) ?_
          (try simp only [Act.put, List.getElem_toArray, List.getElem_cons_succ, List.getElem_cons_zero, List.setIfInBounds_toArray, List.set_cons_zero, List.set_cons_succ])
          refine wpAnyH_ready (rs := [10]) (by kernel_rfl) (by simp) ?_
          refine AllReadyH.cons rfl (fun K hK => ?_) AllReadyH.nil
          rw [if_pos (by kernel_rfl)]
          refine wp_store_row 37 (.tmp 10) (.tmp 56) rfl g p.cells rfl rfl _ _ hbx (HSH.out _) rfl (H1C.out _) ?_
          have hst : Below wr.heap.size wr (w2.setRow g p.cells) := setRow_below hal HGW.out _
          refine hK.out _ _ (ST7.out _ hst) (fun _ => ?_)
          clear hK K
          (try simp only [Act.put, List.getElem_toArray, List.getElem_cons_succ, List.getElem_cons_zero])
          refine wpAnyH_take (i := 11) (v := .int .i64 (j : Int)) rfl (by kernel_rfl) (by kernel_rfl) (by kernel_rfl) (fun _ _ _ h => nomatch h.1) (.inl ⟨by kernel_rfl, fun w hw => by clear hw; go_simp⟩) (by assumption) ?_
          (try simp only [Act.put, List.getElem_toArray, List.getElem_cons_succ, List.getElem_cons_zero, List.setIfInBounds_toArray, List.set_cons_zero, List.set_cons_succ])
          refine wpAnyH_done (by kernel_rfl) ?_ _
          exact ⟨rfl, g, p, rfl, Lib.hid ⟨hst, HGW.out, setRow_heap _ _ _ _ _ _ hbx, HOP.out⟩⟩
      · intro g p W1 hR
        have HB1 := Lib.hid hR.out.1
        have HG1 := Lib.hid hR.out.2.2.1
        have HP1 := Lib.hid hR.out.2.2.2
        have HI1 := Lib.hid ((HI.out).below HB1.out)
        clear hR ST7 HAD
        by_cases hj0 : j = 0
        · subst hj0
          have HDN : Hid (BInv w p (setE 0 L 3 l) (W1.setRow w.heap.size p.cells)) := Lib.hid (by
            have hp := HP1.out
            rw [← HL.out] at hp ⊢
            have h := HI1.out.bin (x := bnOf e) HJ.out (by rw [← HXE.out]; exact PutK.ht (by decide) HFE.out (by rw [(HI1.out.ht 3 (by decide)).1]; exact Nat.le_trans HI1.out.bn (by decide)) HI1.out.ht hp) (hp.caps HI1.out.caps) (hp.apart HSW.out HI1.out.ap)
            rwa [← HXE.out] at h)
          go_wp2_with (first
            | (refine wpList_load_row rfl 37 (.tmp 10) rfl g rfl _ _ _ _ HG1.out huh rfl (HSH.out _) ?_)
            | (refine wpList_store_row rfl 37 (.tmp 5) (.tmp 60) rfl w.heap.size p.cells rfl rfl _ _ HI1.out.box (HSH.out _) rfl (H1C.out _) ?_)
            | fail)
          go_roundw
          case rel => exact ⟨k + 1, p, setE 0 L 3 l, by omega, by omega, by go_num, HDN⟩
          case measure => simp [intOf]; omega
        · have hjb : ((j : Int) == 0) = false := by simpa using hj0
          clear hj0
          go_wp2_with fail
          go_roundw
          case rel => exact ⟨k + 1, a, L, by omega, by omega, by go_num, HI1⟩
          case measure => simp [intOf]; omega
  case rest =>
  obtain ⟨a, L, HI⟩ := hcut
  clear HI0 HLZ HLB HST
  obtain ⟨nz, hnz⟩ : ∃ n, a.n 2 = n := ⟨_, rfl⟩
  obtain ⟨nb, hnb⟩ : ∃ n, a.n 3 = n := ⟨_, rfl⟩
  have HNZ : Hid (nz = (L 2).length) := Lib.hid (by rw [← hnz]; exact (HI.out.ht 2 (by decide)).1)
  have HNB : Hid (nb = (L 3).length) := Lib.hid (by rw [← hnb]; exact (HI.out.ht 3 (by decide)).1)
  have hz16 : nz ≤ 16 := by rw [HNZ.out]; exact HI.out.zn
  have hb64 : nb ≤ 64 := by rw [HNB.out]; exact HI.out.bn
  have HCL : Hid (∀ W, BInv w a L W → W.cell? ⟨w.heap.size, 2, none⟩ = some (.slice (a.A 2) nz (a.c 2)) ∧ W.cell? ⟨w.heap.size, 3, none⟩ = some (.slice (a.A 3) nb (a.c 3)) ∧ w.heap.size < W.heap.size) := Lib.hid (fun W hW => ⟨by rw [cell_of_block hW.box, ← hnz]; rfl, by rw [cell_of_block hW.box, ← hnb]; rfl, lt_of_block hW.box⟩)
  clear hnz hnb
  obtain ⟨d2, d3, dlt⟩ := HCL.out _ HI.out
  have hq1 : ¬ (16 : Int) < (nz : Int) := by omega
  have hq2 : ¬ (64 : Int) < (nb : Int) := by omega
  go_wp2_with fail
  clear d2 d3 dlt hq1 hq2
  go_loopw [12] (fun i wr => ∃ k : Nat, k ≤ nb ∧ i = .int .i64 (k : Int) ∧ Hid (BInv w a L wr)) (fun i _ => nb - (intOf i).toNat)
  case atStart => exact ⟨0, by omega, rfl, HI⟩
  case round =>
    obtain ⟨k, hk, rfl, HK⟩ := hrel
    obtain ⟨d2, d3, dlt⟩ := HCL.out _ HK.out
    by_cases hlt : k < nb
    · have hkl : k < (L 3).length := by rw [← HNB.out]; exact hlt
      obtain ⟨b, off, hA, hbb, hc⟩ := (HK.out.ht 3 (by decide)).2.2.2.thing (HK.out.ht 3 (by decide)).2.2.1 (by decide) hkl
      have hcc : ∀ j (hj : j < (L 3).length), wr.rangeAt b (off + j * 8) (L 3)[j] := hc
      have hfe : Fits kBin (L 3)[k] := (HK.out.ht 3 (by decide)).2.2.1 _ (List.getElem_mem hkl)
      have hok := HK.out.bs _ (List.getElem_mem hkl)
      have HPV : Hid (∀ (h0 : 0 < k) W, Below wr.heap.size wr W → ∃ cu, Pl.lt cu (codeOf (L 3)[k]) = true ∧ W.cell? ⟨b, off + (k - 1) * 8, none⟩ = some (.string cu)) := Lib.hid (fun h0 W hW => by
        have h1 : k - 1 < (L 3).length := by omega
        refine ⟨codeOf (L 3)[k - 1], HK.out.bu.at h1 hkl (by omega), ?_⟩
        obtain ⟨r, hr⟩ := code_Bin ((HK.out.ht 3 (by decide)).2.2.1 _ (List.getElem_mem h1))
        have := rangeAt_below (hcc (k - 1) h1) hbb hW 0 (.string (codeOf (L 3)[k - 1])) (by rw [hr]; rfl)
        simpa using this)
      have r1 := hcc k hkl
      have hcd : codeOf (L 3)[k] = (bnOf (L 3)[k]).code := by rw [bn_cells hfe]; rfl
      rw [hcd] at HPV
      have hbe := bn_cells hfe
      unfold OkB at hok
      obtain ⟨x, hx⟩ : ∃ x, bnOf (L 3)[k] = x := ⟨_, rfl⟩
      rw [hx] at hok hbe HPV
      rw [hbe] at r1
      clear hx hbe hcd hfe hc hcc
      obtain ⟨xc, xz, kd, ai, pl, vo, we, fz⟩ := x
      obtain ⟨ok1, ok2, ⟨ok3, ok4⟩, ok5, ok6⟩ := hok
      simp only [] at ok1 ok2 ok3 ok4 ok5 ok6 HPV
      subst ok2
      have HRE : Hid (wr.rangeAt b (off + k * 8) [.string xc, .string xz, .int .i64 kd, .int .i64 ai, .int .i64 pl, .int .i64 vo, .int .i64 we, .bool false]) := Lib.hid r1
      obtain ⟨ga, gb, hg, _⟩ := zone_two HK.out.ht xz
      have CFZ : Hid (∀ W, HT a L W → Calls Try.prog 25 #[.agg a.cells, .string xz] W fun e w' => e = .returned (.tuple #[.agg #[.string ga, .string gb], .bool true]) ∧ Below W.heap.size W w') := Lib.hid (fun W hW => by have := frZone hW xz; rw [hg, ok1] at this; exact this)
      have HS8 : Hid ((Try.prog.info? 41).map (·.size) = some 8) := Lib.hid (by kernel_rfl)
      obtain ⟨w1, hw1⟩ : ∃ w1, w1 = wr.alloc (.cells #[.string xc, .string xz, .int .i64 kd, .int .i64 ai, .int .i64 pl, .int .i64 vo, .int .i64 we, .bool false] 41) := ⟨_, rfl⟩
      have hb1 : Below wr.heap.size wr w1 := by rw [hw1]; exact (Below.refl _ _).alloc (Nat.le_refl _) _
      have HX1 : Hid (w1.heap[wr.heap.size]? = some (.cells #[.string xc, .string xz, .int .i64 kd, .int .i64 ai, .int .i64 pl, .int .i64 vo, .int .i64 we, .bool false] 41 (0, 0))) := Lib.hid (by rw [hw1]; exact heap_alloc_new _ _)
      have HW1 := Lib.hid hw1
      have HK1 := Lib.hid (HK.out.below hb1)
      have HB1 := Lib.hid hb1
      have h1 : (0 : Int) ≤ (k : Int) := by omega
      have h2 : (k : Int) < (nb : Int) := by omega
      have HA3 := Lib.hid hA
      rw [hA] at d3
      clear hw1 hb1 r1 hg ok1 hkl hA
      have hbx := HW1.out ▸ HK1.out.box
      have hlx : wr.heap.size < w1.heap.size := lt_of_block HX1.out
      go_wp2_with (first
        | (refine wpList_load_mid rfl 41 (.tmp 81) rfl b (off + k * 8) rfl [.string xc, .string xz, .int .i64 kd, .int .i64 ai, .int .i64 pl, .int .i64 vo, .int .i64 we, .bool false] _ HRE.out hub rfl HS8.out ?_)
        | (refine wpList_load_row rfl 37 (.tmp 5) rfl w.heap.size rfl _ _ _ _ hbx huh rfl (HSH.out _) ?_)
        | fail)
      rw [← HW1.out]
      refine (CFZ.out _ HK1.out.ht).mono ?_
      rintro e w2 ⟨rfl, hb2⟩
      have HB2 := Lib.hid (HB1.out.trans (hb2.mono HB1.out.size))
      have HX2 := Lib.hid ((hb2.block _ (lt_of_block HX1.out)).trans HX1.out)
      obtain ⟨w3, hw3⟩ : ∃ w3, w3 = w2.alloc (.cells #[.string ga, .string gb] 39) := ⟨_, rfl⟩
      have HB3 : Hid (Below wr.heap.size wr w3) := Lib.hid (by rw [hw3]; exact HB2.out.alloc HB2.out.size _)
      have HX3 : Hid (w3.heap[wr.heap.size]? = some (.cells #[.string xc, .string xz, .int .i64 kd, .int .i64 ai, .int .i64 pl, .int .i64 vo, .int .i64 we, .bool false] 41 (0, 0))) := Lib.hid (by rw [hw3]; exact (Below.heap_alloc _ _ _ (lt_of_block HX2.out)).trans HX2.out)
      have HW3 := Lib.hid hw3
      clear hb2 hw3 d2 d3 dlt hbx hlx
      go_upto_region 21 with fail
      rw [← HW3.out]
      have y0 : w3.cell? ⟨wr.heap.size, 0, none⟩ = some (.string xc) := by rw [cell_of_block HX3.out]; rfl
      have y2 : w3.cell? ⟨wr.heap.size, 2, none⟩ = some (.int .i64 kd) := by rw [cell_of_block HX3.out]; rfl
      have y5 : w3.cell? ⟨wr.heap.size, 5, none⟩ = some (.int .i64 vo) := by rw [cell_of_block HX3.out]; rfl
      have y6 : w3.cell? ⟨wr.heap.size, 6, none⟩ = some (.int .i64 we) := by rw [cell_of_block HX3.out]; rfl
      have y7 : w3.cell? ⟨wr.heap.size, 7, none⟩ = some (.bool false) := by rw [cell_of_block HX3.out]; rfl
      have ylt : wr.heap.size < w3.heap.size := lt_of_block HX3.out
      obtain ⟨_, e3, elt⟩ := HCL.out _ (HK.out.below HB3.out)
      rw [HA3.out] at e3
      have q1 : decide (kd < 1) = false := by simp; omega
      have q2 : decide (4 < kd) = false := by simp; omega
      have q3 : decide (vo < 0) = false := by simp; omega
      have q4 : decide (we < 0) = false := by simp; omega
      clear ok3 ok4 ok5 ok6
      by_cases h0 : 0 < k
      · obtain ⟨cu, gl, pc⟩ := HPV.out h0 _ HB3.out
        have hbl : b < w3.heap.size := World.block_lt_of_cell? w3 _ pc
        have g1 : Op.bytesLess cu.toList xc.toList = true := gl
        have i3 : (0 : Int) ≤ (k : Int) - 1 := by omega
        have i4 : (k : Int) - 1 < (nb : Int) := by omega
        have i5 : ((k : Int) - 1).toNat = k - 1 := by omega
        have hdt : decide ((0 : Int) < (k : Int)) = true := by simpa using h0
        have hdn : decide (0 < k) = true := by simp; omega
        clear gl
        go_quiet (fail)
        go_wp2_with fail
        go_roundw
        case rel => exact ⟨k + 1, by omega, by go_num, Lib.hid (HK.out.below (below_drewN HB3.out _))⟩
        case measure => simp [intOf]; omega
      · obtain rfl : k = 0 := by omega
        go_quiet (fail)
        go_wp2_with fail
        go_roundw
        case rel => exact ⟨1, by omega, rfl, Lib.hid (HK.out.below (below_drewN HB3.out _))⟩
        case measure => simp [intOf]; omega
    · go_wp2_with fail
      clear d2 d3 dlt
      obtain ⟨m1, hm1⟩ : ∃ m, m = nz + 1 := ⟨_, rfl⟩
      go_loopw [16] (fun i wx => ∃ t : Nat, 1 ≤ t ∧ t ≤ m1 ∧ i = .int .i64 (t : Int) ∧ Hid (BInv w a L wx)) (fun i _ => m1 - (intOf i).toNat)
      case atStart => exact ⟨1, by omega, by omega, rfl, HK⟩
      case round =>
        rename_i wq
        obtain ⟨t, ht, ht2, rfl, HZ⟩ := hrel
        obtain ⟨d2, d3, dlt⟩ := HCL.out _ HZ.out
        clear d3
        by_cases htz : t < nz
        · have htl : t < (L 2).length := by rw [← HNZ.out]; exact htz
          have htl1 : t - 1 < (L 2).length := by omega
          obtain ⟨b, off, hA, hbb, hc⟩ := (HZ.out.ht 2 (by decide)).2.2.2.thing (HZ.out.ht 2 (by decide)).2.2.1 (by decide) htl
          have hcc : ∀ j (hj : j < (L 2).length), wr.rangeAt b (off + j * 2) (L 2)[j] := hc
          have hz0 : ∀ j (hj : j < (L 2).length), wr.cell? ⟨b, off + j * 2, none⟩ = some (.string (codeOf (L 2)[j])) := fun j hj => by
            obtain ⟨r, hr⟩ := code_Zone ((HZ.out.ht 2 (by decide)).2.2.1 _ (List.getElem_mem hj))
            have := hcc j hj 0 (.string (codeOf (L 2)[j])) (by rw [hr]; rfl)
            simpa using this
          have z1 := hz0 (t - 1) htl1
          have z2 := hz0 t htl
          have gl := HZ.out.zu.at htl1 htl (by omega)
          generalize codeOf (L 2)[t - 1] = c1 at z1 gl
          generalize codeOf (L 2)[t] = c2 at z2 gl
          have g1 : Op.bytesLess c1.toList c2.toList = true := gl
          have hbl : b < wr.heap.size := hbb
          have i1 : (0 : Int) ≤ (t : Int) := by omega
          have i2 : (t : Int) < (nz : Int) := by omega
          have i3 : (0 : Int) ≤ (t : Int) - 1 := by omega
          have i4 : (t : Int) - 1 < (nz : Int) := by omega
          have i5 : ((t : Int) - 1).toNat = t - 1 := by omega
          rw [hA] at d2
          clear gl hcc hc hz0 hbb htl htl1 hA
          go_wp2_with fail
          go_quiet (fail)
          go_wp2_with fail
          go_roundw
          case rel => exact ⟨t + 1, by omega, by omega, by go_num, Lib.hid (HZ.out.below (below_drewN (Below.refl _ _) _))⟩
          case measure => simp [intOf]; omega
        · go_wp2_with fail
          refine (HAW.out _).mono ?_
          rintro e wn ⟨rfl, hbn⟩
          have BN := Lib.hid (HZ.out.bel.trans (hbn.mono HZ.out.bel.size))
          clear hbn d2 dlt
          go_wp2_with fail
          go_ret
          exact ⟨rfl, BN.out⟩
end Go.Proofs.Ytejlpmjgdaippaa.layoutBins
