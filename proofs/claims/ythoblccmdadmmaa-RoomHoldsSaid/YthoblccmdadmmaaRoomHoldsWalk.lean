/-
  THE LAW RoomHolds, over the contracts. (By wip/tools/gen_holds11.py.)
-/
import Derived.Test.YthoblccmdadmmaaZCon
import Derived.Test.YthoblccmdadmmaaZRow
import Derived.Test.YthoblccmdadmmaaZInv
import Derived.Test.YthoblccmdadmmaaHSmall
import Derived.Test.YthoblccmdadmmaaHBoth
import Derived.Test.YthoblccmdadmmaaHA
import Derived.Deep.RegionHeld3
import Derived.Deep.CutBlock
import Derived.BigQuiet
namespace Go.Proofs.Ythoblccmdadmmaa.roomHolds
set_option linter.unusedVariables false
open Go.RowKit
open Pl (firstG findG putG It)

set_option maxRecDepth 100000 in
set_option maxHeartbeats 12800000 in
theorem walk (C : Cons) (h : Hs) (L : Nat → List (List Value)) (A1 : Option Addr) (n1 c1 : Nat) (LA : List (List Value)) (w : World) (hin : HIn h L w) (hla : LIn kAsk w (.slice A1 n1 c1) A1 n1 c1 LA) :
    Calls Try.prog 5 #[.agg h.cells, .slice A1 n1 c1] w fun e w' => e = .returned (.bool true) ∧ Below w.heap.size w w' := by
  have HIN := Lib.hid hin
  have HCO := Lib.hid C
  have HLA := Lib.hid hla
  have hn1 : n1 ≤ 9223372036854775807 := Nat.le_trans hla.2.2.1 hla.2.2.2.1
  have HAW : Hid (∀ W, Calls Try.prog 12 #[] W fun e w' => e = .returned (.bool true) ∧ Below W.heap.size W w') := Lib.hid (fun W => awake_any C W)
  obtain ⟨W0, hW0⟩ : ∃ W0, W0 = (w.alloc (.cells h.cells 37)) := ⟨_, rfl⟩
  have B0 : Hid (Below w.heap.size w W0) := Lib.hid (by rw [hW0]; exact (Below.refl _ _).alloc (Nat.le_refl _) _)
  have HH0 : Hid (W0.heap[w.heap.size]? = some (.cells h.cells 37 (0, 0))) := Lib.hid (by
    rw [hW0]
    have hq := heap_alloc_new w (.cells h.cells 37)
    exact by simpa using hq)
  have huh := Try.underlying37
  have HSH : Hid (∀ a : Hs, (Try.prog.info? 37).map (·.size) = some a.cells.size) := Lib.hid (fun a => by kernel_rfl)
  have HSHL : Hid (∀ a : Hs, (Try.prog.info? 37).map (·.size) = some a.cells.toList.length) := Lib.hid (fun a => by kernel_rfl)
  have H1C : Hid (∀ a : Hs, a.cells.all (·.oneCell') = true) := Lib.hid (fun a => by simp [Hs.cells, Value.oneCell'])
  clear hin hla C
  subst hW0
  go_enter Try.func5, Try.ntmps5
  go_wp2_with (first
    | (refine wpList_load_row rfl 37 (.tmp 2) rfl w.heap.size rfl _ _ _ _ HH0.out huh rfl (HSH.out _) ?_)
    | fail)
  refine (small_calls h _).mono ?_
  rintro e w1 ⟨⟨b, rfl, hb⟩, hb1⟩
  have HH1 := Lib.hid ((hb1.block _ (lt_of_block HH0.out)).trans HH0.out)
  have B1 := Lib.hid (B0.out.trans (hb1.mono B0.out.size))
  clear hb1
  cases b with
  | false =>
    clear hb
    go_wp2_with fail
    refine (HAW.out _).mono ?_
    rintro e w2 ⟨rfl, hb2⟩
    have HB2 := Lib.hid (B1.out.trans (hb2.mono B1.out.size))
    clear hb2
    go_wp2_with fail
    go_ret
    exact ⟨rfl, HB2.out⟩
  | true =>
    have HSM := Lib.hid (hb.1 rfl)
    clear hb
    have HT1 : Hid (HT h L w1) := Lib.hid (HIN.out.ht HSM.out B1.out)
    have HT0 : Hid (HT h L w) := Lib.hid (HIN.out.ht HSM.out (Below.refl _ _))
    go_wp2_with (first
      | (refine BigFrame.wpList_want (by kernel_rfl) (fun K hK => Go.wp_load_mid 37 (.tmp 2) rfl w.heap.size 0 rfl h.cells.toList _ (range_row0 HH1.out) huh rfl (HSHL.out _) (hK _ _ ?_)); clear hK K)
      | fail)
    refine (HCO.out.over h L _ HT1.out).mono ?_
    rintro e w2 ⟨A9, n9, c9, rfl, hn9, _, _, _, hb2⟩
    have HN9 := Lib.hid hn9
    have HH2 := Lib.hid ((hb2.block _ (lt_of_block HH1.out)).trans HH1.out)
    have B2 := Lib.hid (B1.out.trans (hb2.mono B1.out.size))
    have HT2 := Lib.hid (HT1.out.below hb2)
    clear hb2 hn9
    by_cases h0 : n9 = 0
    case neg =>
      have hq : (0 : Int) < (n9 : Int) := by omega
      go_wp2_with fail
      refine (HAW.out _).mono ?_
      rintro e w3 ⟨rfl, hb3⟩
      have HB3 := Lib.hid (B2.out.trans (hb3.mono B2.out.size))
      clear hb3 hq
      go_wp2_with fail
      go_ret
      exact ⟨rfl, HB3.out⟩
    subst h0
    have HST : Hid (HInv w h L w2) := Lib.hid ⟨⟨HT2.out, HIN.out.c, HT0.out.offge (Nat.le_refl _), HH2.out, B2.out, by have := B2.out.size; have := lt_of_block HH2.out; omega⟩, Nat.le_trans (HSM.out 0 (by decide)) (cap_le 0 (by decide)), Nat.le_trans (HSM.out 3 (by decide)) (cap_le 3 (by decide)), List.length_eq_zero_iff.1 HN9.out.symm⟩
    clear HN9
    go_wp2_with fail
    go_loopw [5] (fun i wr => ∃ (k : Nat) (a : Hs) (L : Nat → List (List Value)), k ≤ n1 ∧ k ≤ 30 ∧ i = .int .i64 (k : Int) ∧ Hid (HInv w a L wr)) (fun i _ => n1 - (intOf i).toNat)
    case atStart => exact ⟨0, h, L, by omega, by omega, rfl, HST⟩
    case round =>
      clear HST HSM HIN HT0 HT1 HT2 HH0 HH1 HH2 B0 B1 B2
      obtain ⟨k, a, L, hk, hk2, rfl, HI⟩ := hrel
      have hcase : (k < n1 ∧ k < 30) ∨ (k < n1 ∧ ¬ k < 30) ∨ ¬ k < n1 := by omega
      rcases hcase with ⟨hlt, hlt2⟩ | ⟨hlt, hlt2⟩ | hlt
      case inr.inl =>
        go_wp2_with fail
        refine (HAW.out _).mono ?_
        rintro e w3 ⟨rfl, hb3⟩
        have HB3 := Lib.hid (HI.out.b.bel.trans (hb3.mono HI.out.b.bel.size))
        clear hb3
        go_wp2_with fail
        go_ret
        exact ⟨rfl, HB3.out⟩
      case inr.inr =>
        go_wp2_with fail
        refine (HAW.out _).mono ?_
        rintro e w3 ⟨rfl, hb3⟩
        have HB3 := Lib.hid (HI.out.b.bel.trans (hb3.mono HI.out.b.bel.size))
        clear hb3
        go_wp2_with fail
        go_ret
        exact ⟨rfl, HB3.out⟩
      have hkl : k < LA.length := by rw [← HLA.out.2.1]; exact hlt
      obtain ⟨b, off, hA1, hb, hc⟩ := HLA.out.2.2.2.2.2.2.thing HLA.out.2.2.2.2.1 (by decide) hkl
      have fe := HLA.out.2.2.2.2.1 _ (List.getElem_mem hkl)
      have me := HLA.out.2.2.2.2.2.1 _ (List.getElem_mem hkl)
      have r0 := hc k hkl
      rw [show kAsk.length = 5 from rfl] at r0
      have HBL : Hid (b < w.heap.size) := Lib.hid hb
      obtain ⟨sb, si, nq, v, u, hx⟩ := ask_cells fe
      rw [hx] at r0 me
      have HWV : Hid (Wf v) := Lib.hid (wf_of (me (.int .i64 v) (by simp)))
      have HWU : Hid (Wf u) := Lib.hid (wf_of (me (.int .i64 u) (by simp)))
      have HLX : Hid (∀ W, Below w.heap.size w W → W.rangeAt b (off + k * 5) [.string sb, .string si, .int .i64 nq, .int .i64 v, .int .i64 u]) := Lib.hid (fun W hW => rangeAt_below r0 hb hW)
      subst hA1
      have h1 : (0 : Int) ≤ (k : Int) := by omega
      have h2 : (k : Int) < (n1 : Int) := by omega
      have h3 : (k : Int) < 30 := by omega
      have h4 : (k : Int) ≤ 9223372036854775806 := by omega
      clear hc r0 fe me hb hx hkl
      obtain ⟨j, hj⟩ : ∃ j, resE (L 0) (L 3) (L 4) si v u = j := ⟨_, rfl⟩
      have HJ := Lib.hid hj
      obtain ⟨lx, hlx⟩ : ∃ l, resL (L 0) si v u = l := ⟨_, rfl⟩
      have HL := Lib.hid hlx
      have HAD : Hid (∀ W, Below wr.heap.size wr W → Calls Try.prog 22 #[.agg a.cells, .string si, .int .i64 v, .int .i64 u] W (fun e' W' => Below W.heap.size W W' ∧ ∃ p : Hs, e' = .returned (.tuple #[.agg p.cells, .int .i64 (j : Nat)]) ∧ PutK 68 14 0 j lx a p W.heap.size W')) := Lib.hid (fun W hW => by
        have hI := HI.out.below hW
        have := HCO.out.resize a L si v u W hI.b.ht hI.n0 (hI.b.caps 0 (by decide)) HWV.out HWU.out
        rw [hj, hlx] at this
        exact this.mono fun e' W' h => h.k)
      clear hj hlx
      have ST7 : Hid (∀ W, Below wr.heap.size wr W → W.rangeAt w.heap.size 0 a.cells.toList ∧ W.cell? ⟨b, off + k * 5 + 1, none⟩ = some (.string si) ∧ W.cell? ⟨b, off + k * 5 + 3, none⟩ = some (.int .i64 v) ∧ W.cell? ⟨b, off + k * 5 + 4, none⟩ = some (.int .i64 u)) := Lib.hid (fun W hW => ⟨range_row0 (HI.out.below hW).b.box, HLX.out W (HI.out.below hW).b.bel 1 _ rfl, HLX.out W (HI.out.below hW).b.bel 3 _ rfl, HLX.out W (HI.out.below hW).b.bel 4 _ rfl⟩)
      have HSW : Hid (w.heap.size < wr.heap.size) := Lib.hid HI.out.b.sz
      go_wp2_with fail
      apply region_to2 (R := fun g (p : Hs) W => Hid (Below wr.heap.size wr W ∧ wr.heap.size ≤ g ∧ W.heap[g]? = some (.cells p.cells 37 (0, 0)) ∧ PutK 68 14 0 j lx a p wr.heap.size W ∧ Off g p (setE j L 0 lx)))
      · refine wp_region_held_drew (S := (fun w' => w'.rangeAt w.heap.size 0 a.cells.toList ∧ w'.cell? ⟨b, off + k * 5 + 1, none⟩ = some (.string si) ∧ w'.cell? ⟨b, off + k * 5 + 3, none⟩ = some (.int .i64 v) ∧ w'.cell? ⟨b, off + k * 5 + 4, none⟩ = some (.int .i64 u))) (by kernel_rfl) (ST7.out _ (Below.refl wr.heap.size wr).drew) (fun dd0 => ?_)
        refine wpAnyH_take (i := 0) (v := .agg a.cells) rfl (by kernel_rfl) (by kernel_rfl) (by kernel_rfl) (fun _ _ _ h => nomatch h.1) (yieldsIf_load_mid (by kernel_rfl) 37 (.tmp 2) rfl w.heap.size (0) rfl a.cells.toList _ (fun w h => h.1) huh rfl (HSHL.out _)) (by assumption) ?_
        (try simp only [Act.put, List.getElem_toArray, List.getElem_cons_zero, List.setIfInBounds_toArray, List.set_cons_zero, List.set_cons_succ])
        refine wpAnyH_take (i := 1) (v := .slice (some ⟨b, off, none⟩) n1 c1) rfl (by kernel_rfl) (by kernel_rfl) (by kernel_rfl) (fun _ _ _ h => nomatch h.1) (.inl ⟨by kernel_rfl, fun w hw => by clear hw; go_simp⟩) (by assumption) ?_
        (try simp only [Act.put, List.getElem_toArray, List.getElem_cons_succ, List.getElem_cons_zero, List.setIfInBounds_toArray, List.set_cons_zero, List.set_cons_succ])
        refine wpAnyH_take (i := 2) (v := .int .i64 (k : Int)) rfl (by kernel_rfl) (by kernel_rfl) (by kernel_rfl) (fun _ _ _ h => nomatch h.1) (.inl ⟨by kernel_rfl, fun w hw => by clear hw; go_simp⟩) (by assumption) ?_
        (try simp only [Act.put, List.getElem_toArray, List.getElem_cons_succ, List.getElem_cons_zero, List.setIfInBounds_toArray, List.set_cons_zero, List.set_cons_succ])
        refine wpAnyH_take (i := 3) (v := .pointer (some ⟨b, off + k * 5, none⟩)) rfl (by kernel_rfl) (by kernel_rfl) (by kernel_rfl) (fun _ _ _ h => nomatch h.1) (.inl ⟨by kernel_rfl, fun w hw => by clear hw; go_simp⟩) (by assumption) ?_
        (try simp only [Act.put, List.getElem_toArray, List.getElem_cons_succ, List.getElem_cons_zero, List.setIfInBounds_toArray, List.set_cons_zero, List.set_cons_succ])
        refine wpAnyH_take (i := 4) (v := .pointer (some ⟨b, off + k * 5 + 1, none⟩)) rfl (by kernel_rfl) (by kernel_rfl) (by kernel_rfl) (fun _ _ _ h => nomatch h.1) (.inl ⟨by kernel_rfl, fun w hw => by clear hw; go_simp⟩) (by assumption) ?_
        (try simp only [Act.put, List.getElem_toArray, List.getElem_cons_succ, List.getElem_cons_zero, List.setIfInBounds_toArray, List.set_cons_zero, List.set_cons_succ])
        refine wpAnyH_take (i := 5) (v := .string si) rfl (by kernel_rfl) (by kernel_rfl) (by kernel_rfl) (fun _ _ _ h => nomatch h.1) (.inl ⟨by kernel_rfl, fun w h => by have hw := h.2.1; clear h; go_simp⟩) (by assumption) ?_
        (try simp only [Act.put, List.getElem_toArray, List.getElem_cons_succ, List.getElem_cons_zero, List.setIfInBounds_toArray, List.set_cons_zero, List.set_cons_succ])
        refine wpAnyH_take (i := 6) (v := .slice (some ⟨b, off, none⟩) n1 c1) rfl (by kernel_rfl) (by kernel_rfl) (by kernel_rfl) (fun _ _ _ h => nomatch h.1) (.inl ⟨by kernel_rfl, fun w hw => by clear hw; go_simp⟩) (by assumption) ?_
        (try simp only [Act.put, List.getElem_toArray, List.getElem_cons_succ, List.getElem_cons_zero, List.setIfInBounds_toArray, List.set_cons_zero, List.set_cons_succ])
        refine wpAnyH_take (i := 7) (v := .int .i64 (k : Int)) rfl (by kernel_rfl) (by kernel_rfl) (by kernel_rfl) (fun _ _ _ h => nomatch h.1) (.inl ⟨by kernel_rfl, fun w hw => by clear hw; go_simp⟩) (by assumption) ?_
        (try simp only [Act.put, List.getElem_toArray, List.getElem_cons_succ, List.getElem_cons_zero, List.setIfInBounds_toArray, List.set_cons_zero, List.set_cons_succ])
        refine wpAnyH_take (i := 8) (v := .pointer (some ⟨b, off + k * 5, none⟩)) rfl (by kernel_rfl) (by kernel_rfl) (by kernel_rfl) (fun _ _ _ h => nomatch h.1) (.inl ⟨by kernel_rfl, fun w hw => by clear hw; go_simp⟩) (by assumption) ?_
        (try simp only [Act.put, List.getElem_toArray, List.getElem_cons_succ, List.getElem_cons_zero, List.setIfInBounds_toArray, List.set_cons_zero, List.set_cons_succ])
        refine wpAnyH_take (i := 9) (v := .pointer (some ⟨b, off + k * 5 + 3, none⟩)) rfl (by kernel_rfl) (by kernel_rfl) (by kernel_rfl) (fun _ _ _ h => nomatch h.1) (.inl ⟨by kernel_rfl, fun w hw => by clear hw; go_simp⟩) (by assumption) ?_
        (try simp only [Act.put, List.getElem_toArray, List.getElem_cons_succ, List.getElem_cons_zero, List.setIfInBounds_toArray, List.set_cons_zero, List.set_cons_succ])
        refine wpAnyH_take (i := 10) (v := .int .i64 v) rfl (by kernel_rfl) (by kernel_rfl) (by kernel_rfl) (fun _ _ _ h => nomatch h.1) (.inl ⟨by kernel_rfl, fun w h => by have hw := h.2.2.1; clear h; go_simp⟩) (by assumption) ?_
        (try simp only [Act.put, List.getElem_toArray, List.getElem_cons_succ, List.getElem_cons_zero, List.setIfInBounds_toArray, List.set_cons_zero, List.set_cons_succ])
        refine wpAnyH_take (i := 11) (v := .slice (some ⟨b, off, none⟩) n1 c1) rfl (by kernel_rfl) (by kernel_rfl) (by kernel_rfl) (fun _ _ _ h => nomatch h.1) (.inl ⟨by kernel_rfl, fun w hw => by clear hw; go_simp⟩) (by assumption) ?_
        (try simp only [Act.put, List.getElem_toArray, List.getElem_cons_succ, List.getElem_cons_zero, List.setIfInBounds_toArray, List.set_cons_zero, List.set_cons_succ])
        refine wpAnyH_take (i := 12) (v := .int .i64 (k : Int)) rfl (by kernel_rfl) (by kernel_rfl) (by kernel_rfl) (fun _ _ _ h => nomatch h.1) (.inl ⟨by kernel_rfl, fun w hw => by clear hw; go_simp⟩) (by assumption) ?_
        (try simp only [Act.put, List.getElem_toArray, List.getElem_cons_succ, List.getElem_cons_zero, List.setIfInBounds_toArray, List.set_cons_zero, List.set_cons_succ])
        refine wpAnyH_take (i := 13) (v := .pointer (some ⟨b, off + k * 5, none⟩)) rfl (by kernel_rfl) (by kernel_rfl) (by kernel_rfl) (fun _ _ _ h => nomatch h.1) (.inl ⟨by kernel_rfl, fun w hw => by clear hw; go_simp⟩) (by assumption) ?_
        (try simp only [Act.put, List.getElem_toArray, List.getElem_cons_succ, List.getElem_cons_zero, List.setIfInBounds_toArray, List.set_cons_zero, List.set_cons_succ])
        refine wpAnyH_take (i := 14) (v := .pointer (some ⟨b, off + k * 5 + 4, none⟩)) rfl (by kernel_rfl) (by kernel_rfl) (by kernel_rfl) (fun _ _ _ h => nomatch h.1) (.inl ⟨by kernel_rfl, fun w hw => by clear hw; go_simp⟩) (by assumption) ?_
        (try simp only [Act.put, List.getElem_toArray, List.getElem_cons_succ, List.getElem_cons_zero, List.setIfInBounds_toArray, List.set_cons_zero, List.set_cons_succ])
        refine wpAnyH_take (i := 15) (v := .int .i64 u) rfl (by kernel_rfl) (by kernel_rfl) (by kernel_rfl) (fun _ _ _ h => nomatch h.1) (.inl ⟨by kernel_rfl, fun w h => by have hw := h.2.2.2; clear h; go_simp⟩) (by assumption) ?_
        (try simp only [Act.put, List.getElem_toArray, List.getElem_cons_succ, List.getElem_cons_zero, List.setIfInBounds_toArray, List.set_cons_zero, List.set_cons_succ])
        refine wpAnyH_ready (rs := [16, 20]) (by kernel_rfl) (by simp) ?_
        refine AllReadyH.cons rfl (fun K hK => ?_) (AllReadyH.cons rfl (fun K hK => ?_) AllReadyH.nil)
        · go_simp
          refine (HAD.out _ (Below.refl wr.heap.size wr).drew).mono ?_
          rintro e' w2 ⟨hb2, p, rfl, hp⟩
          have H2 : Hid (Below wr.heap.size wr w2) := Lib.hid ((Below.refl wr.heap.size wr).drew.trans hb2)
          refine hK.out _ _ (ST7.out _ H2.out) (fun _ => ?_)
          clear hK K
          (try simp only [Act.put, List.getElem_toArray, List.getElem_cons_succ, List.getElem_cons_zero, List.setIfInBounds_toArray, List.set_cons_zero, List.set_cons_succ])
          refine wpAnyH_take (i := 17) (v := .tuple #[.agg p.cells, .int .i64 (j : Int)]) rfl (by kernel_rfl) (by kernel_rfl) (by kernel_rfl) (fun _ _ _ h => nomatch h.1) (.inl ⟨by kernel_rfl, fun w hw => by clear hw; go_simp⟩) (by assumption) ?_
          (try simp only [Act.put, List.getElem_toArray, List.getElem_cons_succ, List.getElem_cons_zero, List.setIfInBounds_toArray, List.set_cons_zero, List.set_cons_succ])
          refine wpAnyH_take (i := 18) (v := .agg p.cells) rfl (by kernel_rfl) (by kernel_rfl) (by kernel_rfl) (fun _ _ _ h => nomatch h.1) (.inl ⟨by kernel_rfl, fun w hw => by clear hw; go_simp⟩) (by assumption) ?_
          (try simp only [Act.put, List.getElem_toArray, List.getElem_cons_succ, List.getElem_cons_zero, List.setIfInBounds_toArray, List.set_cons_zero, List.set_cons_succ])
          refine wpAnyH_take (i := 19) (v := .int .i64 (j : Int)) rfl (by kernel_rfl) (by kernel_rfl) (by kernel_rfl) (fun _ _ _ h => nomatch h.1) (.inl ⟨by kernel_rfl, fun w hw => by clear hw; go_simp⟩) (by assumption) ?_
          (try simp only [Act.put, List.getElem_toArray, List.getElem_cons_succ, List.getElem_cons_zero, List.setIfInBounds_toArray, List.set_cons_zero, List.set_cons_succ])
          refine wpAnyH_ready (rs := [20]) (by kernel_rfl) (by simp) ?_
          refine AllReadyH.cons rfl (fun K hK => ?_) AllReadyH.nil
          go_simp
          have hal : Below wr.heap.size wr (w2.alloc (.cells #[.slice none 0 0, .slice none 0 0, .slice none 0 0, .slice none 0 0, .slice none 0 0, .slice none 0 0, .slice none 0 0, .slice none 0 0, .slice none 0 0, .slice none 0 0, .slice none 0 0, .slice none 0 0, .slice none 0 0, .slice none 0 0, .int .i64 0] 37)) := H2.out.alloc H2.out.size _
          have hbx := heap_alloc_new w2 (.cells #[.slice none 0 0, .slice none 0 0, .slice none 0 0, .slice none 0 0, .slice none 0 0, .slice none 0 0, .slice none 0 0, .slice none 0 0, .slice none 0 0, .slice none 0 0, .slice none 0 0, .slice none 0 0, .slice none 0 0, .slice none 0 0, .int .i64 0] 37)
          obtain ⟨g, hg⟩ : ∃ g, g = w2.heap.size := ⟨_, rfl⟩
          have HGW : Hid (wr.heap.size ≤ g) := Lib.hid (by rw [hg]; exact H2.out.size)
          have HOF : Hid (Off g p (setE j L 0 lx)) := Lib.hid (by rw [hg]; have hp2 := hp; rw [← HL.out] at hp2 ⊢; exact HT.offge (PutK.ht (i := 0) (by decide) (It.fits _) HI.out.n0 (HI.out.below H2.out).b.ht hp2) (Nat.le_refl _))
          obtain ⟨w3, hw3⟩ : ∃ w3, w3 = w2.alloc (.cells #[.slice none 0 0, .slice none 0 0, .slice none 0 0, .slice none 0 0, .slice none 0 0, .slice none 0 0, .slice none 0 0, .slice none 0 0, .slice none 0 0, .slice none 0 0, .slice none 0 0, .slice none 0 0, .slice none 0 0, .slice none 0 0, .int .i64 0] 37) := ⟨_, rfl⟩
          have HOP : Hid (PutK 68 14 0 j lx a p wr.heap.size (w3.setRow g p.cells)) := Lib.hid (hp.below (Nat.le_refl _) (by rw [hw3]; exact setRow_below ((Below.refl _ _).alloc (Nat.le_refl _) _) (Nat.le_of_eq hg.symm) _))
          rw [← hg] at hbx ⊢
          rw [← hw3] at hal hbx ⊢
          refine hK.out _ _ (ST7.out _ hal) (fun _ => ?_)
          clear hK K hp hb2 hw3 hg
          (try simp only [Act.put, List.getElem_toArray, List.getElem_cons_succ, List.getElem_cons_zero, List.setIfInBounds_toArray, List.set_cons_zero, List.set_cons_succ])
          refine wpAnyH_ready (rs := [21]) (by kernel_rfl) (by simp) ?_
          refine AllReadyH.cons rfl (fun K hK => ?_) AllReadyH.nil
          rw [if_pos (by kernel_rfl)]
          refine wp_store_row 37 (.tmp 6) (.tmp 46) rfl g p.cells rfl rfl _ _ hbx (HSH.out _) rfl (H1C.out _) ?_
          have hst : Below wr.heap.size wr (w3.setRow g p.cells) := setRow_below hal HGW.out _
          refine hK.out _ _ (ST7.out _ hst) (fun _ => ?_)
          clear hK K
          (try simp only [Act.put, List.getElem_toArray, List.getElem_cons_succ, List.getElem_cons_zero])
          refine wpAnyH_take (i := 22) (v := .int .i64 (j : Int)) rfl (by kernel_rfl) (by kernel_rfl) (by kernel_rfl) (fun _ _ _ h => nomatch h.1) (.inl ⟨by kernel_rfl, fun w hw => by clear hw; go_simp⟩) (by assumption) ?_
          (try simp only [Act.put, List.getElem_toArray, List.getElem_cons_succ, List.getElem_cons_zero, List.setIfInBounds_toArray, List.set_cons_zero, List.set_cons_succ])
          refine wpAnyH_done (by kernel_rfl) ?_ _
          exact ⟨rfl, g, p, rfl, Lib.hid ⟨hst, HGW.out, setRow_heap _ _ _ _ _ _ hbx, HOP.out, HOF.out⟩⟩
        · go_simp
          have hal0 : Below wr.heap.size wr (wr.alloc (.cells #[.slice none 0 0, .slice none 0 0, .slice none 0 0, .slice none 0 0, .slice none 0 0, .slice none 0 0, .slice none 0 0, .slice none 0 0, .slice none 0 0, .slice none 0 0, .slice none 0 0, .slice none 0 0, .slice none 0 0, .slice none 0 0, .int .i64 0] 37)).drew := ((Below.refl wr.heap.size wr).alloc (Nat.le_refl _) _).drew
          have hbx0 : (wr.alloc (.cells #[.slice none 0 0, .slice none 0 0, .slice none 0 0, .slice none 0 0, .slice none 0 0, .slice none 0 0, .slice none 0 0, .slice none 0 0, .slice none 0 0, .slice none 0 0, .slice none 0 0, .slice none 0 0, .slice none 0 0, .slice none 0 0, .int .i64 0] 37)).drew.heap[wr.heap.size]? = some (.cells #[.slice none 0 0, .slice none 0 0, .slice none 0 0, .slice none 0 0, .slice none 0 0, .slice none 0 0, .slice none 0 0, .slice none 0 0, .slice none 0 0, .slice none 0 0, .slice none 0 0, .slice none 0 0, .slice none 0 0, .slice none 0 0, .int .i64 0] 37 (0, 0)) := heap_alloc_new wr (.cells #[.slice none 0 0, .slice none 0 0, .slice none 0 0, .slice none 0 0, .slice none 0 0, .slice none 0 0, .slice none 0 0, .slice none 0 0, .slice none 0 0, .slice none 0 0, .slice none 0 0, .slice none 0 0, .slice none 0 0, .slice none 0 0, .int .i64 0] 37)
          obtain ⟨g, hg⟩ : ∃ g, g = wr.heap.size := ⟨_, rfl⟩
          have HGW : Hid (wr.heap.size ≤ g) := Lib.hid (by rw [hg]; exact Nat.le_refl _)
          obtain ⟨w3, hw3⟩ : ∃ w3, w3 = (wr.alloc (.cells #[.slice none 0 0, .slice none 0 0, .slice none 0 0, .slice none 0 0, .slice none 0 0, .slice none 0 0, .slice none 0 0, .slice none 0 0, .slice none 0 0, .slice none 0 0, .slice none 0 0, .slice none 0 0, .slice none 0 0, .slice none 0 0, .int .i64 0] 37)).drew := ⟨_, rfl⟩
          have HG3 : Hid (g < w3.heap.size) := Lib.hid (by rw [hw3, hg]; simp [World.drew])
          rw [← hw3] at hal0 hbx0 ⊢
          rw [← hg] at hbx0 ⊢
          refine hK.out _ _ (ST7.out _ hal0) (fun _ => ?_)
          clear hK K hw3 hg
          (try simp only [Act.put, List.getElem_toArray, List.getElem_cons_succ, List.getElem_cons_zero, List.setIfInBounds_toArray, List.set_cons_zero, List.set_cons_succ])
          refine wpAnyH_ready (rs := [16]) (by kernel_rfl) (by simp) ?_
          refine AllReadyH.cons rfl (fun K hK => ?_) AllReadyH.nil
          go_simp
          refine (HAD.out _ hal0).mono ?_
          rintro e' w2 ⟨hb2, p, rfl, hp⟩
          have hal : Below wr.heap.size wr w2 := hal0.trans (hb2.mono hal0.size)
          have hbx := (hb2.block g HG3.out).trans hbx0
          have HOP : Hid (PutK 68 14 0 j lx a p wr.heap.size (w2.setRow g p.cells)) := Lib.hid (hp.rowed HG3.out hal0.size _)
          have HOF : Hid (Off g p (setE j L 0 lx)) := Lib.hid (hp.off HG3.out (HI.out.b.ht.offge HGW.out))
          refine hK.out _ _ (ST7.out _ hal) (fun _ => ?_)
          clear hK K hp hb2 hbx0 hal0
          (try simp only [Act.put, List.getElem_toArray, List.getElem_cons_succ, List.getElem_cons_zero, List.setIfInBounds_toArray, List.set_cons_zero, List.set_cons_succ])
          refine wpAnyH_take (i := 17) (v := .tuple #[.agg p.cells, .int .i64 (j : Int)]) rfl (by kernel_rfl) (by kernel_rfl) (by kernel_rfl) (fun _ _ _ h => nomatch h.1) (.inl ⟨by kernel_rfl, fun w hw => by clear hw; go_simp⟩) (by assumption) ?_
          (try simp only [Act.put, List.getElem_toArray, List.getElem_cons_succ, List.getElem_cons_zero, List.setIfInBounds_toArray, List.set_cons_zero, List.set_cons_succ])
          refine wpAnyH_take (i := 18) (v := .agg p.cells) rfl (by kernel_rfl) (by kernel_rfl) (by kernel_rfl) (fun _ _ _ h => nomatch h.1) (.inl ⟨by kernel_rfl, fun w hw => by clear hw; go_simp⟩) (by assumption) ?_
          (try simp only [Act.put, List.getElem_toArray, List.getElem_cons_succ, List.getElem_cons_zero, List.setIfInBounds_toArray, List.set_cons_zero, List.set_cons_succ])
          refine wpAnyH_take (i := 19) (v := .int .i64 (j : Int)) rfl (by kernel_rfl) (by kernel_rfl) (by kernel_rfl) (fun _ _ _ h => nomatch h.1) (.inl ⟨by kernel_rfl, fun w hw => by clear hw; go_simp⟩) (by assumption) ?_
          (try simp only [Act.put, List.getElem_toArray, List.getElem_cons_succ, List.getElem_cons_zero, List.setIfInBounds_toArray, List.set_cons_zero, List.set_cons_succ])
          refine wpAnyH_ready (rs := [21]) (by kernel_rfl) (by simp) ?_
          refine AllReadyH.cons rfl (fun K hK => ?_) AllReadyH.nil
          rw [if_pos (by kernel_rfl)]
          refine wp_store_row 37 (.tmp 6) (.tmp 46) rfl g p.cells rfl rfl _ _ hbx (HSH.out _) rfl (H1C.out _) ?_
          have hst : Below wr.heap.size wr (w2.setRow g p.cells) := setRow_below hal HGW.out _
          refine hK.out _ _ (ST7.out _ hst) (fun _ => ?_)
          clear hK K
          (try simp only [Act.put, List.getElem_toArray, List.getElem_cons_succ, List.getElem_cons_zero])
          refine wpAnyH_take (i := 22) (v := .int .i64 (j : Int)) rfl (by kernel_rfl) (by kernel_rfl) (by kernel_rfl) (fun _ _ _ h => nomatch h.1) (.inl ⟨by kernel_rfl, fun w hw => by clear hw; go_simp⟩) (by assumption) ?_
          (try simp only [Act.put, List.getElem_toArray, List.getElem_cons_succ, List.getElem_cons_zero, List.setIfInBounds_toArray, List.set_cons_zero, List.set_cons_succ])
          refine wpAnyH_done (by kernel_rfl) ?_ _
          exact ⟨rfl, g, p, rfl, Lib.hid ⟨hst, HGW.out, setRow_heap _ _ _ _ _ _ hbx, HOP.out, HOF.out⟩⟩
      · intro g p W1 hR
        have HB1 := Lib.hid hR.out.1
        have HGE := Lib.hid hR.out.2.1
        have HG1 := Lib.hid hR.out.2.2.1
        have HP1 := Lib.hid hR.out.2.2.2.1
        have HF1 := Lib.hid hR.out.2.2.2.2
        have HI1 := Lib.hid (HI.out.below HB1.out)
        have HSG : Hid (w.heap.size < g) := Lib.hid (Nat.lt_of_lt_of_le HSW.out HGE.out)
        clear hR ST7 HAD
        by_cases hj0 : j = 0
        · subst hj0
          have HTP : Hid (HT p (setE 0 L 0 lx) W1) := Lib.hid (by have hp := HP1.out; rw [← HL.out] at hp ⊢; exact PutK.ht (by decide) (It.fits _) HI1.out.n0 HI1.out.b.ht hp)
          go_wp2_with (first
            | (refine wpList_load_row rfl 37 (.tmp 6) rfl g rfl _ _ _ _ HG1.out huh rfl (HSH.out _) ?_)
            | fail)
          refine (HCO.out.over p _ _ HTP.out).mono ?_
          rintro e w4 ⟨A8, n8, c8, rfl, hn8, _, _, _, hb4⟩
          have hr8 : HT p (setE 0 L 0 lx) w4 ∧ overL (setE 0 L 0 lx 0) (setE 0 L 0 lx 3) (setE 0 L 0 lx 4) = [] ∧ HInv w p (setE 0 L 0 lx) (w4.setRow w.heap.size p.cells) := by
            have hp := HP1.out.below (Nat.le_refl _) hb4
            rw [← HL.out] at hp ⊢
            exact (HI1.out.below hb4).res HJ.out hp HSW.out
          obtain rfl : n8 = 0 := by rw [hn8, hr8.2.1]; rfl
          obtain ⟨w5, hw5⟩ : ∃ W, W = w4.setRow w.heap.size p.cells := ⟨_, rfl⟩
          have HI5 : Hid (HInv w p (setE 0 L 0 lx) w5) := Lib.hid (by rw [hw5]; exact hr8.2.2)
          have HI4 := Lib.hid (HI1.out.below hb4)
          have HG4 := Lib.hid ((hb4.block _ (lt_of_block HG1.out)).trans HG1.out)
          have HG5 : Hid (w5.heap[g]? = some (.cells p.cells 37 (0, 0))) := Lib.hid (by rw [hw5]; exact (setRow_other w4 w.heap.size g _ (by have := HSG.out; omega)).trans HG4.out)
          have HW5 := Lib.hid hw5
          clear hb4 hr8 hw5 hn8
          go_upto_region 11 with (first
            | (refine wpList_load_row rfl 37 (.tmp 6) rfl g rfl _ _ _ _ HG4.out huh rfl (HSH.out _) ?_)
            | (refine wpList_store_row rfl 37 (.tmp 2) (.tmp 54) rfl w.heap.size p.cells rfl rfl _ _ HI4.out.b.box (HSH.out _) rfl (H1C.out _) ?_); rw [← HW5.out]
            | fail)
          obtain ⟨LN, hLN⟩ : ∃ x, x = setE 0 L 0 lx := ⟨_, rfl⟩
          rw [← hLN] at HI5 HF1
          clear hLN HTP
          obtain ⟨j2, hj2⟩ : ∃ j, limE (LN 0) (LN 3) (LN 4) sb v u = j := ⟨_, rfl⟩
          have HJ2 := Lib.hid hj2
          obtain ⟨l2, hl2⟩ : ∃ l, limL (LN 3) sb v u = l := ⟨_, rfl⟩
          have HL2 := Lib.hid hl2
          have HAD : Hid (∀ W, Below w5.heap.size w5 W → Calls Try.prog 24 #[.agg p.cells, .string sb, .int .i64 v, .int .i64 u] W (fun e' W' => Below W.heap.size W W' ∧ ∃ pp : Hs, e' = .returned (.tuple #[.agg pp.cells, .int .i64 (j2 : Nat)]) ∧ PutK 57 8 3 j2 l2 p pp W.heap.size W')) := Lib.hid (fun W hW => by
            have hI := HI5.out.below hW
            have := HCO.out.limit p LN sb v u W hI.b.ht hI.n3 (hI.b.caps 3 (by decide)) HWV.out HWU.out
            rw [hj2, hl2] at this
            exact this.mono fun e' W' h => h.k)
          clear hj2 hl2
          have ST8 : Hid (∀ W, Below w5.heap.size w5 W → W.rangeAt w.heap.size 0 p.cells.toList ∧ W.cell? ⟨b, off + k * 5, none⟩ = some (.string sb) ∧ W.cell? ⟨b, off + k * 5 + 3, none⟩ = some (.int .i64 v) ∧ W.cell? ⟨b, off + k * 5 + 4, none⟩ = some (.int .i64 u)) := Lib.hid (fun W hW => ⟨range_row0 (HI5.out.below hW).b.box, HLX.out W (HI5.out.below hW).b.bel 0 _ rfl, HLX.out W (HI5.out.below hW).b.bel 3 _ rfl, HLX.out W (HI5.out.below hW).b.bel 4 _ rfl⟩)
          go_wp2_with fail
          refine wp_region_noPanic ?_
          refine wp_region_held_drew (S := (fun w' => w'.rangeAt w.heap.size 0 p.cells.toList ∧ w'.cell? ⟨b, off + k * 5, none⟩ = some (.string sb) ∧ w'.cell? ⟨b, off + k * 5 + 3, none⟩ = some (.int .i64 v) ∧ w'.cell? ⟨b, off + k * 5 + 4, none⟩ = some (.int .i64 u))) (by kernel_rfl) (ST8.out _ (Below.refl w5.heap.size w5).drew) (fun dd0 => ?_)
          refine wpAnyH_take (i := 0) (v := .agg p.cells) rfl (by kernel_rfl) (by kernel_rfl) (by kernel_rfl) (fun _ _ _ h => h.elim) (yieldsIf_load_mid (by kernel_rfl) 37 (.tmp 2) rfl w.heap.size (0) rfl p.cells.toList _ (fun w h => h.1) huh rfl (HSHL.out _)) (by assumption) ?_
          (try simp only [Act.put, List.getElem_toArray, List.getElem_cons_zero, List.setIfInBounds_toArray, List.set_cons_zero, List.set_cons_succ])
          refine wpAnyH_take (i := 1) (v := .slice (some ⟨b, off, none⟩) n1 c1) rfl (by kernel_rfl) (by kernel_rfl) (by kernel_rfl) (fun _ _ _ h => h.elim) (.inl ⟨by kernel_rfl, fun w hw => by clear hw; go_simp⟩) (by assumption) ?_
          (try simp only [Act.put, List.getElem_toArray, List.getElem_cons_succ, List.getElem_cons_zero, List.setIfInBounds_toArray, List.set_cons_zero, List.set_cons_succ])
          refine wpAnyH_take (i := 2) (v := .int .i64 (k : Int)) rfl (by kernel_rfl) (by kernel_rfl) (by kernel_rfl) (fun _ _ _ h => h.elim) (.inl ⟨by kernel_rfl, fun w hw => by clear hw; go_simp⟩) (by assumption) ?_
          (try simp only [Act.put, List.getElem_toArray, List.getElem_cons_succ, List.getElem_cons_zero, List.setIfInBounds_toArray, List.set_cons_zero, List.set_cons_succ])
          refine wpAnyH_take (i := 3) (v := .pointer (some ⟨b, off + k * 5, none⟩)) rfl (by kernel_rfl) (by kernel_rfl) (by kernel_rfl) (fun _ _ _ h => h.elim) (.inl ⟨by kernel_rfl, fun w hw => by clear hw; go_simp⟩) (by assumption) ?_
          (try simp only [Act.put, List.getElem_toArray, List.getElem_cons_succ, List.getElem_cons_zero, List.setIfInBounds_toArray, List.set_cons_zero, List.set_cons_succ])
          refine wpAnyH_take (i := 4) (v := .pointer (some ⟨b, off + k * 5, none⟩)) rfl (by kernel_rfl) (by kernel_rfl) (by kernel_rfl) (fun _ _ _ h => h.elim) (.inl ⟨by kernel_rfl, fun w hw => by clear hw; go_simp⟩) (by assumption) ?_
          (try simp only [Act.put, List.getElem_toArray, List.getElem_cons_succ, List.getElem_cons_zero, List.setIfInBounds_toArray, List.set_cons_zero, List.set_cons_succ])
          refine wpAnyH_take (i := 5) (v := .string sb) rfl (by kernel_rfl) (by kernel_rfl) (by kernel_rfl) (fun _ _ _ h => h.elim) (.inl ⟨by kernel_rfl, fun w h => by have hw := h.2.1; clear h; go_simp⟩) (by assumption) ?_
          (try simp only [Act.put, List.getElem_toArray, List.getElem_cons_succ, List.getElem_cons_zero, List.setIfInBounds_toArray, List.set_cons_zero, List.set_cons_succ])
          refine wpAnyH_take (i := 6) (v := .slice (some ⟨b, off, none⟩) n1 c1) rfl (by kernel_rfl) (by kernel_rfl) (by kernel_rfl) (fun _ _ _ h => h.elim) (.inl ⟨by kernel_rfl, fun w hw => by clear hw; go_simp⟩) (by assumption) ?_
          (try simp only [Act.put, List.getElem_toArray, List.getElem_cons_succ, List.getElem_cons_zero, List.setIfInBounds_toArray, List.set_cons_zero, List.set_cons_succ])
          refine wpAnyH_take (i := 7) (v := .int .i64 (k : Int)) rfl (by kernel_rfl) (by kernel_rfl) (by kernel_rfl) (fun _ _ _ h => h.elim) (.inl ⟨by kernel_rfl, fun w hw => by clear hw; go_simp⟩) (by assumption) ?_
          (try simp only [Act.put, List.getElem_toArray, List.getElem_cons_succ, List.getElem_cons_zero, List.setIfInBounds_toArray, List.set_cons_zero, List.set_cons_succ])
          refine wpAnyH_take (i := 8) (v := .pointer (some ⟨b, off + k * 5, none⟩)) rfl (by kernel_rfl) (by kernel_rfl) (by kernel_rfl) (fun _ _ _ h => h.elim) (.inl ⟨by kernel_rfl, fun w hw => by clear hw; go_simp⟩) (by assumption) ?_
          (try simp only [Act.put, List.getElem_toArray, List.getElem_cons_succ, List.getElem_cons_zero, List.setIfInBounds_toArray, List.set_cons_zero, List.set_cons_succ])
          refine wpAnyH_take (i := 9) (v := .pointer (some ⟨b, off + k * 5 + 3, none⟩)) rfl (by kernel_rfl) (by kernel_rfl) (by kernel_rfl) (fun _ _ _ h => h.elim) (.inl ⟨by kernel_rfl, fun w hw => by clear hw; go_simp⟩) (by assumption) ?_
          (try simp only [Act.put, List.getElem_toArray, List.getElem_cons_succ, List.getElem_cons_zero, List.setIfInBounds_toArray, List.set_cons_zero, List.set_cons_succ])
          refine wpAnyH_take (i := 10) (v := .int .i64 v) rfl (by kernel_rfl) (by kernel_rfl) (by kernel_rfl) (fun _ _ _ h => h.elim) (.inl ⟨by kernel_rfl, fun w h => by have hw := h.2.2.1; clear h; go_simp⟩) (by assumption) ?_
          (try simp only [Act.put, List.getElem_toArray, List.getElem_cons_succ, List.getElem_cons_zero, List.setIfInBounds_toArray, List.set_cons_zero, List.set_cons_succ])
          refine wpAnyH_take (i := 11) (v := .slice (some ⟨b, off, none⟩) n1 c1) rfl (by kernel_rfl) (by kernel_rfl) (by kernel_rfl) (fun _ _ _ h => h.elim) (.inl ⟨by kernel_rfl, fun w hw => by clear hw; go_simp⟩) (by assumption) ?_
          (try simp only [Act.put, List.getElem_toArray, List.getElem_cons_succ, List.getElem_cons_zero, List.setIfInBounds_toArray, List.set_cons_zero, List.set_cons_succ])
          refine wpAnyH_take (i := 12) (v := .int .i64 (k : Int)) rfl (by kernel_rfl) (by kernel_rfl) (by kernel_rfl) (fun _ _ _ h => h.elim) (.inl ⟨by kernel_rfl, fun w hw => by clear hw; go_simp⟩) (by assumption) ?_
          (try simp only [Act.put, List.getElem_toArray, List.getElem_cons_succ, List.getElem_cons_zero, List.setIfInBounds_toArray, List.set_cons_zero, List.set_cons_succ])
          refine wpAnyH_take (i := 13) (v := .pointer (some ⟨b, off + k * 5, none⟩)) rfl (by kernel_rfl) (by kernel_rfl) (by kernel_rfl) (fun _ _ _ h => h.elim) (.inl ⟨by kernel_rfl, fun w hw => by clear hw; go_simp⟩) (by assumption) ?_
          (try simp only [Act.put, List.getElem_toArray, List.getElem_cons_succ, List.getElem_cons_zero, List.setIfInBounds_toArray, List.set_cons_zero, List.set_cons_succ])
          refine wpAnyH_take (i := 14) (v := .pointer (some ⟨b, off + k * 5 + 4, none⟩)) rfl (by kernel_rfl) (by kernel_rfl) (by kernel_rfl) (fun _ _ _ h => h.elim) (.inl ⟨by kernel_rfl, fun w hw => by clear hw; go_simp⟩) (by assumption) ?_
          (try simp only [Act.put, List.getElem_toArray, List.getElem_cons_succ, List.getElem_cons_zero, List.setIfInBounds_toArray, List.set_cons_zero, List.set_cons_succ])
          refine wpAnyH_take (i := 15) (v := .int .i64 u) rfl (by kernel_rfl) (by kernel_rfl) (by kernel_rfl) (fun _ _ _ h => h.elim) (.inl ⟨by kernel_rfl, fun w h => by have hw := h.2.2.2; clear h; go_simp⟩) (by assumption) ?_
          (try simp only [Act.put, List.getElem_toArray, List.getElem_cons_succ, List.getElem_cons_zero, List.setIfInBounds_toArray, List.set_cons_zero, List.set_cons_succ])
          refine wpAnyH_ready (rs := [16]) (by kernel_rfl) (by simp) ?_
          refine AllReadyH.cons rfl (fun K hK => ?_) AllReadyH.nil
          go_simp
          refine (HAD.out _ (Below.refl w5.heap.size w5).drew).mono ?_
          rintro e' w6 ⟨hb6, p2, rfl, hp2⟩
          have H6 : Hid (Below w5.heap.size w5 w6) := Lib.hid ((Below.refl w5.heap.size w5).drew.trans hb6)
          have HP2 := Lib.hid hp2
          refine hK.out _ _ (ST8.out _ H6.out) (fun _ => ?_)
          clear hK K hb6 hp2
          (try simp only [Act.put, List.getElem_toArray, List.getElem_cons_succ, List.getElem_cons_zero, List.setIfInBounds_toArray, List.set_cons_zero, List.set_cons_succ])
          refine wpAnyH_take (i := 17) (v := .tuple #[.agg p2.cells, .int .i64 (j2 : Int)]) rfl (by kernel_rfl) (by kernel_rfl) (by kernel_rfl) (fun _ _ _ h => h.elim) (.inl ⟨by kernel_rfl, fun w hw => by clear hw; go_simp⟩) (by assumption) ?_
          (try simp only [Act.put, List.getElem_toArray, List.getElem_cons_succ, List.getElem_cons_zero, List.setIfInBounds_toArray, List.set_cons_zero, List.set_cons_succ])
          refine wpAnyH_take (i := 18) (v := .agg p2.cells) rfl (by kernel_rfl) (by kernel_rfl) (by kernel_rfl) (fun _ _ _ h => h.elim) (.inl ⟨by kernel_rfl, fun w hw => by clear hw; go_simp⟩) (by assumption) ?_
          (try simp only [Act.put, List.getElem_toArray, List.getElem_cons_succ, List.getElem_cons_zero, List.setIfInBounds_toArray, List.set_cons_zero, List.set_cons_succ])
          refine wpAnyH_take (i := 19) (v := .int .i64 (j2 : Int)) rfl (by kernel_rfl) (by kernel_rfl) (by kernel_rfl) (fun _ _ _ h => h.elim) (.inl ⟨by kernel_rfl, fun w hw => by clear hw; go_simp⟩) (by assumption) ?_
          (try simp only [Act.put, List.getElem_toArray, List.getElem_cons_succ, List.getElem_cons_zero, List.setIfInBounds_toArray, List.set_cons_zero, List.set_cons_succ])
          have HG6 := Lib.hid ((H6.out.block _ (lt_of_block HG5.out)).trans HG5.out)
          have HGL : Hid (g < w5.heap.size) := Lib.hid (lt_of_block HG5.out)
          refine wpAnyH_ready (rs := [20]) (by kernel_rfl) (by simp) ?_
          refine AllReadyH.cons rfl (fun K hK => ?_) AllReadyH.nil
          rw [if_pos (by kernel_rfl)]
          refine wp_store_row 37 (.tmp 6) (.tmp 73) rfl g p2.cells rfl rfl _ _ HG6.out (HSH.out _) rfl (H1C.out _) ?_
          have st := ST8.out _ H6.out
          refine hK.out _ _ ⟨range_other st.1 (by have := HSG.out; omega), cell_other st.2.1 (by have := HSG.out; have := HBL.out; omega), cell_other st.2.2.1 (by have := HSG.out; have := HBL.out; omega), cell_other st.2.2.2 (by have := HSG.out; have := HBL.out; omega)⟩ (fun _ => ?_)
          clear hK K st
          (try simp only [Act.put, List.getElem_toArray, List.getElem_cons_succ, List.getElem_cons_zero])
          refine wpAnyH_take (i := 21) (v := .int .i64 (j2 : Int)) rfl (by kernel_rfl) (by kernel_rfl) (by kernel_rfl) (fun _ _ _ h => h.elim) (.inl ⟨by kernel_rfl, fun w hw => by clear hw; go_simp⟩) (by assumption) ?_
          (try simp only [Act.put, List.getElem_toArray, List.getElem_cons_succ, List.getElem_cons_zero, List.setIfInBounds_toArray, List.set_cons_zero, List.set_cons_succ])
          refine wpAnyH_done (by kernel_rfl) ?_ _
          refine NoPanic.normal ?_
          obtain ⟨w7, hw7⟩ : ∃ W, W = w6.setRow g p2.cells := ⟨_, rfl⟩
          have HI7 : Hid (HInv w p LN w7) := Lib.hid (by rw [hw7]; exact (HI5.out.below H6.out).other HSG.out HF1.out _)
          have HG7 : Hid (w7.heap[g]? = some (.cells p2.cells 37 (0, 0))) := Lib.hid (by rw [hw7]; exact setRow_heap _ _ _ _ _ _ HG6.out)
          have HP7 : Hid (PutK 57 8 3 j2 l2 p p2 w5.heap.size w7) := Lib.hid (by rw [hw7]; exact HP2.out.rowed HGL.out (Nat.le_refl _) _)
          rw [← hw7]
          clear hw7 ST8 HAD
          by_cases hk0 : j2 = 0
          · subst hk0
            have HTP : Hid (HT p2 (setE 0 LN 3 l2) w7) := Lib.hid (by have hp := HP7.out; rw [← HL2.out] at hp ⊢; exact PutK.ht (by decide) (Bn.fits _) HI7.out.n3 HI7.out.b.ht hp)
            go_wp2_with (first
              | (refine wpList_load_row rfl 37 (.tmp 6) rfl g rfl _ _ _ _ HG7.out huh rfl (HSH.out _) ?_)
              | fail)
            refine (HCO.out.over p2 _ _ HTP.out).mono ?_
            rintro e w8 ⟨A8, n8, c8, rfl, hn8, _, _, _, hb8⟩
            have hr8 : HT p2 (setE 0 LN 3 l2) w8 ∧ overL (setE 0 LN 3 l2 0) (setE 0 LN 3 l2 3) (setE 0 LN 3 l2 4) = [] ∧ HInv w p2 (setE 0 LN 3 l2) (w8.setRow w.heap.size p2.cells) := by
              have hp := HP7.out.below (Nat.le_refl _) hb8
              rw [← HL2.out] at hp ⊢
              exact (HI7.out.below hb8).lim HJ2.out hp (Nat.lt_trans HSG.out HGL.out)
            obtain rfl : n8 = 0 := by rw [hn8, hr8.2.1]; rfl
            have HDN := Lib.hid hr8.2.2
            have HI8 := Lib.hid (HI7.out.below hb8)
            have HG8 := Lib.hid ((hb8.block _ (lt_of_block HG7.out)).trans HG7.out)
            clear hb8 hr8 hn8
            go_wp2_with (first
              | (refine wpList_load_row rfl 37 (.tmp 6) rfl g rfl _ _ _ _ HG8.out huh rfl (HSH.out _) ?_)
              | (refine wpList_store_row rfl 37 (.tmp 2) (.tmp 81) rfl w.heap.size p2.cells rfl rfl _ _ HI8.out.b.box (HSH.out _) rfl (H1C.out _) ?_)
              | fail)
            go_roundw
            case rel => exact ⟨k + 1, p2, _, by omega, by omega, by go_num, HDN⟩
            case measure => simp [intOf]; omega
          · have hjb : ((j2 : Int) == 0) = false := by simpa using hk0
            clear hk0
            go_wp2_with fail
            go_roundw
            case rel => exact ⟨k + 1, p, _, by omega, by omega, by go_num, HI7⟩
            case measure => simp [intOf]; omega
        · have hjb : ((j : Int) == 0) = false := by simpa using hj0
          have HFA : Hid (Off g a L) := Lib.hid (HI.out.b.ht.offge HGE.out)
          clear hj0
          go_upto_region 11 with fail
          obtain ⟨j2, hj2⟩ : ∃ j, limE (L 0) (L 3) (L 4) sb v u = j := ⟨_, rfl⟩
          have HJ2 := Lib.hid hj2
          obtain ⟨l2, hl2⟩ : ∃ l, limL (L 3) sb v u = l := ⟨_, rfl⟩
          have HL2 := Lib.hid hl2
          have HAD : Hid (∀ W, Below W1.heap.size W1 W → Calls Try.prog 24 #[.agg a.cells, .string sb, .int .i64 v, .int .i64 u] W (fun e' W' => Below W.heap.size W W' ∧ ∃ pp : Hs, e' = .returned (.tuple #[.agg pp.cells, .int .i64 (j2 : Nat)]) ∧ PutK 57 8 3 j2 l2 a pp W.heap.size W')) := Lib.hid (fun W hW => by
            have hI := HI1.out.below hW
            have := HCO.out.limit a L sb v u W hI.b.ht hI.n3 (hI.b.caps 3 (by decide)) HWV.out HWU.out
            rw [hj2, hl2] at this
            exact this.mono fun e' W' h => h.k)
          clear hj2 hl2
          have ST8 : Hid (∀ W, Below W1.heap.size W1 W → W.rangeAt w.heap.size 0 a.cells.toList ∧ W.cell? ⟨b, off + k * 5, none⟩ = some (.string sb) ∧ W.cell? ⟨b, off + k * 5 + 3, none⟩ = some (.int .i64 v) ∧ W.cell? ⟨b, off + k * 5 + 4, none⟩ = some (.int .i64 u)) := Lib.hid (fun W hW => ⟨range_row0 (HI1.out.below hW).b.box, HLX.out W (HI1.out.below hW).b.bel 0 _ rfl, HLX.out W (HI1.out.below hW).b.bel 3 _ rfl, HLX.out W (HI1.out.below hW).b.bel 4 _ rfl⟩)
          go_wp2_with fail
          refine wp_region_noPanic ?_
          refine wp_region_held_drew (S := (fun w' => w'.rangeAt w.heap.size 0 a.cells.toList ∧ w'.cell? ⟨b, off + k * 5, none⟩ = some (.string sb) ∧ w'.cell? ⟨b, off + k * 5 + 3, none⟩ = some (.int .i64 v) ∧ w'.cell? ⟨b, off + k * 5 + 4, none⟩ = some (.int .i64 u))) (by kernel_rfl) (ST8.out _ (Below.refl W1.heap.size W1).drew) (fun dd0 => ?_)
          refine wpAnyH_take (i := 0) (v := .agg a.cells) rfl (by kernel_rfl) (by kernel_rfl) (by kernel_rfl) (fun _ _ _ h => h.elim) (yieldsIf_load_mid (by kernel_rfl) 37 (.tmp 2) rfl w.heap.size (0) rfl a.cells.toList _ (fun w h => h.1) huh rfl (HSHL.out _)) (by assumption) ?_
          (try simp only [Act.put, List.getElem_toArray, List.getElem_cons_zero, List.setIfInBounds_toArray, List.set_cons_zero, List.set_cons_succ])
          refine wpAnyH_take (i := 1) (v := .slice (some ⟨b, off, none⟩) n1 c1) rfl (by kernel_rfl) (by kernel_rfl) (by kernel_rfl) (fun _ _ _ h => h.elim) (.inl ⟨by kernel_rfl, fun w hw => by clear hw; go_simp⟩) (by assumption) ?_
          (try simp only [Act.put, List.getElem_toArray, List.getElem_cons_succ, List.getElem_cons_zero, List.setIfInBounds_toArray, List.set_cons_zero, List.set_cons_succ])
          refine wpAnyH_take (i := 2) (v := .int .i64 (k : Int)) rfl (by kernel_rfl) (by kernel_rfl) (by kernel_rfl) (fun _ _ _ h => h.elim) (.inl ⟨by kernel_rfl, fun w hw => by clear hw; go_simp⟩) (by assumption) ?_
          (try simp only [Act.put, List.getElem_toArray, List.getElem_cons_succ, List.getElem_cons_zero, List.setIfInBounds_toArray, List.set_cons_zero, List.set_cons_succ])
          refine wpAnyH_take (i := 3) (v := .pointer (some ⟨b, off + k * 5, none⟩)) rfl (by kernel_rfl) (by kernel_rfl) (by kernel_rfl) (fun _ _ _ h => h.elim) (.inl ⟨by kernel_rfl, fun w hw => by clear hw; go_simp⟩) (by assumption) ?_
          (try simp only [Act.put, List.getElem_toArray, List.getElem_cons_succ, List.getElem_cons_zero, List.setIfInBounds_toArray, List.set_cons_zero, List.set_cons_succ])
          refine wpAnyH_take (i := 4) (v := .pointer (some ⟨b, off + k * 5, none⟩)) rfl (by kernel_rfl) (by kernel_rfl) (by kernel_rfl) (fun _ _ _ h => h.elim) (.inl ⟨by kernel_rfl, fun w hw => by clear hw; go_simp⟩) (by assumption) ?_
          (try simp only [Act.put, List.getElem_toArray, List.getElem_cons_succ, List.getElem_cons_zero, List.setIfInBounds_toArray, List.set_cons_zero, List.set_cons_succ])
          refine wpAnyH_take (i := 5) (v := .string sb) rfl (by kernel_rfl) (by kernel_rfl) (by kernel_rfl) (fun _ _ _ h => h.elim) (.inl ⟨by kernel_rfl, fun w h => by have hw := h.2.1; clear h; go_simp⟩) (by assumption) ?_
          (try simp only [Act.put, List.getElem_toArray, List.getElem_cons_succ, List.getElem_cons_zero, List.setIfInBounds_toArray, List.set_cons_zero, List.set_cons_succ])
          refine wpAnyH_take (i := 6) (v := .slice (some ⟨b, off, none⟩) n1 c1) rfl (by kernel_rfl) (by kernel_rfl) (by kernel_rfl) (fun _ _ _ h => h.elim) (.inl ⟨by kernel_rfl, fun w hw => by clear hw; go_simp⟩) (by assumption) ?_
          (try simp only [Act.put, List.getElem_toArray, List.getElem_cons_succ, List.getElem_cons_zero, List.setIfInBounds_toArray, List.set_cons_zero, List.set_cons_succ])
          refine wpAnyH_take (i := 7) (v := .int .i64 (k : Int)) rfl (by kernel_rfl) (by kernel_rfl) (by kernel_rfl) (fun _ _ _ h => h.elim) (.inl ⟨by kernel_rfl, fun w hw => by clear hw; go_simp⟩) (by assumption) ?_
          (try simp only [Act.put, List.getElem_toArray, List.getElem_cons_succ, List.getElem_cons_zero, List.setIfInBounds_toArray, List.set_cons_zero, List.set_cons_succ])
          refine wpAnyH_take (i := 8) (v := .pointer (some ⟨b, off + k * 5, none⟩)) rfl (by kernel_rfl) (by kernel_rfl) (by kernel_rfl) (fun _ _ _ h => h.elim) (.inl ⟨by kernel_rfl, fun w hw => by clear hw; go_simp⟩) (by assumption) ?_
          (try simp only [Act.put, List.getElem_toArray, List.getElem_cons_succ, List.getElem_cons_zero, List.setIfInBounds_toArray, List.set_cons_zero, List.set_cons_succ])
          refine wpAnyH_take (i := 9) (v := .pointer (some ⟨b, off + k * 5 + 3, none⟩)) rfl (by kernel_rfl) (by kernel_rfl) (by kernel_rfl) (fun _ _ _ h => h.elim) (.inl ⟨by kernel_rfl, fun w hw => by clear hw; go_simp⟩) (by assumption) ?_
          (try simp only [Act.put, List.getElem_toArray, List.getElem_cons_succ, List.getElem_cons_zero, List.setIfInBounds_toArray, List.set_cons_zero, List.set_cons_succ])
          refine wpAnyH_take (i := 10) (v := .int .i64 v) rfl (by kernel_rfl) (by kernel_rfl) (by kernel_rfl) (fun _ _ _ h => h.elim) (.inl ⟨by kernel_rfl, fun w h => by have hw := h.2.2.1; clear h; go_simp⟩) (by assumption) ?_
          (try simp only [Act.put, List.getElem_toArray, List.getElem_cons_succ, List.getElem_cons_zero, List.setIfInBounds_toArray, List.set_cons_zero, List.set_cons_succ])
          refine wpAnyH_take (i := 11) (v := .slice (some ⟨b, off, none⟩) n1 c1) rfl (by kernel_rfl) (by kernel_rfl) (by kernel_rfl) (fun _ _ _ h => h.elim) (.inl ⟨by kernel_rfl, fun w hw => by clear hw; go_simp⟩) (by assumption) ?_
          (try simp only [Act.put, List.getElem_toArray, List.getElem_cons_succ, List.getElem_cons_zero, List.setIfInBounds_toArray, List.set_cons_zero, List.set_cons_succ])
          refine wpAnyH_take (i := 12) (v := .int .i64 (k : Int)) rfl (by kernel_rfl) (by kernel_rfl) (by kernel_rfl) (fun _ _ _ h => h.elim) (.inl ⟨by kernel_rfl, fun w hw => by clear hw; go_simp⟩) (by assumption) ?_
          (try simp only [Act.put, List.getElem_toArray, List.getElem_cons_succ, List.getElem_cons_zero, List.setIfInBounds_toArray, List.set_cons_zero, List.set_cons_succ])
          refine wpAnyH_take (i := 13) (v := .pointer (some ⟨b, off + k * 5, none⟩)) rfl (by kernel_rfl) (by kernel_rfl) (by kernel_rfl) (fun _ _ _ h => h.elim) (.inl ⟨by kernel_rfl, fun w hw => by clear hw; go_simp⟩) (by assumption) ?_
          (try simp only [Act.put, List.getElem_toArray, List.getElem_cons_succ, List.getElem_cons_zero, List.setIfInBounds_toArray, List.set_cons_zero, List.set_cons_succ])
          refine wpAnyH_take (i := 14) (v := .pointer (some ⟨b, off + k * 5 + 4, none⟩)) rfl (by kernel_rfl) (by kernel_rfl) (by kernel_rfl) (fun _ _ _ h => h.elim) (.inl ⟨by kernel_rfl, fun w hw => by clear hw; go_simp⟩) (by assumption) ?_
          (try simp only [Act.put, List.getElem_toArray, List.getElem_cons_succ, List.getElem_cons_zero, List.setIfInBounds_toArray, List.set_cons_zero, List.set_cons_succ])
          refine wpAnyH_take (i := 15) (v := .int .i64 u) rfl (by kernel_rfl) (by kernel_rfl) (by kernel_rfl) (fun _ _ _ h => h.elim) (.inl ⟨by kernel_rfl, fun w h => by have hw := h.2.2.2; clear h; go_simp⟩) (by assumption) ?_
          (try simp only [Act.put, List.getElem_toArray, List.getElem_cons_succ, List.getElem_cons_zero, List.setIfInBounds_toArray, List.set_cons_zero, List.set_cons_succ])
          refine wpAnyH_ready (rs := [16]) (by kernel_rfl) (by simp) ?_
          refine AllReadyH.cons rfl (fun K hK => ?_) AllReadyH.nil
          go_simp
          refine (HAD.out _ (Below.refl W1.heap.size W1).drew).mono ?_
          rintro e' w6 ⟨hb6, p2, rfl, hp2⟩
          have H6 : Hid (Below W1.heap.size W1 w6) := Lib.hid ((Below.refl W1.heap.size W1).drew.trans hb6)
          have HP2 := Lib.hid hp2
          refine hK.out _ _ (ST8.out _ H6.out) (fun _ => ?_)
          clear hK K hb6 hp2
          (try simp only [Act.put, List.getElem_toArray, List.getElem_cons_succ, List.getElem_cons_zero, List.setIfInBounds_toArray, List.set_cons_zero, List.set_cons_succ])
          refine wpAnyH_take (i := 17) (v := .tuple #[.agg p2.cells, .int .i64 (j2 : Int)]) rfl (by kernel_rfl) (by kernel_rfl) (by kernel_rfl) (fun _ _ _ h => h.elim) (.inl ⟨by kernel_rfl, fun w hw => by clear hw; go_simp⟩) (by assumption) ?_
          (try simp only [Act.put, List.getElem_toArray, List.getElem_cons_succ, List.getElem_cons_zero, List.setIfInBounds_toArray, List.set_cons_zero, List.set_cons_succ])
          refine wpAnyH_take (i := 18) (v := .agg p2.cells) rfl (by kernel_rfl) (by kernel_rfl) (by kernel_rfl) (fun _ _ _ h => h.elim) (.inl ⟨by kernel_rfl, fun w hw => by clear hw; go_simp⟩) (by assumption) ?_
          (try simp only [Act.put, List.getElem_toArray, List.getElem_cons_succ, List.getElem_cons_zero, List.setIfInBounds_toArray, List.set_cons_zero, List.set_cons_succ])
          refine wpAnyH_take (i := 19) (v := .int .i64 (j2 : Int)) rfl (by kernel_rfl) (by kernel_rfl) (by kernel_rfl) (fun _ _ _ h => h.elim) (.inl ⟨by kernel_rfl, fun w hw => by clear hw; go_simp⟩) (by assumption) ?_
          (try simp only [Act.put, List.getElem_toArray, List.getElem_cons_succ, List.getElem_cons_zero, List.setIfInBounds_toArray, List.set_cons_zero, List.set_cons_succ])
          have HG6 := Lib.hid ((H6.out.block _ (lt_of_block HG1.out)).trans HG1.out)
          have HGL : Hid (g < W1.heap.size) := Lib.hid (lt_of_block HG1.out)
          refine wpAnyH_ready (rs := [20]) (by kernel_rfl) (by simp) ?_
          refine AllReadyH.cons rfl (fun K hK => ?_) AllReadyH.nil
          rw [if_pos (by kernel_rfl)]
          refine wp_store_row 37 (.tmp 6) (.tmp 73) rfl g p2.cells rfl rfl _ _ HG6.out (HSH.out _) rfl (H1C.out _) ?_
          have st := ST8.out _ H6.out
          refine hK.out _ _ ⟨range_other st.1 (by have := HSG.out; omega), cell_other st.2.1 (by have := HSG.out; have := HBL.out; omega), cell_other st.2.2.1 (by have := HSG.out; have := HBL.out; omega), cell_other st.2.2.2 (by have := HSG.out; have := HBL.out; omega)⟩ (fun _ => ?_)
          clear hK K st
          (try simp only [Act.put, List.getElem_toArray, List.getElem_cons_succ, List.getElem_cons_zero])
          refine wpAnyH_take (i := 21) (v := .int .i64 (j2 : Int)) rfl (by kernel_rfl) (by kernel_rfl) (by kernel_rfl) (fun _ _ _ h => h.elim) (.inl ⟨by kernel_rfl, fun w hw => by clear hw; go_simp⟩) (by assumption) ?_
          (try simp only [Act.put, List.getElem_toArray, List.getElem_cons_succ, List.getElem_cons_zero, List.setIfInBounds_toArray, List.set_cons_zero, List.set_cons_succ])
          refine wpAnyH_done (by kernel_rfl) ?_ _
          refine NoPanic.normal ?_
          obtain ⟨w7, hw7⟩ : ∃ W, W = w6.setRow g p2.cells := ⟨_, rfl⟩
          have HI7 : Hid (HInv w a L w7) := Lib.hid (by rw [hw7]; exact (HI1.out.below H6.out).other HSG.out HFA.out _)
          have HG7 : Hid (w7.heap[g]? = some (.cells p2.cells 37 (0, 0))) := Lib.hid (by rw [hw7]; exact setRow_heap _ _ _ _ _ _ HG6.out)
          have HP7 : Hid (PutK 57 8 3 j2 l2 a p2 W1.heap.size w7) := Lib.hid (by rw [hw7]; exact HP2.out.rowed HGL.out (Nat.le_refl _) _)
          rw [← hw7]
          clear hw7 ST8 HAD
          by_cases hk0 : j2 = 0
          · subst hk0
            have HTP : Hid (HT p2 (setE 0 L 3 l2) w7) := Lib.hid (by have hp := HP7.out; rw [← HL2.out] at hp ⊢; exact PutK.ht (by decide) (Bn.fits _) HI7.out.n3 HI7.out.b.ht hp)
            go_wp2_with (first
              | (refine wpList_load_row rfl 37 (.tmp 6) rfl g rfl _ _ _ _ HG7.out huh rfl (HSH.out _) ?_)
              | fail)
            refine (HCO.out.over p2 _ _ HTP.out).mono ?_
            rintro e w8 ⟨A8, n8, c8, rfl, hn8, _, _, _, hb8⟩
            have hr8 : HT p2 (setE 0 L 3 l2) w8 ∧ overL (setE 0 L 3 l2 0) (setE 0 L 3 l2 3) (setE 0 L 3 l2 4) = [] ∧ HInv w p2 (setE 0 L 3 l2) (w8.setRow w.heap.size p2.cells) := by
              have hp := HP7.out.below (Nat.le_refl _) hb8
              rw [← HL2.out] at hp ⊢
              exact (HI7.out.below hb8).lim HJ2.out hp (Nat.lt_trans HSG.out HGL.out)
            obtain rfl : n8 = 0 := by rw [hn8, hr8.2.1]; rfl
            have HDN := Lib.hid hr8.2.2
            have HI8 := Lib.hid (HI7.out.below hb8)
            have HG8 := Lib.hid ((hb8.block _ (lt_of_block HG7.out)).trans HG7.out)
            clear hb8 hr8 hn8
            go_wp2_with (first
              | (refine wpList_load_row rfl 37 (.tmp 6) rfl g rfl _ _ _ _ HG8.out huh rfl (HSH.out _) ?_)
              | (refine wpList_store_row rfl 37 (.tmp 2) (.tmp 81) rfl w.heap.size p2.cells rfl rfl _ _ HI8.out.b.box (HSH.out _) rfl (H1C.out _) ?_)
              | fail)
            go_roundw
            case rel => exact ⟨k + 1, p2, _, by omega, by omega, by go_num, HDN⟩
            case measure => simp [intOf]; omega
          · have hjb : ((j2 : Int) == 0) = false := by simpa using hk0
            clear hk0
            go_wp2_with fail
            go_roundw
            case rel => exact ⟨k + 1, a, _, by omega, by omega, by go_num, HI7⟩
            case measure => simp [intOf]; omega
end Go.Proofs.Ythoblccmdadmmaa.roomHolds
