/-
  THE LAW ItemsFinds, over the contracts. (By wip/tools/gen_finds7.py.)
-/
import Derived.Test.YtcihibmapbigdaaIAwake
import Derived.Test.YtcihibmapbigdaaIFinv
import Derived.Test.YtcihibmapbigdaaIRow
import Derived.Test.YtcihibmapbigdaaHTo
import Derived.Test.YtcihibmapbigdaaHHeld
import Derived.Test.YtcihibmapbigdaaHGrow
import Derived.Test.YtcihibmapbigdaaHEqs
import Derived.Test.YtcihibmapbigdaaHKept
namespace Go.Proofs.Ytcihibmapbigdaa.itemsFinds
set_option linter.unusedVariables false
open Go.RowKit Go.Maps
open Pl (It putG)

set_option maxRecDepth 100000 in
set_option maxHeartbeats 6400000 in
theorem walk (A : Option Addr) (n c : Nat) (l : List (List Value)) (w : World) (hin : LIn kItem w (.slice A n c) A n c l) :
    Calls Try.prog 4 #[.slice A n c] w fun e w' => e = .returned (.bool true) ∧ Below w.heap.size w w' := by
  have hmm := @run_makeMap Try.prog
  obtain ⟨_, hn, _, hcm, hl, hmild, hr⟩ := hin
  have HN := Lib.hid hn
  have HR := Lib.hid hr
  have HL := Lib.hid hl
  have HM := Lib.hid hmild
  have HST := Lib.hid (FInv.start w)
  have huh := Try.underlying37
  have hui := Try.underlying42
  have HSH : Hid (∀ a : Hs, (Try.prog.info? 37).map (·.size) = some a.cells.size) := Lib.hid (fun a => by kernel_rfl)
  have HSHL : Hid (∀ a : Hs, (Try.prog.info? 37).map (·.size) = some a.cells.toList.length) := Lib.hid (fun a => by kernel_rfl)
  have H1C : Hid (∀ a : Hs, a.cells.all (·.oneCell') = true) := Lib.hid (fun a => by simp [Hs.cells, Value.oneCell'])
  have HSZ : Hid (∀ y, Fits kItem y → (Try.prog.info? 42).map (·.size) = some y.length) := Lib.hid (fun y hy => by rw [show (Try.prog.info? 42).map (·.size) = some 14 from by kernel_rfl, hy.length]; rfl)
  clear hn hr hl hmild
  go_enter Try.func4, Try.ntmps4
  go_wp2_with fail
  go_loopw [5] (fun i wr => ∃ (k : Nat) (q : Option Addr × Nat × Nat) (L : List (List Value)) (f : ByteArray → Option Value), k ≤ n ∧ k ≤ 100 ∧ i = .int .i64 (k : Int) ∧ Hid (FInv w k q L f wr)) (fun i _ => n - (intOf i).toNat)
  case atStart => exact ⟨0, (none, 0, 0), [], _, by omega, by omega, rfl, HST⟩
  case round =>
    obtain ⟨k, q, L, f, hk, hk2, rfl, HI⟩ := hrel
    have hcase : (k < n ∧ k < 100) ∨ (k < n ∧ ¬ k < 100) ∨ ¬ k < n := by omega
    rcases hcase with ⟨hlt, hlt2⟩ | ⟨hlt, hlt2⟩ | hlt
    · have hkl : k < l.length := by rw [← HN.out]; exact hlt
      have hlen : ((HI.out.map.lt : _) = (HI.out.map.lt : _)) := rfl
      have hmap := HI.out.map.len Try.underlying54 3
      obtain ⟨b, off, rfl, hb, hc⟩ := HR.out.thing HL.out (by decide) hkl
      have fe := HL.out _ (List.getElem_mem hkl)
      have me := HM.out _ (List.getElem_mem hkl)
      have r0 := hc k hkl
      rw [show kItem.length = 14 from rfl] at r0
      obtain ⟨e, he⟩ : ∃ e, l[k] = e := ⟨_, rfl⟩
      rw [he] at fe r0 me
      obtain ⟨x, hx⟩ := It.of fe
      have HOK : Hid (x.Ok) := Lib.hid (It.ok_of (by rw [← hx]; exact me))
      have HFE := Lib.hid fe
      have HXE := Lib.hid hx
      have HEL : Hid ((Try.prog.info? 42).map (·.size) = some e.length) := Lib.hid (HSZ.out e fe)
      have HLB : Hid (∀ W, Below w.heap.size w W → W.rangeAt b (off + k * 14) e) := Lib.hid (fun W hW => rangeAt_below r0 hb hW)
      have h1 : (0 : Int) ≤ (k : Int) := by omega
      have h2 : (k : Int) < (n : Int) := by omega
      have h3 : (k : Int) < 100 := by omega
      clear hc r0 he fe me hx hlen hb
      obtain ⟨j, hj⟩ : ∃ j, addE L e (Pl.chE x) = j := ⟨_, rfl⟩
      have HJ := Lib.hid hj
      have HAD : Hid (∀ W, FInv w k q L f W → Calls Try.prog 11 #[.agg (hsI q).cells, .agg e.toArray] W fun e' W' => Below W.heap.size W W' ∧ ∃ p : Option Addr × Nat × Nat, e' = .returned (.tuple #[.agg (hsI p).cells, .int .i64 j]) ∧
          (j = 0 → p.2.1 = (putG ordI L e).length ∧ W'.ownsRow W.heap.size 42 14 (.slice p.1 p.2.1 p.2.2) p.2.1 (putG ordI L e).flatten)) := Lib.hid (fun W hW => by
        have := addsI q x L W HOK.out hW.n hW.n64 hW.mc hW.cm hW.t hW.rd
        rw [← HXE.out, hj] at this
        exact this)
      clear hj
      have ST7 : Hid (∀ W, Below wr.heap.size wr W → W.rangeAt w.heap.size 0 (hsI q).cells.toList ∧ W.rangeAt b (off + k * 14) e) := Lib.hid (fun W hW => ⟨range_row0 (HI.out.below hW).box, HLB.out W (HI.out.below hW).bel⟩)
      go_wp2_with fail
      apply region_to2 (R := fun g (p : Option Addr × Nat × Nat) W => Hid (Below wr.heap.size wr W ∧ wr.heap.size ≤ g ∧ W.heap[g]? = some (.cells (hsI p).cells 37 (0, 0)) ∧ (j = 0 → p.2.1 = (putG ordI L e).length ∧ W.ownsRow wr.heap.size 42 14 (.slice p.1 p.2.1 p.2.2) p.2.1 (putG ordI L e).flatten)))
      · refine wp_region_held_drew (S := (fun w' => w'.rangeAt w.heap.size 0 (hsI q).cells.toList ∧ w'.rangeAt b (off + k * 14) e)) (by kernel_rfl) (ST7.out _ (Below.refl wr.heap.size wr).drew) (fun dd0 => ?_)
        refine wpAnyH_take (i := 0) (v := .agg (hsI q).cells) rfl (by kernel_rfl) (by kernel_rfl) (by kernel_rfl) (fun _ _ _ h => nomatch h.1) (yieldsIf_load_mid (by kernel_rfl) 37 (.tmp 3) rfl w.heap.size (0) rfl (hsI q).cells.toList _ (fun w h => h.1) huh rfl (HSHL.out _)) (by assumption) ?_
        (try simp only [Act.put, List.getElem_toArray, List.getElem_cons_zero, List.setIfInBounds_toArray, List.set_cons_zero, List.set_cons_succ])
        refine wpAnyH_take (i := 1) (v := .slice (some ⟨b, off, none⟩) n c) rfl (by kernel_rfl) (by kernel_rfl) (by kernel_rfl) (fun _ _ _ h => nomatch h.1) (.inl ⟨by kernel_rfl, fun w hw => by clear hw; go_simp⟩) (by assumption) ?_
        (try simp only [Act.put, List.getElem_toArray, List.getElem_cons_succ, List.getElem_cons_zero, List.setIfInBounds_toArray, List.set_cons_zero, List.set_cons_succ])
        refine wpAnyH_take (i := 2) (v := .int .i64 (k : Int)) rfl (by kernel_rfl) (by kernel_rfl) (by kernel_rfl) (fun _ _ _ h => nomatch h.1) (.inl ⟨by kernel_rfl, fun w hw => by clear hw; go_simp⟩) (by assumption) ?_
        (try simp only [Act.put, List.getElem_toArray, List.getElem_cons_succ, List.getElem_cons_zero, List.setIfInBounds_toArray, List.set_cons_zero, List.set_cons_succ])
        refine wpAnyH_take (i := 3) (v := .pointer (some ⟨b, off + k * 14, none⟩)) rfl (by kernel_rfl) (by kernel_rfl) (by kernel_rfl) (fun _ _ _ h => nomatch h.1) (.inl ⟨by kernel_rfl, fun w hw => by clear hw; go_simp⟩) (by assumption) ?_
        (try simp only [Act.put, List.getElem_toArray, List.getElem_cons_succ, List.getElem_cons_zero, List.setIfInBounds_toArray, List.set_cons_zero, List.set_cons_succ])
        refine wpAnyH_take (i := 4) (v := .agg e.toArray) rfl (by kernel_rfl) (by kernel_rfl) (by kernel_rfl) (fun _ _ _ h => nomatch h.1) (yieldsIf_load_mid (by kernel_rfl) 42 (.tmp 31) rfl b (off + k * 14) rfl e _ (fun w h => h.2) hui rfl HEL.out) (by assumption) ?_
        (try simp only [Act.put, List.getElem_toArray, List.getElem_cons_succ, List.getElem_cons_zero, List.setIfInBounds_toArray, List.set_cons_zero, List.set_cons_succ])
        refine wpAnyH_ready (rs := [5, 9]) (by kernel_rfl) (by simp) ?_
        refine AllReadyH.cons rfl (fun K hK => ?_) (AllReadyH.cons rfl (fun K hK => ?_) AllReadyH.nil)
        · go_simp
          refine (HAD.out _ (HI.out.below (Below.refl wr.heap.size wr).drew)).mono ?_
          rintro e' w2 ⟨hb2, p, rfl, hp⟩
          have H2 : Hid (Below wr.heap.size wr w2) := Lib.hid ((Below.refl wr.heap.size wr).drew.trans hb2)
          refine hK.out _ _ (ST7.out _ H2.out) (fun _ => ?_)
          clear hK K
          (try simp only [Act.put, List.getElem_toArray, List.getElem_cons_succ, List.getElem_cons_zero, List.setIfInBounds_toArray, List.set_cons_zero, List.set_cons_succ])
          refine wpAnyH_take (i := 6) (v := .tuple #[.agg (hsI p).cells, .int .i64 (j : Int)]) rfl (by kernel_rfl) (by kernel_rfl) (by kernel_rfl) (fun _ _ _ h => nomatch h.1) (.inl ⟨by kernel_rfl, fun w hw => by clear hw; go_simp⟩) (by assumption) ?_
          (try simp only [Act.put, List.getElem_toArray, List.getElem_cons_succ, List.getElem_cons_zero, List.setIfInBounds_toArray, List.set_cons_zero, List.set_cons_succ])
          refine wpAnyH_take (i := 7) (v := .agg (hsI p).cells) rfl (by kernel_rfl) (by kernel_rfl) (by kernel_rfl) (fun _ _ _ h => nomatch h.1) (.inl ⟨by kernel_rfl, fun w hw => by clear hw; go_simp⟩) (by assumption) ?_
          (try simp only [Act.put, List.getElem_toArray, List.getElem_cons_succ, List.getElem_cons_zero, List.setIfInBounds_toArray, List.set_cons_zero, List.set_cons_succ])
          refine wpAnyH_take (i := 8) (v := .int .i64 (j : Int)) rfl (by kernel_rfl) (by kernel_rfl) (by kernel_rfl) (fun _ _ _ h => nomatch h.1) (.inl ⟨by kernel_rfl, fun w hw => by clear hw; go_simp⟩) (by assumption) ?_
          (try simp only [Act.put, List.getElem_toArray, List.getElem_cons_succ, List.getElem_cons_zero, List.setIfInBounds_toArray, List.set_cons_zero, List.set_cons_succ])
          refine wpAnyH_ready (rs := [9]) (by kernel_rfl) (by simp) ?_
          refine AllReadyH.cons rfl (fun K hK => ?_) AllReadyH.nil
          go_simp
          have hal : Below wr.heap.size wr (w2.alloc (.cells #[.slice none 0 0, .slice none 0 0, .slice none 0 0, .slice none 0 0, .slice none 0 0, .slice none 0 0, .slice none 0 0, .slice none 0 0, .slice none 0 0, .slice none 0 0, .slice none 0 0, .slice none 0 0, .slice none 0 0, .slice none 0 0, .int .i64 0] 37)) := H2.out.alloc H2.out.size _
          have hbx := heap_alloc_new w2 (.cells #[.slice none 0 0, .slice none 0 0, .slice none 0 0, .slice none 0 0, .slice none 0 0, .slice none 0 0, .slice none 0 0, .slice none 0 0, .slice none 0 0, .slice none 0 0, .slice none 0 0, .slice none 0 0, .slice none 0 0, .slice none 0 0, .int .i64 0] 37)
          obtain ⟨g, hg⟩ : ∃ g, g = w2.heap.size := ⟨_, rfl⟩
          have HGW : Hid (wr.heap.size ≤ g) := Lib.hid (by rw [hg]; exact H2.out.size)
          obtain ⟨w3, hw3⟩ : ∃ w3, w3 = w2.alloc (.cells #[.slice none 0 0, .slice none 0 0, .slice none 0 0, .slice none 0 0, .slice none 0 0, .slice none 0 0, .slice none 0 0, .slice none 0 0, .slice none 0 0, .slice none 0 0, .slice none 0 0, .slice none 0 0, .slice none 0 0, .slice none 0 0, .int .i64 0] 37) := ⟨_, rfl⟩
          have HOP : Hid (j = 0 → p.2.1 = (putG ordI L e).length ∧ (w3.setRow g (hsI p).cells).ownsRow wr.heap.size 42 14 (.slice p.1 p.2.1 p.2.2) p.2.1 (putG ordI L e).flatten) := Lib.hid (fun h0 => ⟨(hp h0).1, own_below (hp h0).2 (by rw [hw3]; exact setRow_below ((Below.refl _ _).alloc (Nat.le_refl _) _) (Nat.le_of_eq hg.symm) _)⟩)
          rw [← hg] at hbx ⊢
          rw [← hw3] at hal hbx ⊢
          refine hK.out _ _ (ST7.out _ hal) (fun _ => ?_)
          clear hK K hp hb2 hw3 hg
          (try simp only [Act.put, List.getElem_toArray, List.getElem_cons_succ, List.getElem_cons_zero, List.setIfInBounds_toArray, List.set_cons_zero, List.set_cons_succ])
          refine wpAnyH_ready (rs := [10]) (by kernel_rfl) (by simp) ?_
          refine AllReadyH.cons rfl (fun K hK => ?_) AllReadyH.nil
          rw [if_pos (by kernel_rfl)]
          refine wp_store_row 37 (.tmp 7) (.tmp 34) rfl g (hsI p).cells rfl rfl _ _ hbx (HSH.out _) rfl (H1C.out _) ?_
          have hst : Below wr.heap.size wr (w3.setRow g (hsI p).cells) := setRow_below hal HGW.out _
          refine hK.out _ _ (ST7.out _ hst) (fun _ => ?_)
          clear hK K
          (try simp only [Act.put, List.getElem_toArray, List.getElem_cons_succ, List.getElem_cons_zero])
          refine wpAnyH_take (i := 11) (v := .int .i64 (j : Int)) rfl (by kernel_rfl) (by kernel_rfl) (by kernel_rfl) (fun _ _ _ h => nomatch h.1) (.inl ⟨by kernel_rfl, fun w hw => by clear hw; go_simp⟩) (by assumption) ?_
          (try simp only [Act.put, List.getElem_toArray, List.getElem_cons_succ, List.getElem_cons_zero, List.setIfInBounds_toArray, List.set_cons_zero, List.set_cons_succ])
          refine wpAnyH_done (by kernel_rfl) ?_ _
          exact ⟨rfl, g, p, rfl, Lib.hid ⟨hst, HGW.out, setRow_heap _ _ _ _ _ _ hbx, HOP.out⟩⟩
        · go_simp
          have hal0 : Below wr.heap.size wr (wr.alloc (.cells #[.slice none 0 0, .slice none 0 0, .slice none 0 0, .slice none 0 0, .slice none 0 0, .slice none 0 0, .slice none 0 0, .slice none 0 0, .slice none 0 0, .slice none 0 0, .slice none 0 0, .slice none 0 0, .slice none 0 0, .slice none 0 0, .int .i64 0] 37)).drew := ((Below.refl wr.heap.size wr).alloc (Nat.le_refl _) _).drew
          have hbx0 : (wr.alloc (.cells #[.slice none 0 0, .slice none 0 0, .slice none 0 0, .slice none 0 0, .slice none 0 0, .slice none 0 0, .slice none 0 0, .slice none 0 0, .slice none 0 0, .slice none 0 0, .slice none 0 0, .slice none 0 0, .slice none 0 0, .slice none 0 0, .int .i64 0] 37)).drew.heap[wr.heap.size]? = some (.cells #[.slice none 0 0, .slice none 0 0, .slice none 0 0, .slice none 0 0, .slice none 0 0, .slice none 0 0, .slice none 0 0, .slice none 0 0, .slice none 0 0, .slice none 0 0, .slice none 0 0, .slice none 0 0, .slice none 0 0, .slice none 0 0, .int .i64 0] 37 (0, 0)) := heap_alloc_new wr (.cells #[.slice none 0 0, .slice none 0 0, .slice none 0 0, .slice none 0 0, .slice none 0 0, .slice none 0 0, .slice none 0 0, .slice none 0 0, .slice none 0 0, .slice none 0 0, .slice none 0 0, .slice none 0 0, .slice none 0 0, .slice none 0 0, .int .i64 0] 37)
          obtain ⟨g, hg⟩ : ∃ g, g = wr.heap.size := ⟨_, rfl⟩
          have HGW : Hid (wr.heap.size ≤ g) := Lib.hid (by rw [hg]; exact Nat.le_refl _)
          obtain ⟨w3, hw3⟩ : ∃ w3, w3 = (wr.alloc (.cells #[.slice none 0 0, .slice none 0 0, .slice none 0 0, .slice none 0 0, .slice none 0 0, .slice none 0 0, .slice none 0 0, .slice none 0 0, .slice none 0 0, .slice none 0 0, .slice none 0 0, .slice none 0 0, .slice none 0 0, .slice none 0 0, .int .i64 0] 37)).drew := ⟨_, rfl⟩
          have HG3 : Hid (g < w3.heap.size) := Lib.hid (by rw [hw3, hg]; simp [World.drew])
          rw [← hw3] at hal0 hbx0 ⊢
          rw [← hg] at hbx0 ⊢
          refine hK.out _ _ (ST7.out _ hal0) (fun _ => ?_)
          clear hK K hw3 hg
          (try simp only [Act.put, List.getElem_toArray, List.getElem_cons_succ, List.getElem_cons_zero, List.setIfInBounds_toArray, List.set_cons_zero, List.set_cons_succ])
          refine wpAnyH_ready (rs := [5]) (by kernel_rfl) (by simp) ?_
          refine AllReadyH.cons rfl (fun K hK => ?_) AllReadyH.nil
          go_simp
          refine (HAD.out _ (HI.out.below hal0)).mono ?_
          rintro e' w2 ⟨hb2, p, rfl, hp⟩
          have hal : Below wr.heap.size wr w2 := hal0.trans (hb2.mono hal0.size)
          have hbx := (hb2.block g HG3.out).trans hbx0
          have HOP : Hid (j = 0 → p.2.1 = (putG ordI L e).length ∧ (w2.setRow g (hsI p).cells).ownsRow wr.heap.size 42 14 (.slice p.1 p.2.1 p.2.2) p.2.1 (putG ordI L e).flatten) := Lib.hid (fun h0 => ⟨(hp h0).1, own_rowed (hp h0).2 HG3.out hal0.size⟩)
          refine hK.out _ _ (ST7.out _ hal) (fun _ => ?_)
          clear hK K hp hb2 hbx0 hal0
          (try simp only [Act.put, List.getElem_toArray, List.getElem_cons_succ, List.getElem_cons_zero, List.setIfInBounds_toArray, List.set_cons_zero, List.set_cons_succ])
          refine wpAnyH_take (i := 6) (v := .tuple #[.agg (hsI p).cells, .int .i64 (j : Int)]) rfl (by kernel_rfl) (by kernel_rfl) (by kernel_rfl) (fun _ _ _ h => nomatch h.1) (.inl ⟨by kernel_rfl, fun w hw => by clear hw; go_simp⟩) (by assumption) ?_
          (try simp only [Act.put, List.getElem_toArray, List.getElem_cons_succ, List.getElem_cons_zero, List.setIfInBounds_toArray, List.set_cons_zero, List.set_cons_succ])
          refine wpAnyH_take (i := 7) (v := .agg (hsI p).cells) rfl (by kernel_rfl) (by kernel_rfl) (by kernel_rfl) (fun _ _ _ h => nomatch h.1) (.inl ⟨by kernel_rfl, fun w hw => by clear hw; go_simp⟩) (by assumption) ?_
          (try simp only [Act.put, List.getElem_toArray, List.getElem_cons_succ, List.getElem_cons_zero, List.setIfInBounds_toArray, List.set_cons_zero, List.set_cons_succ])
          refine wpAnyH_take (i := 8) (v := .int .i64 (j : Int)) rfl (by kernel_rfl) (by kernel_rfl) (by kernel_rfl) (fun _ _ _ h => nomatch h.1) (.inl ⟨by kernel_rfl, fun w hw => by clear hw; go_simp⟩) (by assumption) ?_
          (try simp only [Act.put, List.getElem_toArray, List.getElem_cons_succ, List.getElem_cons_zero, List.setIfInBounds_toArray, List.set_cons_zero, List.set_cons_succ])
          refine wpAnyH_ready (rs := [10]) (by kernel_rfl) (by simp) ?_
          refine AllReadyH.cons rfl (fun K hK => ?_) AllReadyH.nil
          rw [if_pos (by kernel_rfl)]
          refine wp_store_row 37 (.tmp 7) (.tmp 34) rfl g (hsI p).cells rfl rfl _ _ hbx (HSH.out _) rfl (H1C.out _) ?_
          have hst : Below wr.heap.size wr (w2.setRow g (hsI p).cells) := setRow_below hal HGW.out _
          refine hK.out _ _ (ST7.out _ hst) (fun _ => ?_)
          clear hK K
          (try simp only [Act.put, List.getElem_toArray, List.getElem_cons_succ, List.getElem_cons_zero])
          refine wpAnyH_take (i := 11) (v := .int .i64 (j : Int)) rfl (by kernel_rfl) (by kernel_rfl) (by kernel_rfl) (fun _ _ _ h => nomatch h.1) (.inl ⟨by kernel_rfl, fun w hw => by clear hw; go_simp⟩) (by assumption) ?_
          (try simp only [Act.put, List.getElem_toArray, List.getElem_cons_succ, List.getElem_cons_zero, List.setIfInBounds_toArray, List.set_cons_zero, List.set_cons_succ])
          refine wpAnyH_done (by kernel_rfl) ?_ _
          exact ⟨rfl, g, p, rfl, Lib.hid ⟨hst, HGW.out, setRow_heap _ _ _ _ _ _ hbx, HOP.out⟩⟩
      · intro g p W1 hR
        have HB1 := Lib.hid hR.out.1
        have HGS := Lib.hid hR.out.2.1
        have HG1 := Lib.hid hR.out.2.2.1
        have HP1 := Lib.hid hR.out.2.2.2
        have HI1 := Lib.hid (HI.out.below HB1.out)
        clear hR ST7 HAD
        obtain ⟨s, hs⟩ : ∃ s, codeOf e = s := ⟨_, rfl⟩
        have HSE := Lib.hid hs
        have HSM : Hid (s.size ≤ maxLen) := Lib.hid (by rw [← hs, HXE.out]; exact HOK.out.code)
        obtain ⟨ys, hys, hyf⟩ : ∃ ys : List Value, (f s).getD (.agg zeroI.toArray) = .agg ys.toArray ∧ Fits kItem ys := by
          cases ha : atI L s with
          | none => rw [HI.out.ag.no s ha]; exact ⟨zeroI, rfl, zeroI_fits⟩
          | some i =>
            obtain ⟨y, hy, hc⟩ := atI_some ha
            have := HI.out.ag.at_ y hy
            rw [hc] at this
            rw [this]
            exact ⟨y, rfl, HI.out.t y hy⟩
        obtain ⟨th, hth⟩ : ∃ th, (atI L s).isSome = th := ⟨_, rfl⟩
        have HLK : Hid (∀ W, FInv w k q L f W → (Instr.lookup 54 (.map (some (w.heap.size + 1))) (.string s) true).run Try.prog W = .ok (.tuple #[.agg ys.toArray, .bool th]) W) := Lib.hid (fun W hW => by
          have := hW.map.look_ok Try.underlying54 (z := .agg zeroI.toArray) (by kernel_rfl) HSM.out
          rw [hys, HI.out.ag.isSome, hth] at this
          exact this)
        have hlk := HLK.out W1 HI1.out
        have HCE : Hid (∀ W, Below w.heap.size w W → W.cell? ⟨b, off + k * 14, none⟩ = some (.string s)) := Lib.hid (fun W hW => by
          obtain ⟨r, hr⟩ := item_code HFE.out
          have := HLB.out W hW 0 (.string s) (by rw [hr, ← hs]; rfl)
          simpa using this)
        have c1 := HCE.out W1 HI1.out.bel
        have HCK : Hid (∀ W, Calls Try.prog 16 #[.agg e.toArray] W fun e' W' => e' = .returned (.int .i64 (Pl.chE x)) ∧ Below W.heap.size W W') := Lib.hid (fun W => by rw [HXE.out]; exact check_any x HOK.out W)
        have HYS : Hid ((Try.prog.info? 42).map (·.size) = some ys.toArray.size) := Lib.hid (by rw [List.size_toArray]; exact HSZ.out ys hyf)
        have HYO : Hid ((#[.string ⟨#[]⟩, .string ⟨#[]⟩, .int .i64 0, .string ⟨#[]⟩, .int .i64 0, .string ⟨#[]⟩, .int .i64 0, .string ⟨#[]⟩, .int .i64 0, .int .i64 0, .int .i64 0, .bool false, .bool false, .bool false] : Array Value).size = ys.toArray.size) := Lib.hid (by rw [List.size_toArray, List.size_toArray, hyf.length]; rfl)
        have HYC : Hid (ys.toArray.all (·.oneCell') = true) := Lib.hid (all_oneCell_toArray (fits_one hyf))
        have HQ1 : Hid ((W1.alloc (.cells #[.string ⟨#[]⟩, .string ⟨#[]⟩, .int .i64 0, .string ⟨#[]⟩, .int .i64 0, .string ⟨#[]⟩, .int .i64 0, .string ⟨#[]⟩, .int .i64 0, .int .i64 0, .int .i64 0, .bool false, .bool false, .bool false] 42)).heap[W1.heap.size]? = some (.cells #[.string ⟨#[]⟩, .string ⟨#[]⟩, .int .i64 0, .string ⟨#[]⟩, .int .i64 0, .string ⟨#[]⟩, .int .i64 0, .string ⟨#[]⟩, .int .i64 0, .int .i64 0, .int .i64 0, .bool false, .bool false, .bool false] 42 (0, 0))) := Lib.hid (heap_alloc_new _ _)
        obtain ⟨W2, hW2⟩ : ∃ W2, W2 = (W1.alloc (.cells #[.string ⟨#[]⟩, .string ⟨#[]⟩, .int .i64 0, .string ⟨#[]⟩, .int .i64 0, .string ⟨#[]⟩, .int .i64 0, .string ⟨#[]⟩, .int .i64 0, .int .i64 0, .int .i64 0, .bool false, .bool false, .bool false] 42)).setRow W1.heap.size ys.toArray := ⟨_, rfl⟩
        have hb2 : Below W1.heap.size W1 W2 := by rw [hW2]; exact setRow_below ((Below.refl _ _).alloc (Nat.le_refl _) _) (Nat.le_refl _) _
        have HI2 := Lib.hid (HI1.out.below hb2)
        have HG2 := Lib.hid ((hb2.block _ (lt_of_block HG1.out)).trans HG1.out)
        have HP2 : Hid (j = 0 → p.2.1 = (putG ordI L e).length ∧ W2.ownsRow wr.heap.size 42 14 (.slice p.1 p.2.1 p.2.2) p.2.1 (putG ordI L e).flatten) := Lib.hid (fun h0 => ⟨(HP1.out h0).1, own_below (HP1.out h0).2 hb2⟩)
        have HW2 := Lib.hid hW2
        have H37 := Lib.hid hth
        have HIS : Hid (wr.heap.size ≥ w.heap.size + 2) := Lib.hid HI.out.sz
        clear hs hys hyf hth hb2 hW2 HP1
        have HJJ : Hid (addE L e (Pl.chE x) = if Pl.chE x ≠ 0 then Pl.chE x else if th = true then 11 else if 64 ≤ L.length then 14 else 0) := Lib.hid (by unfold addE; rw [HSE.out, H37.out])
        have hn64 : (q.2.1 : Int) = (L.length : Int) := by rw [HI.out.n]
        have hcase : (j = 0 ∧ Pl.chE x = 0 ∧ th = false ∧ (q.2.1 : Int) < 64) ∨ (j ≠ 0 ∧ Pl.chE x ≠ 0) ∨ (j ≠ 0 ∧ Pl.chE x = 0 ∧ th = true) ∨ (j ≠ 0 ∧ Pl.chE x = 0 ∧ th = false ∧ (64 : Int) ≤ (q.2.1 : Int)) := by
          have h := HJJ.out
          rw [HJ.out] at h
          by_cases hc : Pl.chE x = 0
          · rw [if_neg (by omega)] at h
            cases th with
            | true => rw [if_pos rfl] at h; exact .inr (.inr (.inl ⟨by omega, hc, rfl⟩))
            | false =>
              rw [if_neg (by simp)] at h
              by_cases h64 : 64 ≤ L.length
              · rw [if_pos h64] at h; exact .inr (.inr (.inr ⟨by omega, hc, rfl, by omega⟩))
              · rw [if_neg h64] at h; exact .inl ⟨h, hc, rfl, by omega⟩
          · rw [if_pos hc] at h; exact .inr (.inl ⟨by omega, hc⟩)
        obtain ⟨kk, hkk⟩ : ∃ kk, Pl.chE x = kk := ⟨_, rfl⟩
        rw [hkk] at hcase HCK
        clear hn64 HJJ hkk
        have HLE2 := Lib.hid (HLB.out W2 HI2.out.bel)
        rcases hcase with ⟨rfl, rfl, rfl, hq64⟩ | ⟨hj, hc⟩ | ⟨hj, rfl, rfl⟩ | ⟨hj, rfl, rfl, hq64⟩
        · have hd64 : decide ((64 : Int) ≤ (q.2.1 : Int)) = false := by simp; omega
          go_wp2_with (first
            | (refine wpList_store_row rfl 42 (.tmp 9) (.tmp 44) rfl W1.heap.size ys.toArray rfl rfl _ _ HQ1.out HYS.out HYO.out HYC.out ?_; rw [← HW2.out])
            | (refine BigFrame.wpList_want (by kernel_rfl) (fun K hK => wp_load_mid 42 (.tmp 56) rfl b (off + k * 14) rfl e _ HLE2.out hui rfl HEL.out (hK _ _ ?_)); clear hK K)
            | fail)
          refine (HCK.out _).mono ?_
          rintro e' W3 ⟨rfl, hb3⟩
          have HI3 := Lib.hid (HI2.out.below hb3)
          have HG3 := Lib.hid ((hb3.block _ (lt_of_block HG2.out)).trans HG2.out)
          have HP3 : Hid (W3.ownsRow wr.heap.size 42 14 (.slice p.1 p.2.1 p.2.2) p.2.1 (putG ordI L e).flatten) := Lib.hid (own_below (HP2.out (by first | rfl | trivial)).2 hb3)
          clear hb3 hlk c1
          have hat : atI L s = none := by have := H37.out; cases ha : atI L s with | none => rfl | some i => rw [ha] at this; cases this
          have hfs : f s = none := HI.out.ag.no s hat
          have HB4 : Hid (Below w.heap.size w (W3.setRow w.heap.size (hsI p).cells)) := Lib.hid (setRow_below HI3.out.bel (Nat.le_refl _) _)
          have HM4 : SM (W3.setRow w.heap.size (hsI p).cells).drew (w.heap.size + 1) k q.2.1 f := HI3.out.map.kept (setRow_other _ _ _ _ (by omega))
          obtain ⟨W5, hup, hsm, hturn⟩ := HM4.store Try.underlying54 (by simp only [maxLen]; omega) HSM.out (.agg e.toArray) hfs
          have HI5' : Hid (FInv w (k + 1) p (putG ordI L e) (updS f (codeOf e) (some (.agg e.toArray))) W5) := Lib.hid (HI3.out.put HFE.out (by rw [HSE.out]; exact HSM.out) (by rw [HSE.out]; exact hat) (by have := HI.out.n; omega) (HP2.out (by first | rfl | trivial)).1 HIS.out HP3.out rfl (by rw [HSE.out]; exact hsm) hturn)
          have HUP := Lib.hid hup
          have ST13 : Hid ((W3.setRow w.heap.size (hsI p).cells).drew.rangeAt b (off + k * 14) e ∧ (W3.setRow w.heap.size (hsI p).cells).drew.cell? ⟨b, off + k * 14, none⟩ = some (.string s)) := Lib.hid ⟨HLB.out _ HB4.out.drew, HCE.out _ HB4.out.drew⟩
          obtain ⟨W4, hW4⟩ : ∃ W4, W4 = W3.setRow w.heap.size (hsI p).cells := ⟨_, rfl⟩
          rw [← hW4] at HUP ST13
          have HW4 := Lib.hid hW4
          clear hup hsm hturn HM4 hfs hW4
          go_wp2_with (first
            | (refine wpList_load_row rfl 37 (.tmp 7) rfl g rfl _ _ _ _ HG3.out huh rfl (HSH.out _) ?_)
            | (refine wpList_store_row rfl 37 (.tmp 3) (.tmp 61) rfl w.heap.size (hsI p).cells rfl rfl _ _ HI3.out.box (HSH.out _) rfl (H1C.out _) ?_; rw [← HW4.out])
            | fail)
          refine lastW_region (S := (fun w' => w'.rangeAt b (off + k * 14) e ∧ w'.cell? ⟨b, off + k * 14, none⟩ = some (.string s))) (n := 10) (by kernel_rfl) ?_
          have ST3 := ST13.out
          refine LastW.take (i := 0) (v := .map (some (w.heap.size + 1))) rfl (by kernel_rfl) (by kernel_rfl) (by kernel_rfl) (by kernel_rfl) (by decide) (fun _ _ _ h => h.elim) (.inl ⟨by kernel_rfl, fun w hw => by clear hw; go_simp⟩) ST3 ?_
          (try simp only [Act.put, List.getElem_toArray, List.getElem_cons_zero, List.setIfInBounds_toArray, List.set_cons_zero, List.set_cons_succ])
          refine LastW.take (i := 1) (v := .slice (some ⟨b, off, none⟩) n c) rfl (by kernel_rfl) (by kernel_rfl) (by kernel_rfl) (by kernel_rfl) (by decide) (fun _ _ _ h => h.elim) (.inl ⟨by kernel_rfl, fun w hw => by clear hw; go_simp⟩) ST3 ?_
          (try simp only [Act.put, List.getElem_toArray, List.getElem_cons_succ, List.getElem_cons_zero, List.setIfInBounds_toArray, List.set_cons_zero, List.set_cons_succ])
          refine LastW.take (i := 2) (v := .int .i64 (k : Int)) rfl (by kernel_rfl) (by kernel_rfl) (by kernel_rfl) (by kernel_rfl) (by decide) (fun _ _ _ h => h.elim) (.inl ⟨by kernel_rfl, fun w hw => by clear hw; go_simp⟩) ST3 ?_
          (try simp only [Act.put, List.getElem_toArray, List.getElem_cons_succ, List.getElem_cons_zero, List.setIfInBounds_toArray, List.set_cons_zero, List.set_cons_succ])
          refine LastW.take (i := 3) (v := .pointer (some ⟨b, off + k * 14, none⟩)) rfl (by kernel_rfl) (by kernel_rfl) (by kernel_rfl) (by kernel_rfl) (by decide) (fun _ _ _ h => h.elim) (.inl ⟨by kernel_rfl, fun w hw => by clear hw; go_simp⟩) ST3 ?_
          (try simp only [Act.put, List.getElem_toArray, List.getElem_cons_succ, List.getElem_cons_zero, List.setIfInBounds_toArray, List.set_cons_zero, List.set_cons_succ])
          refine LastW.take (i := 4) (v := .pointer (some ⟨b, off + k * 14, none⟩)) rfl (by kernel_rfl) (by kernel_rfl) (by kernel_rfl) (by kernel_rfl) (by decide) (fun _ _ _ h => h.elim) (.inl ⟨by kernel_rfl, fun w hw => by clear hw; go_simp⟩) ST3 ?_
          (try simp only [Act.put, List.getElem_toArray, List.getElem_cons_succ, List.getElem_cons_zero, List.setIfInBounds_toArray, List.set_cons_zero, List.set_cons_succ])
          refine LastW.take (i := 5) (v := .string s) rfl (by kernel_rfl) (by kernel_rfl) (by kernel_rfl) (by kernel_rfl) (by decide) (fun _ _ _ h => h.elim) (.inl ⟨by kernel_rfl, fun w hw => by have hw := hw.2; go_simp⟩) ST3 ?_
          (try simp only [Act.put, List.getElem_toArray, List.getElem_cons_succ, List.getElem_cons_zero, List.setIfInBounds_toArray, List.set_cons_zero, List.set_cons_succ])
          refine LastW.take (i := 6) (v := .slice (some ⟨b, off, none⟩) n c) rfl (by kernel_rfl) (by kernel_rfl) (by kernel_rfl) (by kernel_rfl) (by decide) (fun _ _ _ h => h.elim) (.inl ⟨by kernel_rfl, fun w hw => by clear hw; go_simp⟩) ST3 ?_
          (try simp only [Act.put, List.getElem_toArray, List.getElem_cons_succ, List.getElem_cons_zero, List.setIfInBounds_toArray, List.set_cons_zero, List.set_cons_succ])
          refine LastW.take (i := 7) (v := .int .i64 (k : Int)) rfl (by kernel_rfl) (by kernel_rfl) (by kernel_rfl) (by kernel_rfl) (by decide) (fun _ _ _ h => h.elim) (.inl ⟨by kernel_rfl, fun w hw => by clear hw; go_simp⟩) ST3 ?_
          (try simp only [Act.put, List.getElem_toArray, List.getElem_cons_succ, List.getElem_cons_zero, List.setIfInBounds_toArray, List.set_cons_zero, List.set_cons_succ])
          refine LastW.take (i := 8) (v := .pointer (some ⟨b, off + k * 14, none⟩)) rfl (by kernel_rfl) (by kernel_rfl) (by kernel_rfl) (by kernel_rfl) (by decide) (fun _ _ _ h => h.elim) (.inl ⟨by kernel_rfl, fun w hw => by clear hw; go_simp⟩) ST3 ?_
          (try simp only [Act.put, List.getElem_toArray, List.getElem_cons_succ, List.getElem_cons_zero, List.setIfInBounds_toArray, List.set_cons_zero, List.set_cons_succ])
          refine LastW.take (i := 9) (v := .agg e.toArray) rfl (by kernel_rfl) (by kernel_rfl) (by kernel_rfl) (by kernel_rfl) (by decide) (fun _ _ _ h => h.elim) (yieldsIf_load_mid (by kernel_rfl) 42 (.tmp 70) rfl b (off + k * 14) rfl e _ (fun w h => h.1) hui rfl HEL.out) ST3 ?_
          (try simp only [Act.put, List.getElem_toArray, List.getElem_cons_succ, List.getElem_cons_zero, List.setIfInBounds_toArray, List.set_cons_zero, List.set_cons_succ])
          refine LastW.one (i := 10) (by kernel_rfl) rfl (fun K hK => ?_)
          have hup := HUP.out
          go_simp
          refine hK.out _ _ (fun h => absurd rfl h) (fun _ => ?_)
          clear hK K hup
          (try simp only [Act.put, List.getElem_toArray, List.getElem_cons_succ, List.getElem_cons_zero, List.setIfInBounds_toArray, List.set_cons_zero, List.set_cons_succ])
          refine LastW.done (by kernel_rfl) ?_ _
          refine NoPanic.normal ?_
          obtain ⟨⟨A2, m2, c2⟩, L2, f2, HI5⟩ : ∃ q2 L2 f2, Hid (FInv w (k + 1) q2 L2 f2 W5) := ⟨p, _, _, HI5'⟩
          clear HI5' HUP ST3 ST13
          have hmap5 := HI5.out.map.len Try.underlying54 3
          have c5 : W5.cell? ⟨w.heap.size, 0, none⟩ = some (.slice A2 m2 c2) := (cell_of_block HI5.out.box).trans rfl
          obtain ⟨w0, rfl⟩ : ∃ w0, w0 = wr := ⟨_, rfl⟩
          go_wp2_with fail
          clear hmap5 c5
          go_loopw [11] (fun i wr => ∃ t : Nat, t ≤ m2 ∧ i = .int .i64 (t : Int) ∧ Hid (FInv w (k + 1) (A2, m2, c2) L2 f2 wr)) (fun i _ => m2 - (intOf i).toNat)
          case atStart => exact ⟨0, by omega, rfl, HI5⟩
          case round =>
            obtain ⟨t, ht, rfl, HIt⟩ := hrel
            have ct : wr.cell? ⟨w.heap.size, 0, none⟩ = some (.slice A2 m2 c2) := (cell_of_block HIt.out.box).trans rfl
            have hm64 : m2 ≤ 64 := HIt.out.n64
            by_cases htm : t < m2
            · have htl : t < L2.length := by rw [← HIt.out.n]; exact htm
              obtain ⟨b2, off2, hA2, hb2, hc2⟩ := HIt.out.rd.thing HIt.out.t (by decide) htl
              obtain rfl : A2 = some ⟨b2, off2, none⟩ := hA2
              have r1 := hc2 t htl
              rw [show kItem.length = 14 from rfl] at r1
              obtain ⟨y, hy⟩ : ∃ y, L2[t] = y := ⟨_, rfl⟩
              have hgot := gotI_at HIt.out.up htl
              have hati := atI_at HIt.out.up htl
              have fy := HIt.out.t _ (List.getElem_mem htl)
              have zy := HIt.out.z _ (List.getElem_mem htl)
              have ay := HIt.out.ag.at_ _ (List.getElem_mem htl)
              have hup : ∀ u (hu : u < L2.length), u < t → Pl.lt (codeOf L2[u]) (codeOf L2[t]) = true := fun u hu hut => HIt.out.up.at hu htl hut
              rw [hy] at r1 hgot hati fy zy ay hup
              obtain ⟨cy, hcy⟩ : ∃ cy, codeOf y = cy := ⟨_, rfl⟩
              rw [hcy] at hgot hati zy ay hup
              have HYL : Hid ((Try.prog.info? 42).map (·.size) = some y.length) := Lib.hid (HSZ.out y fy)
              have HYA : Hid ((Try.prog.info? 42).map (·.size) = some y.toArray.size) := Lib.hid (by rw [List.size_toArray]; exact HSZ.out y fy)
              have HYZ : Hid ((#[.string ⟨#[]⟩, .string ⟨#[]⟩, .int .i64 0, .string ⟨#[]⟩, .int .i64 0, .string ⟨#[]⟩, .int .i64 0, .string ⟨#[]⟩, .int .i64 0, .int .i64 0, .int .i64 0, .bool false, .bool false, .bool false] : Array Value).size = y.toArray.size) := Lib.hid (by rw [List.size_toArray, List.size_toArray, fy.length]; rfl)
              have HYO2 : Hid (y.toArray.all (·.oneCell') = true) := Lib.hid (all_oneCell_toArray (fits_one fy))
              have HLY : Hid (∀ W, Below wr.heap.size wr W → W.rangeAt b2 (off2 + t * 14) y) := Lib.hid (fun W hW => rangeAt_below r1 hb2 hW)
              have HC0 : Hid (∀ u (hu : u < L2.length) W, Below wr.heap.size wr W → W.cell? ⟨b2, off2 + u * 14, none⟩ = some (.string (codeOf L2[u]))) := Lib.hid (fun u hu W hW => by
                obtain ⟨r, hr⟩ := item_code (HIt.out.t _ (List.getElem_mem hu))
                have := rangeAt_below (hc2 u hu) hb2 hW 0 (.string (codeOf L2[u])) (by rw [hr]; rfl)
                rw [show kItem.length = 14 from rfl] at this
                simpa using this)
              have HUP2 := Lib.hid hup
              have HCY : Hid (∀ W, Below wr.heap.size wr W → W.cell? ⟨b2, off2 + t * 14, none⟩ = some (.string cy)) := Lib.hid (fun W hW => by rw [← hcy, ← hy]; exact HC0.out t htl W hW)
              have HYG : Hid (∀ (W : World) (gg : Nat), W.heap[gg]? = some (.cells y.toArray 42 (0, 0)) → W.cell? ⟨gg, 0, none⟩ = some (.string cy)) := Lib.hid (fun W gg h => by
                obtain ⟨r, hr⟩ := item_code fy
                rw [cell_of_block h, List.getElem?_toArray, hr, hcy]; rfl)
              have HFD : Hid (∀ W, FInv w (k + 1) (some ⟨b2, off2, none⟩, m2, c2) L2 f2 W → Calls Try.prog 13 #[.agg (hsI (some ⟨b2, off2, none⟩, m2, c2)).cells, .string cy] W fun e W' => e = .returned (.tuple #[.agg y.toArray, .bool true]) ∧ Below W.heap.size W W') := Lib.hid (fun W hW => by
                have := finds_any (hsI (some ⟨b2, off2, none⟩, m2, c2)) L2 cy W (by simpa [Hs.set] using hW.n) (by have := hW.n64; simp [Hs.set]; simp at this; omega) hW.t (by simpa [Hs.set] using hW.rd)
                rw [hgot, hati] at this
                exact this)
              have HLK2 : Hid (∀ W, FInv w (k + 1) (some ⟨b2, off2, none⟩, m2, c2) L2 f2 W → (Instr.lookup 54 (.map (some (w.heap.size + 1))) (.string cy) false).run Try.prog W = .ok (.agg y.toArray) W) := Lib.hid (fun W hW => by
                have := hW.map.look Try.underlying54 (z := .agg zeroI.toArray) (by kernel_rfl) zy
                rw [ay] at this
                exact this)
              have HNEQ : Hid (∀ W, (binOp .neq 42 (.agg y.toArray) (.agg y.toArray)).run Try.prog W = .ok (.bool false) W) := Lib.hid (fun W => by
                obtain ⟨b0, h1, h2⟩ := neq_struct (P := Try.prog) eqItem (by decide) y y W fy fy
                rw [h2.2 rfl] at h1
                exact h1)
              have ST21 : Hid (∀ W, Below wr.heap.size wr W → W.rangeAt w.heap.size 0 (hsI (some ⟨b2, off2, none⟩, m2, c2)).cells.toList ∧ W.rangeAt b2 (off2 + t * 14) y ∧ W.cell? ⟨w.heap.size, 0, none⟩ = some (.slice (some ⟨b2, off2, none⟩) m2 c2) ∧ W.cell? ⟨b2, off2 + t * 14, none⟩ = some (.string cy)) := Lib.hid (fun W hW => ⟨range_row0 (HIt.out.below hW).box, HLY.out W hW, (cell_of_block (HIt.out.below hW).box).trans rfl, HCY.out W hW⟩)
              have i1 : (0 : Int) ≤ (t : Int) := by omega
              have i2 : (t : Int) < (m2 : Int) := by omega
              clear hc2 r1 hgot hati fy zy ay hup hy hcy hb2
              go_wp2_with fail
              apply region_to1 (R := fun g2 W => Hid (Below wr.heap.size wr W ∧ wr.heap.size ≤ g2 ∧ W.heap[g2]? = some (.cells y.toArray 42 (0, 0))))
              · refine wp_region_held_drew (S := (fun w' => w'.rangeAt w.heap.size 0 (hsI (some ⟨b2, off2, none⟩, m2, c2)).cells.toList ∧ w'.rangeAt b2 (off2 + t * 14) y ∧ w'.cell? ⟨w.heap.size, 0, none⟩ = some (.slice (some ⟨b2, off2, none⟩) m2 c2) ∧ w'.cell? ⟨b2, off2 + t * 14, none⟩ = some (.string cy))) (by kernel_rfl) (ST21.out _ (Below.refl wr.heap.size wr).drew) (fun dd0 => ?_)
                refine wpAnyH_take (i := 0) (v := .agg (hsI (some ⟨b2, off2, none⟩, m2, c2)).cells) rfl (by kernel_rfl) (by kernel_rfl) (by kernel_rfl) (fun _ _ _ h => nomatch h.1) (yieldsIf_load_mid (by kernel_rfl) 37 (.tmp 3) rfl w.heap.size 0 rfl (hsI (some ⟨b2, off2, none⟩, m2, c2)).cells.toList _ (fun w h => h.1) huh rfl (HSHL.out _)) (by assumption) ?_
                (try simp only [Act.put, List.getElem_toArray, List.getElem_cons_zero, List.setIfInBounds_toArray, List.set_cons_zero, List.set_cons_succ])
                refine wpAnyH_take (i := 1) (v := .pointer (some ⟨w.heap.size, 0, none⟩)) rfl (by kernel_rfl) (by kernel_rfl) (by kernel_rfl) (fun _ _ _ h => nomatch h.1) (.inl ⟨by kernel_rfl, fun w hw => by clear hw; go_simp⟩) (by assumption) ?_
                (try simp only [Act.put, List.getElem_toArray, List.getElem_cons_succ, List.getElem_cons_zero, List.setIfInBounds_toArray, List.set_cons_zero, List.set_cons_succ])
                refine wpAnyH_take (i := 2) (v := .slice (some ⟨b2, off2, none⟩) m2 c2) rfl (by kernel_rfl) (by kernel_rfl) (by kernel_rfl) (fun _ _ _ h => nomatch h.1) (.inl ⟨by kernel_rfl, fun w hw => by have hw := hw.2.2.1; go_simp⟩) (by assumption) ?_
                (try simp only [Act.put, List.getElem_toArray, List.getElem_cons_succ, List.getElem_cons_zero, List.setIfInBounds_toArray, List.set_cons_zero, List.set_cons_succ])
                refine wpAnyH_take (i := 3) (v := .int .i64 (t : Int)) rfl (by kernel_rfl) (by kernel_rfl) (by kernel_rfl) (fun _ _ _ h => nomatch h.1) (.inl ⟨by kernel_rfl, fun w hw => by clear hw; go_simp⟩) (by assumption) ?_
                (try simp only [Act.put, List.getElem_toArray, List.getElem_cons_succ, List.getElem_cons_zero, List.setIfInBounds_toArray, List.set_cons_zero, List.set_cons_succ])
                refine wpAnyH_take (i := 4) (v := .pointer (some ⟨b2, off2 + t * 14, none⟩)) rfl (by kernel_rfl) (by kernel_rfl) (by kernel_rfl) (fun _ _ _ h => nomatch h.1) (.inl ⟨by kernel_rfl, fun w hw => by clear hw; go_simp⟩) (by assumption) ?_
                (try simp only [Act.put, List.getElem_toArray, List.getElem_cons_succ, List.getElem_cons_zero, List.setIfInBounds_toArray, List.set_cons_zero, List.set_cons_succ])
                refine wpAnyH_take (i := 5) (v := .pointer (some ⟨b2, off2 + t * 14, none⟩)) rfl (by kernel_rfl) (by kernel_rfl) (by kernel_rfl) (fun _ _ _ h => nomatch h.1) (.inl ⟨by kernel_rfl, fun w hw => by clear hw; go_simp⟩) (by assumption) ?_
                (try simp only [Act.put, List.getElem_toArray, List.getElem_cons_succ, List.getElem_cons_zero, List.setIfInBounds_toArray, List.set_cons_zero, List.set_cons_succ])
                refine wpAnyH_take (i := 6) (v := .string cy) rfl (by kernel_rfl) (by kernel_rfl) (by kernel_rfl) (fun _ _ _ h => nomatch h.1) (.inl ⟨by kernel_rfl, fun w hw => by have hw := hw.2.2.2; go_simp⟩) (by assumption) ?_
                (try simp only [Act.put, List.getElem_toArray, List.getElem_cons_succ, List.getElem_cons_zero, List.setIfInBounds_toArray, List.set_cons_zero, List.set_cons_succ])
                refine wpAnyH_ready (rs := [7, 11]) (by kernel_rfl) (by simp) ?_
                refine AllReadyH.cons rfl (fun K hK => ?_) (AllReadyH.cons rfl (fun K hK => ?_) AllReadyH.nil)
                · go_simp
                  refine (HFD.out _ (HIt.out.below (Below.refl wr.heap.size wr).drew)).mono ?_
                  rintro e' w2 ⟨rfl, hb2'⟩
                  have H2 : Hid (Below wr.heap.size wr w2) := Lib.hid ((Below.refl wr.heap.size wr).drew.trans hb2')
                  refine hK.out _ _ (ST21.out _ H2.out) (fun _ => ?_)
                  clear hK K
                  (try simp only [Act.put, List.getElem_toArray, List.getElem_cons_succ, List.getElem_cons_zero, List.setIfInBounds_toArray, List.set_cons_zero, List.set_cons_succ])
                  refine wpAnyH_take (i := 8) (v := .tuple #[.agg y.toArray, .bool true]) rfl (by kernel_rfl) (by kernel_rfl) (by kernel_rfl) (fun _ _ _ h => nomatch h.1) (.inl ⟨by kernel_rfl, fun w hw => by clear hw; go_simp⟩) (by assumption) ?_
                  (try simp only [Act.put, List.getElem_toArray, List.getElem_cons_succ, List.getElem_cons_zero, List.setIfInBounds_toArray, List.set_cons_zero, List.set_cons_succ])
                  refine wpAnyH_take (i := 9) (v := .agg y.toArray) rfl (by kernel_rfl) (by kernel_rfl) (by kernel_rfl) (fun _ _ _ h => nomatch h.1) (.inl ⟨by kernel_rfl, fun w hw => by clear hw; go_simp⟩) (by assumption) ?_
                  (try simp only [Act.put, List.getElem_toArray, List.getElem_cons_succ, List.getElem_cons_zero, List.setIfInBounds_toArray, List.set_cons_zero, List.set_cons_succ])
                  refine wpAnyH_take (i := 10) (v := .bool true) rfl (by kernel_rfl) (by kernel_rfl) (by kernel_rfl) (fun _ _ _ h => nomatch h.1) (.inl ⟨by kernel_rfl, fun w hw => by clear hw; go_simp⟩) (by assumption) ?_
                  (try simp only [Act.put, List.getElem_toArray, List.getElem_cons_succ, List.getElem_cons_zero, List.setIfInBounds_toArray, List.set_cons_zero, List.set_cons_succ])
                  refine wpAnyH_ready (rs := [11]) (by kernel_rfl) (by simp) ?_
                  refine AllReadyH.cons rfl (fun K hK => ?_) AllReadyH.nil
                  go_simp
                  have hal : Below wr.heap.size wr (w2.alloc (.cells #[.string ⟨#[]⟩, .string ⟨#[]⟩, .int .i64 0, .string ⟨#[]⟩, .int .i64 0, .string ⟨#[]⟩, .int .i64 0, .string ⟨#[]⟩, .int .i64 0, .int .i64 0, .int .i64 0, .bool false, .bool false, .bool false] 42)) := H2.out.alloc H2.out.size _
                  have hbx := heap_alloc_new w2 (.cells #[.string ⟨#[]⟩, .string ⟨#[]⟩, .int .i64 0, .string ⟨#[]⟩, .int .i64 0, .string ⟨#[]⟩, .int .i64 0, .string ⟨#[]⟩, .int .i64 0, .int .i64 0, .int .i64 0, .bool false, .bool false, .bool false] 42)
                  obtain ⟨g2, hg⟩ : ∃ g, g = w2.heap.size := ⟨_, rfl⟩
                  have HGW : Hid (wr.heap.size ≤ g2) := Lib.hid (by rw [hg]; exact H2.out.size)
                  obtain ⟨w3, hw3⟩ : ∃ w3, w3 = w2.alloc (.cells #[.string ⟨#[]⟩, .string ⟨#[]⟩, .int .i64 0, .string ⟨#[]⟩, .int .i64 0, .string ⟨#[]⟩, .int .i64 0, .string ⟨#[]⟩, .int .i64 0, .int .i64 0, .int .i64 0, .bool false, .bool false, .bool false] 42) := ⟨_, rfl⟩
                  rw [← hg] at hbx ⊢
                  rw [← hw3] at hal hbx ⊢
                  refine hK.out _ _ (ST21.out _ hal) (fun _ => ?_)
                  clear hK K hb2' hw3 hg
                  (try simp only [Act.put, List.getElem_toArray, List.getElem_cons_succ, List.getElem_cons_zero, List.setIfInBounds_toArray, List.set_cons_zero, List.set_cons_succ])
                  refine wpAnyH_ready (rs := [12]) (by kernel_rfl) (by simp) ?_
                  refine AllReadyH.cons rfl (fun K hK => ?_) AllReadyH.nil
                  rw [if_pos (by kernel_rfl)]
                  refine wp_store_row 42 (.tmp 12) (.tmp 108) rfl g2 y.toArray rfl rfl _ _ hbx HYA.out HYZ.out HYO2.out ?_
                  have hst : Below wr.heap.size wr (w3.setRow g2 y.toArray) := setRow_below hal HGW.out _
                  refine hK.out _ _ (ST21.out _ hst) (fun _ => ?_)
                  clear hK K
                  (try simp only [Act.put, List.getElem_toArray, List.getElem_cons_succ, List.getElem_cons_zero])
                  refine wpAnyH_take (i := 13) (v := .bool true) rfl (by kernel_rfl) (by kernel_rfl) (by kernel_rfl) (fun _ _ _ h => nomatch h.1) (.inl ⟨by kernel_rfl, fun w hw => by clear hw; go_simp⟩) (by assumption) ?_
                  (try simp only [Act.put, List.getElem_toArray, List.getElem_cons_succ, List.getElem_cons_zero, List.setIfInBounds_toArray, List.set_cons_zero, List.set_cons_succ])
                  refine wpAnyH_done (by kernel_rfl) ?_ _
                  exact ⟨rfl, g2, rfl, Lib.hid ⟨hst, HGW.out, setRow_heap _ _ _ _ _ _ hbx⟩⟩
                · go_simp
                  have hal0 : Below wr.heap.size wr (wr.alloc (.cells #[.string ⟨#[]⟩, .string ⟨#[]⟩, .int .i64 0, .string ⟨#[]⟩, .int .i64 0, .string ⟨#[]⟩, .int .i64 0, .string ⟨#[]⟩, .int .i64 0, .int .i64 0, .int .i64 0, .bool false, .bool false, .bool false] 42)).drew := ((Below.refl wr.heap.size wr).alloc (Nat.le_refl _) _).drew
                  have hbx0 : (wr.alloc (.cells #[.string ⟨#[]⟩, .string ⟨#[]⟩, .int .i64 0, .string ⟨#[]⟩, .int .i64 0, .string ⟨#[]⟩, .int .i64 0, .string ⟨#[]⟩, .int .i64 0, .int .i64 0, .int .i64 0, .bool false, .bool false, .bool false] 42)).drew.heap[wr.heap.size]? = some (.cells #[.string ⟨#[]⟩, .string ⟨#[]⟩, .int .i64 0, .string ⟨#[]⟩, .int .i64 0, .string ⟨#[]⟩, .int .i64 0, .string ⟨#[]⟩, .int .i64 0, .int .i64 0, .int .i64 0, .bool false, .bool false, .bool false] 42 (0, 0)) := heap_alloc_new wr (.cells #[.string ⟨#[]⟩, .string ⟨#[]⟩, .int .i64 0, .string ⟨#[]⟩, .int .i64 0, .string ⟨#[]⟩, .int .i64 0, .string ⟨#[]⟩, .int .i64 0, .int .i64 0, .int .i64 0, .bool false, .bool false, .bool false] 42)
                  obtain ⟨g2, hg⟩ : ∃ g, g = wr.heap.size := ⟨_, rfl⟩
                  have HGW : Hid (wr.heap.size ≤ g2) := Lib.hid (by rw [hg]; exact Nat.le_refl _)
                  obtain ⟨w3, hw3⟩ : ∃ w3, w3 = (wr.alloc (.cells #[.string ⟨#[]⟩, .string ⟨#[]⟩, .int .i64 0, .string ⟨#[]⟩, .int .i64 0, .string ⟨#[]⟩, .int .i64 0, .string ⟨#[]⟩, .int .i64 0, .int .i64 0, .int .i64 0, .bool false, .bool false, .bool false] 42)).drew := ⟨_, rfl⟩
                  have HG3' : Hid (g2 < w3.heap.size) := Lib.hid (by rw [hw3, hg]; simp [World.drew])
                  rw [← hw3] at hal0 hbx0 ⊢
                  rw [← hg] at hbx0 ⊢
                  refine hK.out _ _ (ST21.out _ hal0) (fun _ => ?_)
                  clear hK K hw3 hg
                  (try simp only [Act.put, List.getElem_toArray, List.getElem_cons_succ, List.getElem_cons_zero, List.setIfInBounds_toArray, List.set_cons_zero, List.set_cons_succ])
                  refine wpAnyH_ready (rs := [7]) (by kernel_rfl) (by simp) ?_
                  refine AllReadyH.cons rfl (fun K hK => ?_) AllReadyH.nil
                  go_simp
                  refine (HFD.out _ (HIt.out.below hal0)).mono ?_
                  rintro e' w2 ⟨rfl, hb2'⟩
                  have hal : Below wr.heap.size wr w2 := hal0.trans (hb2'.mono hal0.size)
                  have hbx := (hb2'.block g2 HG3'.out).trans hbx0
                  refine hK.out _ _ (ST21.out _ hal) (fun _ => ?_)
                  clear hK K hb2' hbx0 hal0
                  (try simp only [Act.put, List.getElem_toArray, List.getElem_cons_succ, List.getElem_cons_zero, List.setIfInBounds_toArray, List.set_cons_zero, List.set_cons_succ])
                  refine wpAnyH_take (i := 8) (v := .tuple #[.agg y.toArray, .bool true]) rfl (by kernel_rfl) (by kernel_rfl) (by kernel_rfl) (fun _ _ _ h => nomatch h.1) (.inl ⟨by kernel_rfl, fun w hw => by clear hw; go_simp⟩) (by assumption) ?_
                  (try simp only [Act.put, List.getElem_toArray, List.getElem_cons_succ, List.getElem_cons_zero, List.setIfInBounds_toArray, List.set_cons_zero, List.set_cons_succ])
                  refine wpAnyH_take (i := 9) (v := .agg y.toArray) rfl (by kernel_rfl) (by kernel_rfl) (by kernel_rfl) (fun _ _ _ h => nomatch h.1) (.inl ⟨by kernel_rfl, fun w hw => by clear hw; go_simp⟩) (by assumption) ?_
                  (try simp only [Act.put, List.getElem_toArray, List.getElem_cons_succ, List.getElem_cons_zero, List.setIfInBounds_toArray, List.set_cons_zero, List.set_cons_succ])
                  refine wpAnyH_take (i := 10) (v := .bool true) rfl (by kernel_rfl) (by kernel_rfl) (by kernel_rfl) (fun _ _ _ h => nomatch h.1) (.inl ⟨by kernel_rfl, fun w hw => by clear hw; go_simp⟩) (by assumption) ?_
                  (try simp only [Act.put, List.getElem_toArray, List.getElem_cons_succ, List.getElem_cons_zero, List.setIfInBounds_toArray, List.set_cons_zero, List.set_cons_succ])
                  refine wpAnyH_ready (rs := [12]) (by kernel_rfl) (by simp) ?_
                  refine AllReadyH.cons rfl (fun K hK => ?_) AllReadyH.nil
                  rw [if_pos (by kernel_rfl)]
                  refine wp_store_row 42 (.tmp 12) (.tmp 108) rfl g2 y.toArray rfl rfl _ _ hbx HYA.out HYZ.out HYO2.out ?_
                  have hst : Below wr.heap.size wr (w2.setRow g2 y.toArray) := setRow_below hal HGW.out _
                  refine hK.out _ _ (ST21.out _ hst) (fun _ => ?_)
                  clear hK K
                  (try simp only [Act.put, List.getElem_toArray, List.getElem_cons_succ, List.getElem_cons_zero])
                  refine wpAnyH_take (i := 13) (v := .bool true) rfl (by kernel_rfl) (by kernel_rfl) (by kernel_rfl) (fun _ _ _ h => nomatch h.1) (.inl ⟨by kernel_rfl, fun w hw => by clear hw; go_simp⟩) (by assumption) ?_
                  (try simp only [Act.put, List.getElem_toArray, List.getElem_cons_succ, List.getElem_cons_zero, List.setIfInBounds_toArray, List.set_cons_zero, List.set_cons_succ])
                  refine wpAnyH_done (by kernel_rfl) ?_ _
                  exact ⟨rfl, g2, rfl, Lib.hid ⟨hst, HGW.out, setRow_heap _ _ _ _ _ _ hbx⟩⟩
              · intro g2 W6 hR
                have HB6 := Lib.hid hR.out.1
                have HG6 := Lib.hid hR.out.2.2
                have HI6 := Lib.hid (HIt.out.below HB6.out)
                clear hR ct
                have xs0 : ∀ X : BW W6, X.W.cell? ⟨w.heap.size, 0, none⟩ = some (.slice (some ⟨b2, off2, none⟩) m2 c2) := fun X => (cell_of_block (HI6.out.below X.h).box).trans rfl
                have RX : Hid (∀ X : BW W6, X.W.rangeAt g2 0 y) := Lib.hid (fun X => range_row ((X.h.block _ (lt_of_block HG6.out)).trans HG6.out))
                have RY : Hid (∀ X : BW W6, X.W.rangeAt b2 (off2 + t * 14) y) := Lib.hid (fun X => HLY.out _ (HB6.out.trans (X.h.mono HB6.out.size)))
                have xg0 : ∀ X : BW W6, X.W.cell? ⟨g2, 0, none⟩ = some (.string cy) := fun X => HYG.out _ _ ((X.h.block _ (lt_of_block HG6.out)).trans HG6.out)
                have xl : ∀ X : BW W6, (Instr.lookup 54 (.map (some (w.heap.size + 1))) (.string cy) false).run Try.prog X.W = .ok (.agg y.toArray) X.W := fun X => HLK2.out _ (HI6.out.below X.h)
                have hneq := HNEQ.out
                by_cases ht0 : (0 : Int) < (t : Int)
                · have hu : t - 1 < L2.length := by omega
                  have xu : ∀ X : BW W6, X.W.cell? ⟨b2, off2 + (t - 1) * 14, none⟩ = some (.string (codeOf L2[t - 1])) := fun X => HC0.out (t - 1) hu _ (HB6.out.trans (X.h.mono HB6.out.size))
                  have gl := HUP2.out (t - 1) hu (by omega)
                  generalize codeOf L2[t - 1] = cu at xu gl
                  have g1 : Op.bytesLess cu.toList cy.toList = true := gl
                  have i3 : (0 : Int) ≤ (t : Int) - 1 := by omega
                  have i4 : (t : Int) - 1 < (m2 : Int) := by omega
                  have i5 : ((t : Int) - 1).toNat = t - 1 := by omega
                  have hdt : decide ((0 : Int) < (t : Int)) = true := by simpa using ht0
                  have hdn : decide (0 < t) = true := by simp; omega
                  clear gl hu
                  go_wp2_with fail
                  refine wp_grow W6 (by kernel_rfl) (by kernel_rfl) (Below.refl _ _) ?_
                  simp only []
                  iterate 3 go_big_quiet_step (fail)
                  refine BigFrame.wpQuiet_want (by kernel_rfl) (fun K hK => quiet_load_mid 42 (.tmp 12) rfl g2 (0) rfl y _ (fun W ⟨X, hX⟩ => by rw [hX]; exact (RX.out X)) hui rfl HYL.out (hK _ ?_))
                  simp only [Act.put, List.setIfInBounds_toArray, List.set_cons_zero, List.set_cons_succ]
                  iterate 4 go_big_quiet_step (fail)
                  refine BigFrame.wpQuiet_want (by kernel_rfl) (fun K hK => quiet_load_mid 42 (.tmp 117) rfl b2 (off2 + t * 14) rfl y _ (fun W ⟨X, hX⟩ => by rw [hX]; exact (RY.out X)) hui rfl HYL.out (hK _ ?_))
                  simp only [Act.put, List.setIfInBounds_toArray, List.set_cons_zero, List.set_cons_succ]
                  iterate 7 go_big_quiet_step (fail)
                  refine BigFrame.wpQuiet_want (by kernel_rfl) (fun K hK => quiet_load_mid 42 (.tmp 12) rfl g2 (0) rfl y _ (fun W ⟨X, hX⟩ => by rw [hX]; exact (RX.out X)) hui rfl HYL.out (hK _ ?_))
                  simp only [Act.put, List.setIfInBounds_toArray, List.set_cons_zero, List.set_cons_succ]
                  repeat go_big_quiet_step (fail)
                  refine wpQuiet_nil ?_
                  intro X
                  have HI7 := Lib.hid (HI6.out.below X.h)
                  go_wp2_with fail
                  go_roundw
                  case rel => exact ⟨t + 1, by omega, by go_num, HI7⟩
                  case measure => simp [intOf]; omega
                · have hdt : decide ((0 : Int) < (t : Int)) = false := by simpa using ht0
                  have hdn : decide (0 < t) = false := by simp; omega
                  go_wp2_with fail
                  refine wp_grow W6 (by kernel_rfl) (by kernel_rfl) (Below.refl _ _) ?_
                  simp only []
                  iterate 3 go_big_quiet_step (fail)
                  refine BigFrame.wpQuiet_want (by kernel_rfl) (fun K hK => quiet_load_mid 42 (.tmp 12) rfl g2 (0) rfl y _ (fun W ⟨X, hX⟩ => by rw [hX]; exact (RX.out X)) hui rfl HYL.out (hK _ ?_))
                  simp only [Act.put, List.setIfInBounds_toArray, List.set_cons_zero, List.set_cons_succ]
                  iterate 4 go_big_quiet_step (fail)
                  refine BigFrame.wpQuiet_want (by kernel_rfl) (fun K hK => quiet_load_mid 42 (.tmp 117) rfl b2 (off2 + t * 14) rfl y _ (fun W ⟨X, hX⟩ => by rw [hX]; exact (RY.out X)) hui rfl HYL.out (hK _ ?_))
                  simp only [Act.put, List.setIfInBounds_toArray, List.set_cons_zero, List.set_cons_succ]
                  iterate 7 go_big_quiet_step (fail)
                  refine BigFrame.wpQuiet_want (by kernel_rfl) (fun K hK => quiet_load_mid 42 (.tmp 12) rfl g2 (0) rfl y _ (fun W ⟨X, hX⟩ => by rw [hX]; exact (RX.out X)) hui rfl HYL.out (hK _ ?_))
                  simp only [Act.put, List.setIfInBounds_toArray, List.set_cons_zero, List.set_cons_succ]
                  repeat go_big_quiet_step (fail)
                  refine wpQuiet_nil ?_
                  intro X
                  have HI7 := Lib.hid (HI6.out.below X.h)
                  go_wp2_with fail
                  go_roundw
                  case rel => exact ⟨t + 1, by omega, by go_num, HI7⟩
                  case measure => simp [intOf]; omega
            · go_wp2_with fail
              go_roundw
              case rel => exact ⟨k + 1, _, L2, f2, by omega, by omega, by go_num, HIt⟩
              case measure => simp [intOf]; omega
        · have hj0 : ((j : Int) == 0) = false := by simpa using hj
          have hk0 : ((kk : Int) == 0) = false := by simpa using hc
          clear hj hc
          go_wp2_with (first
            | (refine wpList_store_row rfl 42 (.tmp 9) (.tmp 44) rfl W1.heap.size ys.toArray rfl rfl _ _ HQ1.out HYS.out HYO.out HYC.out ?_; rw [← HW2.out])
            | (refine wpList_load_mid rfl 42 (.tmp 74) rfl b (off + k * 14) rfl e _ HLE2.out hui rfl HEL.out ?_)
            | fail)
          refine (HCK.out _).mono ?_
          rintro e' W5 ⟨rfl, hb3⟩
          obtain ⟨⟨A2, m2, c2⟩, L2, f2, HI5⟩ : ∃ q2 L2 f2, Hid (FInv w (k + 1) q2 L2 f2 W5) := ⟨q, _, _, Lib.hid (HI2.out.below hb3).later⟩
          clear hb3 hlk c1
          have hmap5 := HI5.out.map.len Try.underlying54 3
          have c5 : W5.cell? ⟨w.heap.size, 0, none⟩ = some (.slice A2 m2 c2) := (cell_of_block HI5.out.box).trans rfl
          obtain ⟨w0, rfl⟩ : ∃ w0, w0 = wr := ⟨_, rfl⟩
          go_wp2_with fail
          clear hmap5 c5
          go_loopw [11] (fun i wr => ∃ t : Nat, t ≤ m2 ∧ i = .int .i64 (t : Int) ∧ Hid (FInv w (k + 1) (A2, m2, c2) L2 f2 wr)) (fun i _ => m2 - (intOf i).toNat)
          case atStart => exact ⟨0, by omega, rfl, HI5⟩
          case round =>
            obtain ⟨t, ht, rfl, HIt⟩ := hrel
            have ct : wr.cell? ⟨w.heap.size, 0, none⟩ = some (.slice A2 m2 c2) := (cell_of_block HIt.out.box).trans rfl
            have hm64 : m2 ≤ 64 := HIt.out.n64
            by_cases htm : t < m2
            · have htl : t < L2.length := by rw [← HIt.out.n]; exact htm
              obtain ⟨b2, off2, hA2, hb2, hc2⟩ := HIt.out.rd.thing HIt.out.t (by decide) htl
              obtain rfl : A2 = some ⟨b2, off2, none⟩ := hA2
              have r1 := hc2 t htl
              rw [show kItem.length = 14 from rfl] at r1
              obtain ⟨y, hy⟩ : ∃ y, L2[t] = y := ⟨_, rfl⟩
              have hgot := gotI_at HIt.out.up htl
              have hati := atI_at HIt.out.up htl
              have fy := HIt.out.t _ (List.getElem_mem htl)
              have zy := HIt.out.z _ (List.getElem_mem htl)
              have ay := HIt.out.ag.at_ _ (List.getElem_mem htl)
              have hup : ∀ u (hu : u < L2.length), u < t → Pl.lt (codeOf L2[u]) (codeOf L2[t]) = true := fun u hu hut => HIt.out.up.at hu htl hut
              rw [hy] at r1 hgot hati fy zy ay hup
              obtain ⟨cy, hcy⟩ : ∃ cy, codeOf y = cy := ⟨_, rfl⟩
              rw [hcy] at hgot hati zy ay hup
              have HYL : Hid ((Try.prog.info? 42).map (·.size) = some y.length) := Lib.hid (HSZ.out y fy)
              have HYA : Hid ((Try.prog.info? 42).map (·.size) = some y.toArray.size) := Lib.hid (by rw [List.size_toArray]; exact HSZ.out y fy)
              have HYZ : Hid ((#[.string ⟨#[]⟩, .string ⟨#[]⟩, .int .i64 0, .string ⟨#[]⟩, .int .i64 0, .string ⟨#[]⟩, .int .i64 0, .string ⟨#[]⟩, .int .i64 0, .int .i64 0, .int .i64 0, .bool false, .bool false, .bool false] : Array Value).size = y.toArray.size) := Lib.hid (by rw [List.size_toArray, List.size_toArray, fy.length]; rfl)
              have HYO2 : Hid (y.toArray.all (·.oneCell') = true) := Lib.hid (all_oneCell_toArray (fits_one fy))
              have HLY : Hid (∀ W, Below wr.heap.size wr W → W.rangeAt b2 (off2 + t * 14) y) := Lib.hid (fun W hW => rangeAt_below r1 hb2 hW)
              have HC0 : Hid (∀ u (hu : u < L2.length) W, Below wr.heap.size wr W → W.cell? ⟨b2, off2 + u * 14, none⟩ = some (.string (codeOf L2[u]))) := Lib.hid (fun u hu W hW => by
                obtain ⟨r, hr⟩ := item_code (HIt.out.t _ (List.getElem_mem hu))
                have := rangeAt_below (hc2 u hu) hb2 hW 0 (.string (codeOf L2[u])) (by rw [hr]; rfl)
                rw [show kItem.length = 14 from rfl] at this
                simpa using this)
              have HUP2 := Lib.hid hup
              have HCY : Hid (∀ W, Below wr.heap.size wr W → W.cell? ⟨b2, off2 + t * 14, none⟩ = some (.string cy)) := Lib.hid (fun W hW => by rw [← hcy, ← hy]; exact HC0.out t htl W hW)
              have HYG : Hid (∀ (W : World) (gg : Nat), W.heap[gg]? = some (.cells y.toArray 42 (0, 0)) → W.cell? ⟨gg, 0, none⟩ = some (.string cy)) := Lib.hid (fun W gg h => by
                obtain ⟨r, hr⟩ := item_code fy
                rw [cell_of_block h, List.getElem?_toArray, hr, hcy]; rfl)
              have HFD : Hid (∀ W, FInv w (k + 1) (some ⟨b2, off2, none⟩, m2, c2) L2 f2 W → Calls Try.prog 13 #[.agg (hsI (some ⟨b2, off2, none⟩, m2, c2)).cells, .string cy] W fun e W' => e = .returned (.tuple #[.agg y.toArray, .bool true]) ∧ Below W.heap.size W W') := Lib.hid (fun W hW => by
                have := finds_any (hsI (some ⟨b2, off2, none⟩, m2, c2)) L2 cy W (by simpa [Hs.set] using hW.n) (by have := hW.n64; simp [Hs.set]; simp at this; omega) hW.t (by simpa [Hs.set] using hW.rd)
                rw [hgot, hati] at this
                exact this)
              have HLK2 : Hid (∀ W, FInv w (k + 1) (some ⟨b2, off2, none⟩, m2, c2) L2 f2 W → (Instr.lookup 54 (.map (some (w.heap.size + 1))) (.string cy) false).run Try.prog W = .ok (.agg y.toArray) W) := Lib.hid (fun W hW => by
                have := hW.map.look Try.underlying54 (z := .agg zeroI.toArray) (by kernel_rfl) zy
                rw [ay] at this
                exact this)
              have HNEQ : Hid (∀ W, (binOp .neq 42 (.agg y.toArray) (.agg y.toArray)).run Try.prog W = .ok (.bool false) W) := Lib.hid (fun W => by
                obtain ⟨b0, h1, h2⟩ := neq_struct (P := Try.prog) eqItem (by decide) y y W fy fy
                rw [h2.2 rfl] at h1
                exact h1)
              have ST21 : Hid (∀ W, Below wr.heap.size wr W → W.rangeAt w.heap.size 0 (hsI (some ⟨b2, off2, none⟩, m2, c2)).cells.toList ∧ W.rangeAt b2 (off2 + t * 14) y ∧ W.cell? ⟨w.heap.size, 0, none⟩ = some (.slice (some ⟨b2, off2, none⟩) m2 c2) ∧ W.cell? ⟨b2, off2 + t * 14, none⟩ = some (.string cy)) := Lib.hid (fun W hW => ⟨range_row0 (HIt.out.below hW).box, HLY.out W hW, (cell_of_block (HIt.out.below hW).box).trans rfl, HCY.out W hW⟩)
              have i1 : (0 : Int) ≤ (t : Int) := by omega
              have i2 : (t : Int) < (m2 : Int) := by omega
              clear hc2 r1 hgot hati fy zy ay hup hy hcy hb2
              go_wp2_with fail
              apply region_to1 (R := fun g2 W => Hid (Below wr.heap.size wr W ∧ wr.heap.size ≤ g2 ∧ W.heap[g2]? = some (.cells y.toArray 42 (0, 0))))
              · refine wp_region_held_drew (S := (fun w' => w'.rangeAt w.heap.size 0 (hsI (some ⟨b2, off2, none⟩, m2, c2)).cells.toList ∧ w'.rangeAt b2 (off2 + t * 14) y ∧ w'.cell? ⟨w.heap.size, 0, none⟩ = some (.slice (some ⟨b2, off2, none⟩) m2 c2) ∧ w'.cell? ⟨b2, off2 + t * 14, none⟩ = some (.string cy))) (by kernel_rfl) (ST21.out _ (Below.refl wr.heap.size wr).drew) (fun dd0 => ?_)
                refine wpAnyH_take (i := 0) (v := .agg (hsI (some ⟨b2, off2, none⟩, m2, c2)).cells) rfl (by kernel_rfl) (by kernel_rfl) (by kernel_rfl) (fun _ _ _ h => nomatch h.1) (yieldsIf_load_mid (by kernel_rfl) 37 (.tmp 3) rfl w.heap.size 0 rfl (hsI (some ⟨b2, off2, none⟩, m2, c2)).cells.toList _ (fun w h => h.1) huh rfl (HSHL.out _)) (by assumption) ?_
                (try simp only [Act.put, List.getElem_toArray, List.getElem_cons_zero, List.setIfInBounds_toArray, List.set_cons_zero, List.set_cons_succ])
                refine wpAnyH_take (i := 1) (v := .pointer (some ⟨w.heap.size, 0, none⟩)) rfl (by kernel_rfl) (by kernel_rfl) (by kernel_rfl) (fun _ _ _ h => nomatch h.1) (.inl ⟨by kernel_rfl, fun w hw => by clear hw; go_simp⟩) (by assumption) ?_
                (try simp only [Act.put, List.getElem_toArray, List.getElem_cons_succ, List.getElem_cons_zero, List.setIfInBounds_toArray, List.set_cons_zero, List.set_cons_succ])
                refine wpAnyH_take (i := 2) (v := .slice (some ⟨b2, off2, none⟩) m2 c2) rfl (by kernel_rfl) (by kernel_rfl) (by kernel_rfl) (fun _ _ _ h => nomatch h.1) (.inl ⟨by kernel_rfl, fun w hw => by have hw := hw.2.2.1; go_simp⟩) (by assumption) ?_
                (try simp only [Act.put, List.getElem_toArray, List.getElem_cons_succ, List.getElem_cons_zero, List.setIfInBounds_toArray, List.set_cons_zero, List.set_cons_succ])
                refine wpAnyH_take (i := 3) (v := .int .i64 (t : Int)) rfl (by kernel_rfl) (by kernel_rfl) (by kernel_rfl) (fun _ _ _ h => nomatch h.1) (.inl ⟨by kernel_rfl, fun w hw => by clear hw; go_simp⟩) (by assumption) ?_
                (try simp only [Act.put, List.getElem_toArray, List.getElem_cons_succ, List.getElem_cons_zero, List.setIfInBounds_toArray, List.set_cons_zero, List.set_cons_succ])
                refine wpAnyH_take (i := 4) (v := .pointer (some ⟨b2, off2 + t * 14, none⟩)) rfl (by kernel_rfl) (by kernel_rfl) (by kernel_rfl) (fun _ _ _ h => nomatch h.1) (.inl ⟨by kernel_rfl, fun w hw => by clear hw; go_simp⟩) (by assumption) ?_
                (try simp only [Act.put, List.getElem_toArray, List.getElem_cons_succ, List.getElem_cons_zero, List.setIfInBounds_toArray, List.set_cons_zero, List.set_cons_succ])
                refine wpAnyH_take (i := 5) (v := .pointer (some ⟨b2, off2 + t * 14, none⟩)) rfl (by kernel_rfl) (by kernel_rfl) (by kernel_rfl) (fun _ _ _ h => nomatch h.1) (.inl ⟨by kernel_rfl, fun w hw => by clear hw; go_simp⟩) (by assumption) ?_
                (try simp only [Act.put, List.getElem_toArray, List.getElem_cons_succ, List.getElem_cons_zero, List.setIfInBounds_toArray, List.set_cons_zero, List.set_cons_succ])
                refine wpAnyH_take (i := 6) (v := .string cy) rfl (by kernel_rfl) (by kernel_rfl) (by kernel_rfl) (fun _ _ _ h => nomatch h.1) (.inl ⟨by kernel_rfl, fun w hw => by have hw := hw.2.2.2; go_simp⟩) (by assumption) ?_
                (try simp only [Act.put, List.getElem_toArray, List.getElem_cons_succ, List.getElem_cons_zero, List.setIfInBounds_toArray, List.set_cons_zero, List.set_cons_succ])
                refine wpAnyH_ready (rs := [7, 11]) (by kernel_rfl) (by simp) ?_
                refine AllReadyH.cons rfl (fun K hK => ?_) (AllReadyH.cons rfl (fun K hK => ?_) AllReadyH.nil)
                · go_simp
                  refine (HFD.out _ (HIt.out.below (Below.refl wr.heap.size wr).drew)).mono ?_
                  rintro e' w2 ⟨rfl, hb2'⟩
                  have H2 : Hid (Below wr.heap.size wr w2) := Lib.hid ((Below.refl wr.heap.size wr).drew.trans hb2')
                  refine hK.out _ _ (ST21.out _ H2.out) (fun _ => ?_)
                  clear hK K
                  (try simp only [Act.put, List.getElem_toArray, List.getElem_cons_succ, List.getElem_cons_zero, List.setIfInBounds_toArray, List.set_cons_zero, List.set_cons_succ])
                  refine wpAnyH_take (i := 8) (v := .tuple #[.agg y.toArray, .bool true]) rfl (by kernel_rfl) (by kernel_rfl) (by kernel_rfl) (fun _ _ _ h => nomatch h.1) (.inl ⟨by kernel_rfl, fun w hw => by clear hw; go_simp⟩) (by assumption) ?_
                  (try simp only [Act.put, List.getElem_toArray, List.getElem_cons_succ, List.getElem_cons_zero, List.setIfInBounds_toArray, List.set_cons_zero, List.set_cons_succ])
                  refine wpAnyH_take (i := 9) (v := .agg y.toArray) rfl (by kernel_rfl) (by kernel_rfl) (by kernel_rfl) (fun _ _ _ h => nomatch h.1) (.inl ⟨by kernel_rfl, fun w hw => by clear hw; go_simp⟩) (by assumption) ?_
                  (try simp only [Act.put, List.getElem_toArray, List.getElem_cons_succ, List.getElem_cons_zero, List.setIfInBounds_toArray, List.set_cons_zero, List.set_cons_succ])
                  refine wpAnyH_take (i := 10) (v := .bool true) rfl (by kernel_rfl) (by kernel_rfl) (by kernel_rfl) (fun _ _ _ h => nomatch h.1) (.inl ⟨by kernel_rfl, fun w hw => by clear hw; go_simp⟩) (by assumption) ?_
                  (try simp only [Act.put, List.getElem_toArray, List.getElem_cons_succ, List.getElem_cons_zero, List.setIfInBounds_toArray, List.set_cons_zero, List.set_cons_succ])
                  refine wpAnyH_ready (rs := [11]) (by kernel_rfl) (by simp) ?_
                  refine AllReadyH.cons rfl (fun K hK => ?_) AllReadyH.nil
                  go_simp
                  have hal : Below wr.heap.size wr (w2.alloc (.cells #[.string ⟨#[]⟩, .string ⟨#[]⟩, .int .i64 0, .string ⟨#[]⟩, .int .i64 0, .string ⟨#[]⟩, .int .i64 0, .string ⟨#[]⟩, .int .i64 0, .int .i64 0, .int .i64 0, .bool false, .bool false, .bool false] 42)) := H2.out.alloc H2.out.size _
                  have hbx := heap_alloc_new w2 (.cells #[.string ⟨#[]⟩, .string ⟨#[]⟩, .int .i64 0, .string ⟨#[]⟩, .int .i64 0, .string ⟨#[]⟩, .int .i64 0, .string ⟨#[]⟩, .int .i64 0, .int .i64 0, .int .i64 0, .bool false, .bool false, .bool false] 42)
                  obtain ⟨g2, hg⟩ : ∃ g, g = w2.heap.size := ⟨_, rfl⟩
                  have HGW : Hid (wr.heap.size ≤ g2) := Lib.hid (by rw [hg]; exact H2.out.size)
                  obtain ⟨w3, hw3⟩ : ∃ w3, w3 = w2.alloc (.cells #[.string ⟨#[]⟩, .string ⟨#[]⟩, .int .i64 0, .string ⟨#[]⟩, .int .i64 0, .string ⟨#[]⟩, .int .i64 0, .string ⟨#[]⟩, .int .i64 0, .int .i64 0, .int .i64 0, .bool false, .bool false, .bool false] 42) := ⟨_, rfl⟩
                  rw [← hg] at hbx ⊢
                  rw [← hw3] at hal hbx ⊢
                  refine hK.out _ _ (ST21.out _ hal) (fun _ => ?_)
                  clear hK K hb2' hw3 hg
                  (try simp only [Act.put, List.getElem_toArray, List.getElem_cons_succ, List.getElem_cons_zero, List.setIfInBounds_toArray, List.set_cons_zero, List.set_cons_succ])
                  refine wpAnyH_ready (rs := [12]) (by kernel_rfl) (by simp) ?_
                  refine AllReadyH.cons rfl (fun K hK => ?_) AllReadyH.nil
                  rw [if_pos (by kernel_rfl)]
                  refine wp_store_row 42 (.tmp 12) (.tmp 108) rfl g2 y.toArray rfl rfl _ _ hbx HYA.out HYZ.out HYO2.out ?_
                  have hst : Below wr.heap.size wr (w3.setRow g2 y.toArray) := setRow_below hal HGW.out _
                  refine hK.out _ _ (ST21.out _ hst) (fun _ => ?_)
                  clear hK K
                  (try simp only [Act.put, List.getElem_toArray, List.getElem_cons_succ, List.getElem_cons_zero])
                  refine wpAnyH_take (i := 13) (v := .bool true) rfl (by kernel_rfl) (by kernel_rfl) (by kernel_rfl) (fun _ _ _ h => nomatch h.1) (.inl ⟨by kernel_rfl, fun w hw => by clear hw; go_simp⟩) (by assumption) ?_
                  (try simp only [Act.put, List.getElem_toArray, List.getElem_cons_succ, List.getElem_cons_zero, List.setIfInBounds_toArray, List.set_cons_zero, List.set_cons_succ])
                  refine wpAnyH_done (by kernel_rfl) ?_ _
                  exact ⟨rfl, g2, rfl, Lib.hid ⟨hst, HGW.out, setRow_heap _ _ _ _ _ _ hbx⟩⟩
                · go_simp
                  have hal0 : Below wr.heap.size wr (wr.alloc (.cells #[.string ⟨#[]⟩, .string ⟨#[]⟩, .int .i64 0, .string ⟨#[]⟩, .int .i64 0, .string ⟨#[]⟩, .int .i64 0, .string ⟨#[]⟩, .int .i64 0, .int .i64 0, .int .i64 0, .bool false, .bool false, .bool false] 42)).drew := ((Below.refl wr.heap.size wr).alloc (Nat.le_refl _) _).drew
                  have hbx0 : (wr.alloc (.cells #[.string ⟨#[]⟩, .string ⟨#[]⟩, .int .i64 0, .string ⟨#[]⟩, .int .i64 0, .string ⟨#[]⟩, .int .i64 0, .string ⟨#[]⟩, .int .i64 0, .int .i64 0, .int .i64 0, .bool false, .bool false, .bool false] 42)).drew.heap[wr.heap.size]? = some (.cells #[.string ⟨#[]⟩, .string ⟨#[]⟩, .int .i64 0, .string ⟨#[]⟩, .int .i64 0, .string ⟨#[]⟩, .int .i64 0, .string ⟨#[]⟩, .int .i64 0, .int .i64 0, .int .i64 0, .bool false, .bool false, .bool false] 42 (0, 0)) := heap_alloc_new wr (.cells #[.string ⟨#[]⟩, .string ⟨#[]⟩, .int .i64 0, .string ⟨#[]⟩, .int .i64 0, .string ⟨#[]⟩, .int .i64 0, .string ⟨#[]⟩, .int .i64 0, .int .i64 0, .int .i64 0, .bool false, .bool false, .bool false] 42)
                  obtain ⟨g2, hg⟩ : ∃ g, g = wr.heap.size := ⟨_, rfl⟩
                  have HGW : Hid (wr.heap.size ≤ g2) := Lib.hid (by rw [hg]; exact Nat.le_refl _)
                  obtain ⟨w3, hw3⟩ : ∃ w3, w3 = (wr.alloc (.cells #[.string ⟨#[]⟩, .string ⟨#[]⟩, .int .i64 0, .string ⟨#[]⟩, .int .i64 0, .string ⟨#[]⟩, .int .i64 0, .string ⟨#[]⟩, .int .i64 0, .int .i64 0, .int .i64 0, .bool false, .bool false, .bool false] 42)).drew := ⟨_, rfl⟩
                  have HG3' : Hid (g2 < w3.heap.size) := Lib.hid (by rw [hw3, hg]; simp [World.drew])
                  rw [← hw3] at hal0 hbx0 ⊢
                  rw [← hg] at hbx0 ⊢
                  refine hK.out _ _ (ST21.out _ hal0) (fun _ => ?_)
                  clear hK K hw3 hg
                  (try simp only [Act.put, List.getElem_toArray, List.getElem_cons_succ, List.getElem_cons_zero, List.setIfInBounds_toArray, List.set_cons_zero, List.set_cons_succ])
                  refine wpAnyH_ready (rs := [7]) (by kernel_rfl) (by simp) ?_
                  refine AllReadyH.cons rfl (fun K hK => ?_) AllReadyH.nil
                  go_simp
                  refine (HFD.out _ (HIt.out.below hal0)).mono ?_
                  rintro e' w2 ⟨rfl, hb2'⟩
                  have hal : Below wr.heap.size wr w2 := hal0.trans (hb2'.mono hal0.size)
                  have hbx := (hb2'.block g2 HG3'.out).trans hbx0
                  refine hK.out _ _ (ST21.out _ hal) (fun _ => ?_)
                  clear hK K hb2' hbx0 hal0
                  (try simp only [Act.put, List.getElem_toArray, List.getElem_cons_succ, List.getElem_cons_zero, List.setIfInBounds_toArray, List.set_cons_zero, List.set_cons_succ])
                  refine wpAnyH_take (i := 8) (v := .tuple #[.agg y.toArray, .bool true]) rfl (by kernel_rfl) (by kernel_rfl) (by kernel_rfl) (fun _ _ _ h => nomatch h.1) (.inl ⟨by kernel_rfl, fun w hw => by clear hw; go_simp⟩) (by assumption) ?_
                  (try simp only [Act.put, List.getElem_toArray, List.getElem_cons_succ, List.getElem_cons_zero, List.setIfInBounds_toArray, List.set_cons_zero, List.set_cons_succ])
                  refine wpAnyH_take (i := 9) (v := .agg y.toArray) rfl (by kernel_rfl) (by kernel_rfl) (by kernel_rfl) (fun _ _ _ h => nomatch h.1) (.inl ⟨by kernel_rfl, fun w hw => by clear hw; go_simp⟩) (by assumption) ?_
                  (try simp only [Act.put, List.getElem_toArray, List.getElem_cons_succ, List.getElem_cons_zero, List.setIfInBounds_toArray, List.set_cons_zero, List.set_cons_succ])
                  refine wpAnyH_take (i := 10) (v := .bool true) rfl (by kernel_rfl) (by kernel_rfl) (by kernel_rfl) (fun _ _ _ h => nomatch h.1) (.inl ⟨by kernel_rfl, fun w hw => by clear hw; go_simp⟩) (by assumption) ?_
                  (try simp only [Act.put, List.getElem_toArray, List.getElem_cons_succ, List.getElem_cons_zero, List.setIfInBounds_toArray, List.set_cons_zero, List.set_cons_succ])
                  refine wpAnyH_ready (rs := [12]) (by kernel_rfl) (by simp) ?_
                  refine AllReadyH.cons rfl (fun K hK => ?_) AllReadyH.nil
                  rw [if_pos (by kernel_rfl)]
                  refine wp_store_row 42 (.tmp 12) (.tmp 108) rfl g2 y.toArray rfl rfl _ _ hbx HYA.out HYZ.out HYO2.out ?_
                  have hst : Below wr.heap.size wr (w2.setRow g2 y.toArray) := setRow_below hal HGW.out _
                  refine hK.out _ _ (ST21.out _ hst) (fun _ => ?_)
                  clear hK K
                  (try simp only [Act.put, List.getElem_toArray, List.getElem_cons_succ, List.getElem_cons_zero])
                  refine wpAnyH_take (i := 13) (v := .bool true) rfl (by kernel_rfl) (by kernel_rfl) (by kernel_rfl) (fun _ _ _ h => nomatch h.1) (.inl ⟨by kernel_rfl, fun w hw => by clear hw; go_simp⟩) (by assumption) ?_
                  (try simp only [Act.put, List.getElem_toArray, List.getElem_cons_succ, List.getElem_cons_zero, List.setIfInBounds_toArray, List.set_cons_zero, List.set_cons_succ])
                  refine wpAnyH_done (by kernel_rfl) ?_ _
                  exact ⟨rfl, g2, rfl, Lib.hid ⟨hst, HGW.out, setRow_heap _ _ _ _ _ _ hbx⟩⟩
              · intro g2 W6 hR
                have HB6 := Lib.hid hR.out.1
                have HG6 := Lib.hid hR.out.2.2
                have HI6 := Lib.hid (HIt.out.below HB6.out)
                clear hR ct
                have xs0 : ∀ X : BW W6, X.W.cell? ⟨w.heap.size, 0, none⟩ = some (.slice (some ⟨b2, off2, none⟩) m2 c2) := fun X => (cell_of_block (HI6.out.below X.h).box).trans rfl
                have RX : Hid (∀ X : BW W6, X.W.rangeAt g2 0 y) := Lib.hid (fun X => range_row ((X.h.block _ (lt_of_block HG6.out)).trans HG6.out))
                have RY : Hid (∀ X : BW W6, X.W.rangeAt b2 (off2 + t * 14) y) := Lib.hid (fun X => HLY.out _ (HB6.out.trans (X.h.mono HB6.out.size)))
                have xg0 : ∀ X : BW W6, X.W.cell? ⟨g2, 0, none⟩ = some (.string cy) := fun X => HYG.out _ _ ((X.h.block _ (lt_of_block HG6.out)).trans HG6.out)
                have xl : ∀ X : BW W6, (Instr.lookup 54 (.map (some (w.heap.size + 1))) (.string cy) false).run Try.prog X.W = .ok (.agg y.toArray) X.W := fun X => HLK2.out _ (HI6.out.below X.h)
                have hneq := HNEQ.out
                by_cases ht0 : (0 : Int) < (t : Int)
                · have hu : t - 1 < L2.length := by omega
                  have xu : ∀ X : BW W6, X.W.cell? ⟨b2, off2 + (t - 1) * 14, none⟩ = some (.string (codeOf L2[t - 1])) := fun X => HC0.out (t - 1) hu _ (HB6.out.trans (X.h.mono HB6.out.size))
                  have gl := HUP2.out (t - 1) hu (by omega)
                  generalize codeOf L2[t - 1] = cu at xu gl
                  have g1 : Op.bytesLess cu.toList cy.toList = true := gl
                  have i3 : (0 : Int) ≤ (t : Int) - 1 := by omega
                  have i4 : (t : Int) - 1 < (m2 : Int) := by omega
                  have i5 : ((t : Int) - 1).toNat = t - 1 := by omega
                  have hdt : decide ((0 : Int) < (t : Int)) = true := by simpa using ht0
                  have hdn : decide (0 < t) = true := by simp; omega
                  clear gl hu
                  go_wp2_with fail
                  refine wp_grow W6 (by kernel_rfl) (by kernel_rfl) (Below.refl _ _) ?_
                  simp only []
                  iterate 3 go_big_quiet_step (fail)
                  refine BigFrame.wpQuiet_want (by kernel_rfl) (fun K hK => quiet_load_mid 42 (.tmp 12) rfl g2 (0) rfl y _ (fun W ⟨X, hX⟩ => by rw [hX]; exact (RX.out X)) hui rfl HYL.out (hK _ ?_))
                  simp only [Act.put, List.setIfInBounds_toArray, List.set_cons_zero, List.set_cons_succ]
                  iterate 4 go_big_quiet_step (fail)
                  refine BigFrame.wpQuiet_want (by kernel_rfl) (fun K hK => quiet_load_mid 42 (.tmp 117) rfl b2 (off2 + t * 14) rfl y _ (fun W ⟨X, hX⟩ => by rw [hX]; exact (RY.out X)) hui rfl HYL.out (hK _ ?_))
                  simp only [Act.put, List.setIfInBounds_toArray, List.set_cons_zero, List.set_cons_succ]
                  iterate 7 go_big_quiet_step (fail)
                  refine BigFrame.wpQuiet_want (by kernel_rfl) (fun K hK => quiet_load_mid 42 (.tmp 12) rfl g2 (0) rfl y _ (fun W ⟨X, hX⟩ => by rw [hX]; exact (RX.out X)) hui rfl HYL.out (hK _ ?_))
                  simp only [Act.put, List.setIfInBounds_toArray, List.set_cons_zero, List.set_cons_succ]
                  repeat go_big_quiet_step (fail)
                  refine wpQuiet_nil ?_
                  intro X
                  have HI7 := Lib.hid (HI6.out.below X.h)
                  go_wp2_with fail
                  go_roundw
                  case rel => exact ⟨t + 1, by omega, by go_num, HI7⟩
                  case measure => simp [intOf]; omega
                · have hdt : decide ((0 : Int) < (t : Int)) = false := by simpa using ht0
                  have hdn : decide (0 < t) = false := by simp; omega
                  go_wp2_with fail
                  refine wp_grow W6 (by kernel_rfl) (by kernel_rfl) (Below.refl _ _) ?_
                  simp only []
                  iterate 3 go_big_quiet_step (fail)
                  refine BigFrame.wpQuiet_want (by kernel_rfl) (fun K hK => quiet_load_mid 42 (.tmp 12) rfl g2 (0) rfl y _ (fun W ⟨X, hX⟩ => by rw [hX]; exact (RX.out X)) hui rfl HYL.out (hK _ ?_))
                  simp only [Act.put, List.setIfInBounds_toArray, List.set_cons_zero, List.set_cons_succ]
                  iterate 4 go_big_quiet_step (fail)
                  refine BigFrame.wpQuiet_want (by kernel_rfl) (fun K hK => quiet_load_mid 42 (.tmp 117) rfl b2 (off2 + t * 14) rfl y _ (fun W ⟨X, hX⟩ => by rw [hX]; exact (RY.out X)) hui rfl HYL.out (hK _ ?_))
                  simp only [Act.put, List.setIfInBounds_toArray, List.set_cons_zero, List.set_cons_succ]
                  iterate 7 go_big_quiet_step (fail)
                  refine BigFrame.wpQuiet_want (by kernel_rfl) (fun K hK => quiet_load_mid 42 (.tmp 12) rfl g2 (0) rfl y _ (fun W ⟨X, hX⟩ => by rw [hX]; exact (RX.out X)) hui rfl HYL.out (hK _ ?_))
                  simp only [Act.put, List.setIfInBounds_toArray, List.set_cons_zero, List.set_cons_succ]
                  repeat go_big_quiet_step (fail)
                  refine wpQuiet_nil ?_
                  intro X
                  have HI7 := Lib.hid (HI6.out.below X.h)
                  go_wp2_with fail
                  go_roundw
                  case rel => exact ⟨t + 1, by omega, by go_num, HI7⟩
                  case measure => simp [intOf]; omega
            · go_wp2_with fail
              go_roundw
              case rel => exact ⟨k + 1, _, L2, f2, by omega, by omega, by go_num, HIt⟩
              case measure => simp [intOf]; omega
        · have hj0 : ((j : Int) == 0) = false := by simpa using hj
          clear hj
          go_wp2_with (first
            | (refine wpList_store_row rfl 42 (.tmp 9) (.tmp 44) rfl W1.heap.size ys.toArray rfl rfl _ _ HQ1.out HYS.out HYO.out HYC.out ?_; rw [← HW2.out])
            | (refine wpList_load_mid rfl 42 (.tmp 74) rfl b (off + k * 14) rfl e _ HLE2.out hui rfl HEL.out ?_)
            | fail)
          refine (HCK.out _).mono ?_
          rintro e' W5 ⟨rfl, hb3⟩
          obtain ⟨⟨A2, m2, c2⟩, L2, f2, HI5⟩ : ∃ q2 L2 f2, Hid (FInv w (k + 1) q2 L2 f2 W5) := ⟨q, _, _, Lib.hid (HI2.out.below hb3).later⟩
          clear hb3 hlk c1
          have hmap5 := HI5.out.map.len Try.underlying54 3
          have c5 : W5.cell? ⟨w.heap.size, 0, none⟩ = some (.slice A2 m2 c2) := (cell_of_block HI5.out.box).trans rfl
          obtain ⟨w0, rfl⟩ : ∃ w0, w0 = wr := ⟨_, rfl⟩
          go_wp2_with fail
          clear hmap5 c5
          go_loopw [11] (fun i wr => ∃ t : Nat, t ≤ m2 ∧ i = .int .i64 (t : Int) ∧ Hid (FInv w (k + 1) (A2, m2, c2) L2 f2 wr)) (fun i _ => m2 - (intOf i).toNat)
          case atStart => exact ⟨0, by omega, rfl, HI5⟩
          case round =>
            obtain ⟨t, ht, rfl, HIt⟩ := hrel
            have ct : wr.cell? ⟨w.heap.size, 0, none⟩ = some (.slice A2 m2 c2) := (cell_of_block HIt.out.box).trans rfl
            have hm64 : m2 ≤ 64 := HIt.out.n64
            by_cases htm : t < m2
            · have htl : t < L2.length := by rw [← HIt.out.n]; exact htm
              obtain ⟨b2, off2, hA2, hb2, hc2⟩ := HIt.out.rd.thing HIt.out.t (by decide) htl
              obtain rfl : A2 = some ⟨b2, off2, none⟩ := hA2
              have r1 := hc2 t htl
              rw [show kItem.length = 14 from rfl] at r1
              obtain ⟨y, hy⟩ : ∃ y, L2[t] = y := ⟨_, rfl⟩
              have hgot := gotI_at HIt.out.up htl
              have hati := atI_at HIt.out.up htl
              have fy := HIt.out.t _ (List.getElem_mem htl)
              have zy := HIt.out.z _ (List.getElem_mem htl)
              have ay := HIt.out.ag.at_ _ (List.getElem_mem htl)
              have hup : ∀ u (hu : u < L2.length), u < t → Pl.lt (codeOf L2[u]) (codeOf L2[t]) = true := fun u hu hut => HIt.out.up.at hu htl hut
              rw [hy] at r1 hgot hati fy zy ay hup
              obtain ⟨cy, hcy⟩ : ∃ cy, codeOf y = cy := ⟨_, rfl⟩
              rw [hcy] at hgot hati zy ay hup
              have HYL : Hid ((Try.prog.info? 42).map (·.size) = some y.length) := Lib.hid (HSZ.out y fy)
              have HYA : Hid ((Try.prog.info? 42).map (·.size) = some y.toArray.size) := Lib.hid (by rw [List.size_toArray]; exact HSZ.out y fy)
              have HYZ : Hid ((#[.string ⟨#[]⟩, .string ⟨#[]⟩, .int .i64 0, .string ⟨#[]⟩, .int .i64 0, .string ⟨#[]⟩, .int .i64 0, .string ⟨#[]⟩, .int .i64 0, .int .i64 0, .int .i64 0, .bool false, .bool false, .bool false] : Array Value).size = y.toArray.size) := Lib.hid (by rw [List.size_toArray, List.size_toArray, fy.length]; rfl)
              have HYO2 : Hid (y.toArray.all (·.oneCell') = true) := Lib.hid (all_oneCell_toArray (fits_one fy))
              have HLY : Hid (∀ W, Below wr.heap.size wr W → W.rangeAt b2 (off2 + t * 14) y) := Lib.hid (fun W hW => rangeAt_below r1 hb2 hW)
              have HC0 : Hid (∀ u (hu : u < L2.length) W, Below wr.heap.size wr W → W.cell? ⟨b2, off2 + u * 14, none⟩ = some (.string (codeOf L2[u]))) := Lib.hid (fun u hu W hW => by
                obtain ⟨r, hr⟩ := item_code (HIt.out.t _ (List.getElem_mem hu))
                have := rangeAt_below (hc2 u hu) hb2 hW 0 (.string (codeOf L2[u])) (by rw [hr]; rfl)
                rw [show kItem.length = 14 from rfl] at this
                simpa using this)
              have HUP2 := Lib.hid hup
              have HCY : Hid (∀ W, Below wr.heap.size wr W → W.cell? ⟨b2, off2 + t * 14, none⟩ = some (.string cy)) := Lib.hid (fun W hW => by rw [← hcy, ← hy]; exact HC0.out t htl W hW)
              have HYG : Hid (∀ (W : World) (gg : Nat), W.heap[gg]? = some (.cells y.toArray 42 (0, 0)) → W.cell? ⟨gg, 0, none⟩ = some (.string cy)) := Lib.hid (fun W gg h => by
                obtain ⟨r, hr⟩ := item_code fy
                rw [cell_of_block h, List.getElem?_toArray, hr, hcy]; rfl)
              have HFD : Hid (∀ W, FInv w (k + 1) (some ⟨b2, off2, none⟩, m2, c2) L2 f2 W → Calls Try.prog 13 #[.agg (hsI (some ⟨b2, off2, none⟩, m2, c2)).cells, .string cy] W fun e W' => e = .returned (.tuple #[.agg y.toArray, .bool true]) ∧ Below W.heap.size W W') := Lib.hid (fun W hW => by
                have := finds_any (hsI (some ⟨b2, off2, none⟩, m2, c2)) L2 cy W (by simpa [Hs.set] using hW.n) (by have := hW.n64; simp [Hs.set]; simp at this; omega) hW.t (by simpa [Hs.set] using hW.rd)
                rw [hgot, hati] at this
                exact this)
              have HLK2 : Hid (∀ W, FInv w (k + 1) (some ⟨b2, off2, none⟩, m2, c2) L2 f2 W → (Instr.lookup 54 (.map (some (w.heap.size + 1))) (.string cy) false).run Try.prog W = .ok (.agg y.toArray) W) := Lib.hid (fun W hW => by
                have := hW.map.look Try.underlying54 (z := .agg zeroI.toArray) (by kernel_rfl) zy
                rw [ay] at this
                exact this)
              have HNEQ : Hid (∀ W, (binOp .neq 42 (.agg y.toArray) (.agg y.toArray)).run Try.prog W = .ok (.bool false) W) := Lib.hid (fun W => by
                obtain ⟨b0, h1, h2⟩ := neq_struct (P := Try.prog) eqItem (by decide) y y W fy fy
                rw [h2.2 rfl] at h1
                exact h1)
              have ST21 : Hid (∀ W, Below wr.heap.size wr W → W.rangeAt w.heap.size 0 (hsI (some ⟨b2, off2, none⟩, m2, c2)).cells.toList ∧ W.rangeAt b2 (off2 + t * 14) y ∧ W.cell? ⟨w.heap.size, 0, none⟩ = some (.slice (some ⟨b2, off2, none⟩) m2 c2) ∧ W.cell? ⟨b2, off2 + t * 14, none⟩ = some (.string cy)) := Lib.hid (fun W hW => ⟨range_row0 (HIt.out.below hW).box, HLY.out W hW, (cell_of_block (HIt.out.below hW).box).trans rfl, HCY.out W hW⟩)
              have i1 : (0 : Int) ≤ (t : Int) := by omega
              have i2 : (t : Int) < (m2 : Int) := by omega
              clear hc2 r1 hgot hati fy zy ay hup hy hcy hb2
              go_wp2_with fail
              apply region_to1 (R := fun g2 W => Hid (Below wr.heap.size wr W ∧ wr.heap.size ≤ g2 ∧ W.heap[g2]? = some (.cells y.toArray 42 (0, 0))))
              · refine wp_region_held_drew (S := (fun w' => w'.rangeAt w.heap.size 0 (hsI (some ⟨b2, off2, none⟩, m2, c2)).cells.toList ∧ w'.rangeAt b2 (off2 + t * 14) y ∧ w'.cell? ⟨w.heap.size, 0, none⟩ = some (.slice (some ⟨b2, off2, none⟩) m2 c2) ∧ w'.cell? ⟨b2, off2 + t * 14, none⟩ = some (.string cy))) (by kernel_rfl) (ST21.out _ (Below.refl wr.heap.size wr).drew) (fun dd0 => ?_)
                refine wpAnyH_take (i := 0) (v := .agg (hsI (some ⟨b2, off2, none⟩, m2, c2)).cells) rfl (by kernel_rfl) (by kernel_rfl) (by kernel_rfl) (fun _ _ _ h => nomatch h.1) (yieldsIf_load_mid (by kernel_rfl) 37 (.tmp 3) rfl w.heap.size 0 rfl (hsI (some ⟨b2, off2, none⟩, m2, c2)).cells.toList _ (fun w h => h.1) huh rfl (HSHL.out _)) (by assumption) ?_
                (try simp only [Act.put, List.getElem_toArray, List.getElem_cons_zero, List.setIfInBounds_toArray, List.set_cons_zero, List.set_cons_succ])
                refine wpAnyH_take (i := 1) (v := .pointer (some ⟨w.heap.size, 0, none⟩)) rfl (by kernel_rfl) (by kernel_rfl) (by kernel_rfl) (fun _ _ _ h => nomatch h.1) (.inl ⟨by kernel_rfl, fun w hw => by clear hw; go_simp⟩) (by assumption) ?_
                (try simp only [Act.put, List.getElem_toArray, List.getElem_cons_succ, List.getElem_cons_zero, List.setIfInBounds_toArray, List.set_cons_zero, List.set_cons_succ])
                refine wpAnyH_take (i := 2) (v := .slice (some ⟨b2, off2, none⟩) m2 c2) rfl (by kernel_rfl) (by kernel_rfl) (by kernel_rfl) (fun _ _ _ h => nomatch h.1) (.inl ⟨by kernel_rfl, fun w hw => by have hw := hw.2.2.1; go_simp⟩) (by assumption) ?_
                (try simp only [Act.put, List.getElem_toArray, List.getElem_cons_succ, List.getElem_cons_zero, List.setIfInBounds_toArray, List.set_cons_zero, List.set_cons_succ])
                refine wpAnyH_take (i := 3) (v := .int .i64 (t : Int)) rfl (by kernel_rfl) (by kernel_rfl) (by kernel_rfl) (fun _ _ _ h => nomatch h.1) (.inl ⟨by kernel_rfl, fun w hw => by clear hw; go_simp⟩) (by assumption) ?_
                (try simp only [Act.put, List.getElem_toArray, List.getElem_cons_succ, List.getElem_cons_zero, List.setIfInBounds_toArray, List.set_cons_zero, List.set_cons_succ])
                refine wpAnyH_take (i := 4) (v := .pointer (some ⟨b2, off2 + t * 14, none⟩)) rfl (by kernel_rfl) (by kernel_rfl) (by kernel_rfl) (fun _ _ _ h => nomatch h.1) (.inl ⟨by kernel_rfl, fun w hw => by clear hw; go_simp⟩) (by assumption) ?_
                (try simp only [Act.put, List.getElem_toArray, List.getElem_cons_succ, List.getElem_cons_zero, List.setIfInBounds_toArray, List.set_cons_zero, List.set_cons_succ])
                refine wpAnyH_take (i := 5) (v := .pointer (some ⟨b2, off2 + t * 14, none⟩)) rfl (by kernel_rfl) (by kernel_rfl) (by kernel_rfl) (fun _ _ _ h => nomatch h.1) (.inl ⟨by kernel_rfl, fun w hw => by clear hw; go_simp⟩) (by assumption) ?_
                (try simp only [Act.put, List.getElem_toArray, List.getElem_cons_succ, List.getElem_cons_zero, List.setIfInBounds_toArray, List.set_cons_zero, List.set_cons_succ])
                refine wpAnyH_take (i := 6) (v := .string cy) rfl (by kernel_rfl) (by kernel_rfl) (by kernel_rfl) (fun _ _ _ h => nomatch h.1) (.inl ⟨by kernel_rfl, fun w hw => by have hw := hw.2.2.2; go_simp⟩) (by assumption) ?_
                (try simp only [Act.put, List.getElem_toArray, List.getElem_cons_succ, List.getElem_cons_zero, List.setIfInBounds_toArray, List.set_cons_zero, List.set_cons_succ])
                refine wpAnyH_ready (rs := [7, 11]) (by kernel_rfl) (by simp) ?_
                refine AllReadyH.cons rfl (fun K hK => ?_) (AllReadyH.cons rfl (fun K hK => ?_) AllReadyH.nil)
                · go_simp
                  refine (HFD.out _ (HIt.out.below (Below.refl wr.heap.size wr).drew)).mono ?_
                  rintro e' w2 ⟨rfl, hb2'⟩
                  have H2 : Hid (Below wr.heap.size wr w2) := Lib.hid ((Below.refl wr.heap.size wr).drew.trans hb2')
                  refine hK.out _ _ (ST21.out _ H2.out) (fun _ => ?_)
                  clear hK K
                  (try simp only [Act.put, List.getElem_toArray, List.getElem_cons_succ, List.getElem_cons_zero, List.setIfInBounds_toArray, List.set_cons_zero, List.set_cons_succ])
                  refine wpAnyH_take (i := 8) (v := .tuple #[.agg y.toArray, .bool true]) rfl (by kernel_rfl) (by kernel_rfl) (by kernel_rfl) (fun _ _ _ h => nomatch h.1) (.inl ⟨by kernel_rfl, fun w hw => by clear hw; go_simp⟩) (by assumption) ?_
                  (try simp only [Act.put, List.getElem_toArray, List.getElem_cons_succ, List.getElem_cons_zero, List.setIfInBounds_toArray, List.set_cons_zero, List.set_cons_succ])
                  refine wpAnyH_take (i := 9) (v := .agg y.toArray) rfl (by kernel_rfl) (by kernel_rfl) (by kernel_rfl) (fun _ _ _ h => nomatch h.1) (.inl ⟨by kernel_rfl, fun w hw => by clear hw; go_simp⟩) (by assumption) ?_
                  (try simp only [Act.put, List.getElem_toArray, List.getElem_cons_succ, List.getElem_cons_zero, List.setIfInBounds_toArray, List.set_cons_zero, List.set_cons_succ])
                  refine wpAnyH_take (i := 10) (v := .bool true) rfl (by kernel_rfl) (by kernel_rfl) (by kernel_rfl) (fun _ _ _ h => nomatch h.1) (.inl ⟨by kernel_rfl, fun w hw => by clear hw; go_simp⟩) (by assumption) ?_
                  (try simp only [Act.put, List.getElem_toArray, List.getElem_cons_succ, List.getElem_cons_zero, List.setIfInBounds_toArray, List.set_cons_zero, List.set_cons_succ])
                  refine wpAnyH_ready (rs := [11]) (by kernel_rfl) (by simp) ?_
                  refine AllReadyH.cons rfl (fun K hK => ?_) AllReadyH.nil
                  go_simp
                  have hal : Below wr.heap.size wr (w2.alloc (.cells #[.string ⟨#[]⟩, .string ⟨#[]⟩, .int .i64 0, .string ⟨#[]⟩, .int .i64 0, .string ⟨#[]⟩, .int .i64 0, .string ⟨#[]⟩, .int .i64 0, .int .i64 0, .int .i64 0, .bool false, .bool false, .bool false] 42)) := H2.out.alloc H2.out.size _
                  have hbx := heap_alloc_new w2 (.cells #[.string ⟨#[]⟩, .string ⟨#[]⟩, .int .i64 0, .string ⟨#[]⟩, .int .i64 0, .string ⟨#[]⟩, .int .i64 0, .string ⟨#[]⟩, .int .i64 0, .int .i64 0, .int .i64 0, .bool false, .bool false, .bool false] 42)
                  obtain ⟨g2, hg⟩ : ∃ g, g = w2.heap.size := ⟨_, rfl⟩
                  have HGW : Hid (wr.heap.size ≤ g2) := Lib.hid (by rw [hg]; exact H2.out.size)
                  obtain ⟨w3, hw3⟩ : ∃ w3, w3 = w2.alloc (.cells #[.string ⟨#[]⟩, .string ⟨#[]⟩, .int .i64 0, .string ⟨#[]⟩, .int .i64 0, .string ⟨#[]⟩, .int .i64 0, .string ⟨#[]⟩, .int .i64 0, .int .i64 0, .int .i64 0, .bool false, .bool false, .bool false] 42) := ⟨_, rfl⟩
                  rw [← hg] at hbx ⊢
                  rw [← hw3] at hal hbx ⊢
                  refine hK.out _ _ (ST21.out _ hal) (fun _ => ?_)
                  clear hK K hb2' hw3 hg
                  (try simp only [Act.put, List.getElem_toArray, List.getElem_cons_succ, List.getElem_cons_zero, List.setIfInBounds_toArray, List.set_cons_zero, List.set_cons_succ])
                  refine wpAnyH_ready (rs := [12]) (by kernel_rfl) (by simp) ?_
                  refine AllReadyH.cons rfl (fun K hK => ?_) AllReadyH.nil
                  rw [if_pos (by kernel_rfl)]
                  refine wp_store_row 42 (.tmp 12) (.tmp 108) rfl g2 y.toArray rfl rfl _ _ hbx HYA.out HYZ.out HYO2.out ?_
                  have hst : Below wr.heap.size wr (w3.setRow g2 y.toArray) := setRow_below hal HGW.out _
                  refine hK.out _ _ (ST21.out _ hst) (fun _ => ?_)
                  clear hK K
                  (try simp only [Act.put, List.getElem_toArray, List.getElem_cons_succ, List.getElem_cons_zero])
                  refine wpAnyH_take (i := 13) (v := .bool true) rfl (by kernel_rfl) (by kernel_rfl) (by kernel_rfl) (fun _ _ _ h => nomatch h.1) (.inl ⟨by kernel_rfl, fun w hw => by clear hw; go_simp⟩) (by assumption) ?_
                  (try simp only [Act.put, List.getElem_toArray, List.getElem_cons_succ, List.getElem_cons_zero, List.setIfInBounds_toArray, List.set_cons_zero, List.set_cons_succ])
                  refine wpAnyH_done (by kernel_rfl) ?_ _
                  exact ⟨rfl, g2, rfl, Lib.hid ⟨hst, HGW.out, setRow_heap _ _ _ _ _ _ hbx⟩⟩
                · go_simp
                  have hal0 : Below wr.heap.size wr (wr.alloc (.cells #[.string ⟨#[]⟩, .string ⟨#[]⟩, .int .i64 0, .string ⟨#[]⟩, .int .i64 0, .string ⟨#[]⟩, .int .i64 0, .string ⟨#[]⟩, .int .i64 0, .int .i64 0, .int .i64 0, .bool false, .bool false, .bool false] 42)).drew := ((Below.refl wr.heap.size wr).alloc (Nat.le_refl _) _).drew
                  have hbx0 : (wr.alloc (.cells #[.string ⟨#[]⟩, .string ⟨#[]⟩, .int .i64 0, .string ⟨#[]⟩, .int .i64 0, .string ⟨#[]⟩, .int .i64 0, .string ⟨#[]⟩, .int .i64 0, .int .i64 0, .int .i64 0, .bool false, .bool false, .bool false] 42)).drew.heap[wr.heap.size]? = some (.cells #[.string ⟨#[]⟩, .string ⟨#[]⟩, .int .i64 0, .string ⟨#[]⟩, .int .i64 0, .string ⟨#[]⟩, .int .i64 0, .string ⟨#[]⟩, .int .i64 0, .int .i64 0, .int .i64 0, .bool false, .bool false, .bool false] 42 (0, 0)) := heap_alloc_new wr (.cells #[.string ⟨#[]⟩, .string ⟨#[]⟩, .int .i64 0, .string ⟨#[]⟩, .int .i64 0, .string ⟨#[]⟩, .int .i64 0, .string ⟨#[]⟩, .int .i64 0, .int .i64 0, .int .i64 0, .bool false, .bool false, .bool false] 42)
                  obtain ⟨g2, hg⟩ : ∃ g, g = wr.heap.size := ⟨_, rfl⟩
                  have HGW : Hid (wr.heap.size ≤ g2) := Lib.hid (by rw [hg]; exact Nat.le_refl _)
                  obtain ⟨w3, hw3⟩ : ∃ w3, w3 = (wr.alloc (.cells #[.string ⟨#[]⟩, .string ⟨#[]⟩, .int .i64 0, .string ⟨#[]⟩, .int .i64 0, .string ⟨#[]⟩, .int .i64 0, .string ⟨#[]⟩, .int .i64 0, .int .i64 0, .int .i64 0, .bool false, .bool false, .bool false] 42)).drew := ⟨_, rfl⟩
                  have HG3' : Hid (g2 < w3.heap.size) := Lib.hid (by rw [hw3, hg]; simp [World.drew])
                  rw [← hw3] at hal0 hbx0 ⊢
                  rw [← hg] at hbx0 ⊢
                  refine hK.out _ _ (ST21.out _ hal0) (fun _ => ?_)
                  clear hK K hw3 hg
                  (try simp only [Act.put, List.getElem_toArray, List.getElem_cons_succ, List.getElem_cons_zero, List.setIfInBounds_toArray, List.set_cons_zero, List.set_cons_succ])
                  refine wpAnyH_ready (rs := [7]) (by kernel_rfl) (by simp) ?_
                  refine AllReadyH.cons rfl (fun K hK => ?_) AllReadyH.nil
                  go_simp
                  refine (HFD.out _ (HIt.out.below hal0)).mono ?_
                  rintro e' w2 ⟨rfl, hb2'⟩
                  have hal : Below wr.heap.size wr w2 := hal0.trans (hb2'.mono hal0.size)
                  have hbx := (hb2'.block g2 HG3'.out).trans hbx0
                  refine hK.out _ _ (ST21.out _ hal) (fun _ => ?_)
                  clear hK K hb2' hbx0 hal0
                  (try simp only [Act.put, List.getElem_toArray, List.getElem_cons_succ, List.getElem_cons_zero, List.setIfInBounds_toArray, List.set_cons_zero, List.set_cons_succ])
                  refine wpAnyH_take (i := 8) (v := .tuple #[.agg y.toArray, .bool true]) rfl (by kernel_rfl) (by kernel_rfl) (by kernel_rfl) (fun _ _ _ h => nomatch h.1) (.inl ⟨by kernel_rfl, fun w hw => by clear hw; go_simp⟩) (by assumption) ?_
                  (try simp only [Act.put, List.getElem_toArray, List.getElem_cons_succ, List.getElem_cons_zero, List.setIfInBounds_toArray, List.set_cons_zero, List.set_cons_succ])
                  refine wpAnyH_take (i := 9) (v := .agg y.toArray) rfl (by kernel_rfl) (by kernel_rfl) (by kernel_rfl) (fun _ _ _ h => nomatch h.1) (.inl ⟨by kernel_rfl, fun w hw => by clear hw; go_simp⟩) (by assumption) ?_
                  (try simp only [Act.put, List.getElem_toArray, List.getElem_cons_succ, List.getElem_cons_zero, List.setIfInBounds_toArray, List.set_cons_zero, List.set_cons_succ])
                  refine wpAnyH_take (i := 10) (v := .bool true) rfl (by kernel_rfl) (by kernel_rfl) (by kernel_rfl) (fun _ _ _ h => nomatch h.1) (.inl ⟨by kernel_rfl, fun w hw => by clear hw; go_simp⟩) (by assumption) ?_
                  (try simp only [Act.put, List.getElem_toArray, List.getElem_cons_succ, List.getElem_cons_zero, List.setIfInBounds_toArray, List.set_cons_zero, List.set_cons_succ])
                  refine wpAnyH_ready (rs := [12]) (by kernel_rfl) (by simp) ?_
                  refine AllReadyH.cons rfl (fun K hK => ?_) AllReadyH.nil
                  rw [if_pos (by kernel_rfl)]
                  refine wp_store_row 42 (.tmp 12) (.tmp 108) rfl g2 y.toArray rfl rfl _ _ hbx HYA.out HYZ.out HYO2.out ?_
                  have hst : Below wr.heap.size wr (w2.setRow g2 y.toArray) := setRow_below hal HGW.out _
                  refine hK.out _ _ (ST21.out _ hst) (fun _ => ?_)
                  clear hK K
                  (try simp only [Act.put, List.getElem_toArray, List.getElem_cons_succ, List.getElem_cons_zero])
                  refine wpAnyH_take (i := 13) (v := .bool true) rfl (by kernel_rfl) (by kernel_rfl) (by kernel_rfl) (fun _ _ _ h => nomatch h.1) (.inl ⟨by kernel_rfl, fun w hw => by clear hw; go_simp⟩) (by assumption) ?_
                  (try simp only [Act.put, List.getElem_toArray, List.getElem_cons_succ, List.getElem_cons_zero, List.setIfInBounds_toArray, List.set_cons_zero, List.set_cons_succ])
                  refine wpAnyH_done (by kernel_rfl) ?_ _
                  exact ⟨rfl, g2, rfl, Lib.hid ⟨hst, HGW.out, setRow_heap _ _ _ _ _ _ hbx⟩⟩
              · intro g2 W6 hR
                have HB6 := Lib.hid hR.out.1
                have HG6 := Lib.hid hR.out.2.2
                have HI6 := Lib.hid (HIt.out.below HB6.out)
                clear hR ct
                have xs0 : ∀ X : BW W6, X.W.cell? ⟨w.heap.size, 0, none⟩ = some (.slice (some ⟨b2, off2, none⟩) m2 c2) := fun X => (cell_of_block (HI6.out.below X.h).box).trans rfl
                have RX : Hid (∀ X : BW W6, X.W.rangeAt g2 0 y) := Lib.hid (fun X => range_row ((X.h.block _ (lt_of_block HG6.out)).trans HG6.out))
                have RY : Hid (∀ X : BW W6, X.W.rangeAt b2 (off2 + t * 14) y) := Lib.hid (fun X => HLY.out _ (HB6.out.trans (X.h.mono HB6.out.size)))
                have xg0 : ∀ X : BW W6, X.W.cell? ⟨g2, 0, none⟩ = some (.string cy) := fun X => HYG.out _ _ ((X.h.block _ (lt_of_block HG6.out)).trans HG6.out)
                have xl : ∀ X : BW W6, (Instr.lookup 54 (.map (some (w.heap.size + 1))) (.string cy) false).run Try.prog X.W = .ok (.agg y.toArray) X.W := fun X => HLK2.out _ (HI6.out.below X.h)
                have hneq := HNEQ.out
                by_cases ht0 : (0 : Int) < (t : Int)
                · have hu : t - 1 < L2.length := by omega
                  have xu : ∀ X : BW W6, X.W.cell? ⟨b2, off2 + (t - 1) * 14, none⟩ = some (.string (codeOf L2[t - 1])) := fun X => HC0.out (t - 1) hu _ (HB6.out.trans (X.h.mono HB6.out.size))
                  have gl := HUP2.out (t - 1) hu (by omega)
                  generalize codeOf L2[t - 1] = cu at xu gl
                  have g1 : Op.bytesLess cu.toList cy.toList = true := gl
                  have i3 : (0 : Int) ≤ (t : Int) - 1 := by omega
                  have i4 : (t : Int) - 1 < (m2 : Int) := by omega
                  have i5 : ((t : Int) - 1).toNat = t - 1 := by omega
                  have hdt : decide ((0 : Int) < (t : Int)) = true := by simpa using ht0
                  have hdn : decide (0 < t) = true := by simp; omega
                  clear gl hu
                  go_wp2_with fail
                  refine wp_grow W6 (by kernel_rfl) (by kernel_rfl) (Below.refl _ _) ?_
                  simp only []
                  iterate 3 go_big_quiet_step (fail)
                  refine BigFrame.wpQuiet_want (by kernel_rfl) (fun K hK => quiet_load_mid 42 (.tmp 12) rfl g2 (0) rfl y _ (fun W ⟨X, hX⟩ => by rw [hX]; exact (RX.out X)) hui rfl HYL.out (hK _ ?_))
                  simp only [Act.put, List.setIfInBounds_toArray, List.set_cons_zero, List.set_cons_succ]
                  iterate 4 go_big_quiet_step (fail)
                  refine BigFrame.wpQuiet_want (by kernel_rfl) (fun K hK => quiet_load_mid 42 (.tmp 117) rfl b2 (off2 + t * 14) rfl y _ (fun W ⟨X, hX⟩ => by rw [hX]; exact (RY.out X)) hui rfl HYL.out (hK _ ?_))
                  simp only [Act.put, List.setIfInBounds_toArray, List.set_cons_zero, List.set_cons_succ]
                  iterate 7 go_big_quiet_step (fail)
                  refine BigFrame.wpQuiet_want (by kernel_rfl) (fun K hK => quiet_load_mid 42 (.tmp 12) rfl g2 (0) rfl y _ (fun W ⟨X, hX⟩ => by rw [hX]; exact (RX.out X)) hui rfl HYL.out (hK _ ?_))
                  simp only [Act.put, List.setIfInBounds_toArray, List.set_cons_zero, List.set_cons_succ]
                  repeat go_big_quiet_step (fail)
                  refine wpQuiet_nil ?_
                  intro X
                  have HI7 := Lib.hid (HI6.out.below X.h)
                  go_wp2_with fail
                  go_roundw
                  case rel => exact ⟨t + 1, by omega, by go_num, HI7⟩
                  case measure => simp [intOf]; omega
                · have hdt : decide ((0 : Int) < (t : Int)) = false := by simpa using ht0
                  have hdn : decide (0 < t) = false := by simp; omega
                  go_wp2_with fail
                  refine wp_grow W6 (by kernel_rfl) (by kernel_rfl) (Below.refl _ _) ?_
                  simp only []
                  iterate 3 go_big_quiet_step (fail)
                  refine BigFrame.wpQuiet_want (by kernel_rfl) (fun K hK => quiet_load_mid 42 (.tmp 12) rfl g2 (0) rfl y _ (fun W ⟨X, hX⟩ => by rw [hX]; exact (RX.out X)) hui rfl HYL.out (hK _ ?_))
                  simp only [Act.put, List.setIfInBounds_toArray, List.set_cons_zero, List.set_cons_succ]
                  iterate 4 go_big_quiet_step (fail)
                  refine BigFrame.wpQuiet_want (by kernel_rfl) (fun K hK => quiet_load_mid 42 (.tmp 117) rfl b2 (off2 + t * 14) rfl y _ (fun W ⟨X, hX⟩ => by rw [hX]; exact (RY.out X)) hui rfl HYL.out (hK _ ?_))
                  simp only [Act.put, List.setIfInBounds_toArray, List.set_cons_zero, List.set_cons_succ]
                  iterate 7 go_big_quiet_step (fail)
                  refine BigFrame.wpQuiet_want (by kernel_rfl) (fun K hK => quiet_load_mid 42 (.tmp 12) rfl g2 (0) rfl y _ (fun W ⟨X, hX⟩ => by rw [hX]; exact (RX.out X)) hui rfl HYL.out (hK _ ?_))
                  simp only [Act.put, List.setIfInBounds_toArray, List.set_cons_zero, List.set_cons_succ]
                  repeat go_big_quiet_step (fail)
                  refine wpQuiet_nil ?_
                  intro X
                  have HI7 := Lib.hid (HI6.out.below X.h)
                  go_wp2_with fail
                  go_roundw
                  case rel => exact ⟨t + 1, by omega, by go_num, HI7⟩
                  case measure => simp [intOf]; omega
            · go_wp2_with fail
              go_roundw
              case rel => exact ⟨k + 1, _, L2, f2, by omega, by omega, by go_num, HIt⟩
              case measure => simp [intOf]; omega
        · have hj0 : ((j : Int) == 0) = false := by simpa using hj
          clear hj
          go_wp2_with (first
            | (refine wpList_store_row rfl 42 (.tmp 9) (.tmp 44) rfl W1.heap.size ys.toArray rfl rfl _ _ HQ1.out HYS.out HYO.out HYC.out ?_; rw [← HW2.out])
            | (refine wpList_load_mid rfl 42 (.tmp 74) rfl b (off + k * 14) rfl e _ HLE2.out hui rfl HEL.out ?_)
            | fail)
          refine (HCK.out _).mono ?_
          rintro e' W5 ⟨rfl, hb3⟩
          obtain ⟨⟨A2, m2, c2⟩, L2, f2, HI5⟩ : ∃ q2 L2 f2, Hid (FInv w (k + 1) q2 L2 f2 W5) := ⟨q, _, _, Lib.hid (HI2.out.below hb3).later⟩
          clear hb3 hlk c1
          have hmap5 := HI5.out.map.len Try.underlying54 3
          have c5 : W5.cell? ⟨w.heap.size, 0, none⟩ = some (.slice A2 m2 c2) := (cell_of_block HI5.out.box).trans rfl
          obtain ⟨w0, rfl⟩ : ∃ w0, w0 = wr := ⟨_, rfl⟩
          go_wp2_with fail
          clear hmap5 c5
          go_loopw [11] (fun i wr => ∃ t : Nat, t ≤ m2 ∧ i = .int .i64 (t : Int) ∧ Hid (FInv w (k + 1) (A2, m2, c2) L2 f2 wr)) (fun i _ => m2 - (intOf i).toNat)
          case atStart => exact ⟨0, by omega, rfl, HI5⟩
          case round =>
            obtain ⟨t, ht, rfl, HIt⟩ := hrel
            have ct : wr.cell? ⟨w.heap.size, 0, none⟩ = some (.slice A2 m2 c2) := (cell_of_block HIt.out.box).trans rfl
            have hm64 : m2 ≤ 64 := HIt.out.n64
            by_cases htm : t < m2
            · have htl : t < L2.length := by rw [← HIt.out.n]; exact htm
              obtain ⟨b2, off2, hA2, hb2, hc2⟩ := HIt.out.rd.thing HIt.out.t (by decide) htl
              obtain rfl : A2 = some ⟨b2, off2, none⟩ := hA2
              have r1 := hc2 t htl
              rw [show kItem.length = 14 from rfl] at r1
              obtain ⟨y, hy⟩ : ∃ y, L2[t] = y := ⟨_, rfl⟩
              have hgot := gotI_at HIt.out.up htl
              have hati := atI_at HIt.out.up htl
              have fy := HIt.out.t _ (List.getElem_mem htl)
              have zy := HIt.out.z _ (List.getElem_mem htl)
              have ay := HIt.out.ag.at_ _ (List.getElem_mem htl)
              have hup : ∀ u (hu : u < L2.length), u < t → Pl.lt (codeOf L2[u]) (codeOf L2[t]) = true := fun u hu hut => HIt.out.up.at hu htl hut
              rw [hy] at r1 hgot hati fy zy ay hup
              obtain ⟨cy, hcy⟩ : ∃ cy, codeOf y = cy := ⟨_, rfl⟩
              rw [hcy] at hgot hati zy ay hup
              have HYL : Hid ((Try.prog.info? 42).map (·.size) = some y.length) := Lib.hid (HSZ.out y fy)
              have HYA : Hid ((Try.prog.info? 42).map (·.size) = some y.toArray.size) := Lib.hid (by rw [List.size_toArray]; exact HSZ.out y fy)
              have HYZ : Hid ((#[.string ⟨#[]⟩, .string ⟨#[]⟩, .int .i64 0, .string ⟨#[]⟩, .int .i64 0, .string ⟨#[]⟩, .int .i64 0, .string ⟨#[]⟩, .int .i64 0, .int .i64 0, .int .i64 0, .bool false, .bool false, .bool false] : Array Value).size = y.toArray.size) := Lib.hid (by rw [List.size_toArray, List.size_toArray, fy.length]; rfl)
              have HYO2 : Hid (y.toArray.all (·.oneCell') = true) := Lib.hid (all_oneCell_toArray (fits_one fy))
              have HLY : Hid (∀ W, Below wr.heap.size wr W → W.rangeAt b2 (off2 + t * 14) y) := Lib.hid (fun W hW => rangeAt_below r1 hb2 hW)
              have HC0 : Hid (∀ u (hu : u < L2.length) W, Below wr.heap.size wr W → W.cell? ⟨b2, off2 + u * 14, none⟩ = some (.string (codeOf L2[u]))) := Lib.hid (fun u hu W hW => by
                obtain ⟨r, hr⟩ := item_code (HIt.out.t _ (List.getElem_mem hu))
                have := rangeAt_below (hc2 u hu) hb2 hW 0 (.string (codeOf L2[u])) (by rw [hr]; rfl)
                rw [show kItem.length = 14 from rfl] at this
                simpa using this)
              have HUP2 := Lib.hid hup
              have HCY : Hid (∀ W, Below wr.heap.size wr W → W.cell? ⟨b2, off2 + t * 14, none⟩ = some (.string cy)) := Lib.hid (fun W hW => by rw [← hcy, ← hy]; exact HC0.out t htl W hW)
              have HYG : Hid (∀ (W : World) (gg : Nat), W.heap[gg]? = some (.cells y.toArray 42 (0, 0)) → W.cell? ⟨gg, 0, none⟩ = some (.string cy)) := Lib.hid (fun W gg h => by
                obtain ⟨r, hr⟩ := item_code fy
                rw [cell_of_block h, List.getElem?_toArray, hr, hcy]; rfl)
              have HFD : Hid (∀ W, FInv w (k + 1) (some ⟨b2, off2, none⟩, m2, c2) L2 f2 W → Calls Try.prog 13 #[.agg (hsI (some ⟨b2, off2, none⟩, m2, c2)).cells, .string cy] W fun e W' => e = .returned (.tuple #[.agg y.toArray, .bool true]) ∧ Below W.heap.size W W') := Lib.hid (fun W hW => by
                have := finds_any (hsI (some ⟨b2, off2, none⟩, m2, c2)) L2 cy W (by simpa [Hs.set] using hW.n) (by have := hW.n64; simp [Hs.set]; simp at this; omega) hW.t (by simpa [Hs.set] using hW.rd)
                rw [hgot, hati] at this
                exact this)
              have HLK2 : Hid (∀ W, FInv w (k + 1) (some ⟨b2, off2, none⟩, m2, c2) L2 f2 W → (Instr.lookup 54 (.map (some (w.heap.size + 1))) (.string cy) false).run Try.prog W = .ok (.agg y.toArray) W) := Lib.hid (fun W hW => by
                have := hW.map.look Try.underlying54 (z := .agg zeroI.toArray) (by kernel_rfl) zy
                rw [ay] at this
                exact this)
              have HNEQ : Hid (∀ W, (binOp .neq 42 (.agg y.toArray) (.agg y.toArray)).run Try.prog W = .ok (.bool false) W) := Lib.hid (fun W => by
                obtain ⟨b0, h1, h2⟩ := neq_struct (P := Try.prog) eqItem (by decide) y y W fy fy
                rw [h2.2 rfl] at h1
                exact h1)
              have ST21 : Hid (∀ W, Below wr.heap.size wr W → W.rangeAt w.heap.size 0 (hsI (some ⟨b2, off2, none⟩, m2, c2)).cells.toList ∧ W.rangeAt b2 (off2 + t * 14) y ∧ W.cell? ⟨w.heap.size, 0, none⟩ = some (.slice (some ⟨b2, off2, none⟩) m2 c2) ∧ W.cell? ⟨b2, off2 + t * 14, none⟩ = some (.string cy)) := Lib.hid (fun W hW => ⟨range_row0 (HIt.out.below hW).box, HLY.out W hW, (cell_of_block (HIt.out.below hW).box).trans rfl, HCY.out W hW⟩)
              have i1 : (0 : Int) ≤ (t : Int) := by omega
              have i2 : (t : Int) < (m2 : Int) := by omega
              clear hc2 r1 hgot hati fy zy ay hup hy hcy hb2
              go_wp2_with fail
              apply region_to1 (R := fun g2 W => Hid (Below wr.heap.size wr W ∧ wr.heap.size ≤ g2 ∧ W.heap[g2]? = some (.cells y.toArray 42 (0, 0))))
              · refine wp_region_held_drew (S := (fun w' => w'.rangeAt w.heap.size 0 (hsI (some ⟨b2, off2, none⟩, m2, c2)).cells.toList ∧ w'.rangeAt b2 (off2 + t * 14) y ∧ w'.cell? ⟨w.heap.size, 0, none⟩ = some (.slice (some ⟨b2, off2, none⟩) m2 c2) ∧ w'.cell? ⟨b2, off2 + t * 14, none⟩ = some (.string cy))) (by kernel_rfl) (ST21.out _ (Below.refl wr.heap.size wr).drew) (fun dd0 => ?_)
                refine wpAnyH_take (i := 0) (v := .agg (hsI (some ⟨b2, off2, none⟩, m2, c2)).cells) rfl (by kernel_rfl) (by kernel_rfl) (by kernel_rfl) (fun _ _ _ h => nomatch h.1) (yieldsIf_load_mid (by kernel_rfl) 37 (.tmp 3) rfl w.heap.size 0 rfl (hsI (some ⟨b2, off2, none⟩, m2, c2)).cells.toList _ (fun w h => h.1) huh rfl (HSHL.out _)) (by assumption) ?_
                (try simp only [Act.put, List.getElem_toArray, List.getElem_cons_zero, List.setIfInBounds_toArray, List.set_cons_zero, List.set_cons_succ])
                refine wpAnyH_take (i := 1) (v := .pointer (some ⟨w.heap.size, 0, none⟩)) rfl (by kernel_rfl) (by kernel_rfl) (by kernel_rfl) (fun _ _ _ h => nomatch h.1) (.inl ⟨by kernel_rfl, fun w hw => by clear hw; go_simp⟩) (by assumption) ?_
                (try simp only [Act.put, List.getElem_toArray, List.getElem_cons_succ, List.getElem_cons_zero, List.setIfInBounds_toArray, List.set_cons_zero, List.set_cons_succ])
                refine wpAnyH_take (i := 2) (v := .slice (some ⟨b2, off2, none⟩) m2 c2) rfl (by kernel_rfl) (by kernel_rfl) (by kernel_rfl) (fun _ _ _ h => nomatch h.1) (.inl ⟨by kernel_rfl, fun w hw => by have hw := hw.2.2.1; go_simp⟩) (by assumption) ?_
                (try simp only [Act.put, List.getElem_toArray, List.getElem_cons_succ, List.getElem_cons_zero, List.setIfInBounds_toArray, List.set_cons_zero, List.set_cons_succ])
                refine wpAnyH_take (i := 3) (v := .int .i64 (t : Int)) rfl (by kernel_rfl) (by kernel_rfl) (by kernel_rfl) (fun _ _ _ h => nomatch h.1) (.inl ⟨by kernel_rfl, fun w hw => by clear hw; go_simp⟩) (by assumption) ?_
                (try simp only [Act.put, List.getElem_toArray, List.getElem_cons_succ, List.getElem_cons_zero, List.setIfInBounds_toArray, List.set_cons_zero, List.set_cons_succ])
                refine wpAnyH_take (i := 4) (v := .pointer (some ⟨b2, off2 + t * 14, none⟩)) rfl (by kernel_rfl) (by kernel_rfl) (by kernel_rfl) (fun _ _ _ h => nomatch h.1) (.inl ⟨by kernel_rfl, fun w hw => by clear hw; go_simp⟩) (by assumption) ?_
                (try simp only [Act.put, List.getElem_toArray, List.getElem_cons_succ, List.getElem_cons_zero, List.setIfInBounds_toArray, List.set_cons_zero, List.set_cons_succ])
                refine wpAnyH_take (i := 5) (v := .pointer (some ⟨b2, off2 + t * 14, none⟩)) rfl (by kernel_rfl) (by kernel_rfl) (by kernel_rfl) (fun _ _ _ h => nomatch h.1) (.inl ⟨by kernel_rfl, fun w hw => by clear hw; go_simp⟩) (by assumption) ?_
                (try simp only [Act.put, List.getElem_toArray, List.getElem_cons_succ, List.getElem_cons_zero, List.setIfInBounds_toArray, List.set_cons_zero, List.set_cons_succ])
                refine wpAnyH_take (i := 6) (v := .string cy) rfl (by kernel_rfl) (by kernel_rfl) (by kernel_rfl) (fun _ _ _ h => nomatch h.1) (.inl ⟨by kernel_rfl, fun w hw => by have hw := hw.2.2.2; go_simp⟩) (by assumption) ?_
                (try simp only [Act.put, List.getElem_toArray, List.getElem_cons_succ, List.getElem_cons_zero, List.setIfInBounds_toArray, List.set_cons_zero, List.set_cons_succ])
                refine wpAnyH_ready (rs := [7, 11]) (by kernel_rfl) (by simp) ?_
                refine AllReadyH.cons rfl (fun K hK => ?_) (AllReadyH.cons rfl (fun K hK => ?_) AllReadyH.nil)
                · go_simp
                  refine (HFD.out _ (HIt.out.below (Below.refl wr.heap.size wr).drew)).mono ?_
                  rintro e' w2 ⟨rfl, hb2'⟩
                  have H2 : Hid (Below wr.heap.size wr w2) := Lib.hid ((Below.refl wr.heap.size wr).drew.trans hb2')
                  refine hK.out _ _ (ST21.out _ H2.out) (fun _ => ?_)
                  clear hK K
                  (try simp only [Act.put, List.getElem_toArray, List.getElem_cons_succ, List.getElem_cons_zero, List.setIfInBounds_toArray, List.set_cons_zero, List.set_cons_succ])
                  refine wpAnyH_take (i := 8) (v := .tuple #[.agg y.toArray, .bool true]) rfl (by kernel_rfl) (by kernel_rfl) (by kernel_rfl) (fun _ _ _ h => nomatch h.1) (.inl ⟨by kernel_rfl, fun w hw => by clear hw; go_simp⟩) (by assumption) ?_
                  (try simp only [Act.put, List.getElem_toArray, List.getElem_cons_succ, List.getElem_cons_zero, List.setIfInBounds_toArray, List.set_cons_zero, List.set_cons_succ])
                  refine wpAnyH_take (i := 9) (v := .agg y.toArray) rfl (by kernel_rfl) (by kernel_rfl) (by kernel_rfl) (fun _ _ _ h => nomatch h.1) (.inl ⟨by kernel_rfl, fun w hw => by clear hw; go_simp⟩) (by assumption) ?_
                  (try simp only [Act.put, List.getElem_toArray, List.getElem_cons_succ, List.getElem_cons_zero, List.setIfInBounds_toArray, List.set_cons_zero, List.set_cons_succ])
                  refine wpAnyH_take (i := 10) (v := .bool true) rfl (by kernel_rfl) (by kernel_rfl) (by kernel_rfl) (fun _ _ _ h => nomatch h.1) (.inl ⟨by kernel_rfl, fun w hw => by clear hw; go_simp⟩) (by assumption) ?_
                  (try simp only [Act.put, List.getElem_toArray, List.getElem_cons_succ, List.getElem_cons_zero, List.setIfInBounds_toArray, List.set_cons_zero, List.set_cons_succ])
                  refine wpAnyH_ready (rs := [11]) (by kernel_rfl) (by simp) ?_
                  refine AllReadyH.cons rfl (fun K hK => ?_) AllReadyH.nil
                  go_simp
                  have hal : Below wr.heap.size wr (w2.alloc (.cells #[.string ⟨#[]⟩, .string ⟨#[]⟩, .int .i64 0, .string ⟨#[]⟩, .int .i64 0, .string ⟨#[]⟩, .int .i64 0, .string ⟨#[]⟩, .int .i64 0, .int .i64 0, .int .i64 0, .bool false, .bool false, .bool false] 42)) := H2.out.alloc H2.out.size _
                  have hbx := heap_alloc_new w2 (.cells #[.string ⟨#[]⟩, .string ⟨#[]⟩, .int .i64 0, .string ⟨#[]⟩, .int .i64 0, .string ⟨#[]⟩, .int .i64 0, .string ⟨#[]⟩, .int .i64 0, .int .i64 0, .int .i64 0, .bool false, .bool false, .bool false] 42)
                  obtain ⟨g2, hg⟩ : ∃ g, g = w2.heap.size := ⟨_, rfl⟩
                  have HGW : Hid (wr.heap.size ≤ g2) := Lib.hid (by rw [hg]; exact H2.out.size)
                  obtain ⟨w3, hw3⟩ : ∃ w3, w3 = w2.alloc (.cells #[.string ⟨#[]⟩, .string ⟨#[]⟩, .int .i64 0, .string ⟨#[]⟩, .int .i64 0, .string ⟨#[]⟩, .int .i64 0, .string ⟨#[]⟩, .int .i64 0, .int .i64 0, .int .i64 0, .bool false, .bool false, .bool false] 42) := ⟨_, rfl⟩
                  rw [← hg] at hbx ⊢
                  rw [← hw3] at hal hbx ⊢
                  refine hK.out _ _ (ST21.out _ hal) (fun _ => ?_)
                  clear hK K hb2' hw3 hg
                  (try simp only [Act.put, List.getElem_toArray, List.getElem_cons_succ, List.getElem_cons_zero, List.setIfInBounds_toArray, List.set_cons_zero, List.set_cons_succ])
                  refine wpAnyH_ready (rs := [12]) (by kernel_rfl) (by simp) ?_
                  refine AllReadyH.cons rfl (fun K hK => ?_) AllReadyH.nil
                  rw [if_pos (by kernel_rfl)]
                  refine wp_store_row 42 (.tmp 12) (.tmp 108) rfl g2 y.toArray rfl rfl _ _ hbx HYA.out HYZ.out HYO2.out ?_
                  have hst : Below wr.heap.size wr (w3.setRow g2 y.toArray) := setRow_below hal HGW.out _
                  refine hK.out _ _ (ST21.out _ hst) (fun _ => ?_)
                  clear hK K
                  (try simp only [Act.put, List.getElem_toArray, List.getElem_cons_succ, List.getElem_cons_zero])
                  refine wpAnyH_take (i := 13) (v := .bool true) rfl (by kernel_rfl) (by kernel_rfl) (by kernel_rfl) (fun _ _ _ h => nomatch h.1) (.inl ⟨by kernel_rfl, fun w hw => by clear hw; go_simp⟩) (by assumption) ?_
                  (try simp only [Act.put, List.getElem_toArray, List.getElem_cons_succ, List.getElem_cons_zero, List.setIfInBounds_toArray, List.set_cons_zero, List.set_cons_succ])
                  refine wpAnyH_done (by kernel_rfl) ?_ _
                  exact ⟨rfl, g2, rfl, Lib.hid ⟨hst, HGW.out, setRow_heap _ _ _ _ _ _ hbx⟩⟩
                · go_simp
                  have hal0 : Below wr.heap.size wr (wr.alloc (.cells #[.string ⟨#[]⟩, .string ⟨#[]⟩, .int .i64 0, .string ⟨#[]⟩, .int .i64 0, .string ⟨#[]⟩, .int .i64 0, .string ⟨#[]⟩, .int .i64 0, .int .i64 0, .int .i64 0, .bool false, .bool false, .bool false] 42)).drew := ((Below.refl wr.heap.size wr).alloc (Nat.le_refl _) _).drew
                  have hbx0 : (wr.alloc (.cells #[.string ⟨#[]⟩, .string ⟨#[]⟩, .int .i64 0, .string ⟨#[]⟩, .int .i64 0, .string ⟨#[]⟩, .int .i64 0, .string ⟨#[]⟩, .int .i64 0, .int .i64 0, .int .i64 0, .bool false, .bool false, .bool false] 42)).drew.heap[wr.heap.size]? = some (.cells #[.string ⟨#[]⟩, .string ⟨#[]⟩, .int .i64 0, .string ⟨#[]⟩, .int .i64 0, .string ⟨#[]⟩, .int .i64 0, .string ⟨#[]⟩, .int .i64 0, .int .i64 0, .int .i64 0, .bool false, .bool false, .bool false] 42 (0, 0)) := heap_alloc_new wr (.cells #[.string ⟨#[]⟩, .string ⟨#[]⟩, .int .i64 0, .string ⟨#[]⟩, .int .i64 0, .string ⟨#[]⟩, .int .i64 0, .string ⟨#[]⟩, .int .i64 0, .int .i64 0, .int .i64 0, .bool false, .bool false, .bool false] 42)
                  obtain ⟨g2, hg⟩ : ∃ g, g = wr.heap.size := ⟨_, rfl⟩
                  have HGW : Hid (wr.heap.size ≤ g2) := Lib.hid (by rw [hg]; exact Nat.le_refl _)
                  obtain ⟨w3, hw3⟩ : ∃ w3, w3 = (wr.alloc (.cells #[.string ⟨#[]⟩, .string ⟨#[]⟩, .int .i64 0, .string ⟨#[]⟩, .int .i64 0, .string ⟨#[]⟩, .int .i64 0, .string ⟨#[]⟩, .int .i64 0, .int .i64 0, .int .i64 0, .bool false, .bool false, .bool false] 42)).drew := ⟨_, rfl⟩
                  have HG3' : Hid (g2 < w3.heap.size) := Lib.hid (by rw [hw3, hg]; simp [World.drew])
                  rw [← hw3] at hal0 hbx0 ⊢
                  rw [← hg] at hbx0 ⊢
                  refine hK.out _ _ (ST21.out _ hal0) (fun _ => ?_)
                  clear hK K hw3 hg
                  (try simp only [Act.put, List.getElem_toArray, List.getElem_cons_succ, List.getElem_cons_zero, List.setIfInBounds_toArray, List.set_cons_zero, List.set_cons_succ])
                  refine wpAnyH_ready (rs := [7]) (by kernel_rfl) (by simp) ?_
                  refine AllReadyH.cons rfl (fun K hK => ?_) AllReadyH.nil
                  go_simp
                  refine (HFD.out _ (HIt.out.below hal0)).mono ?_
                  rintro e' w2 ⟨rfl, hb2'⟩
                  have hal : Below wr.heap.size wr w2 := hal0.trans (hb2'.mono hal0.size)
                  have hbx := (hb2'.block g2 HG3'.out).trans hbx0
                  refine hK.out _ _ (ST21.out _ hal) (fun _ => ?_)
                  clear hK K hb2' hbx0 hal0
                  (try simp only [Act.put, List.getElem_toArray, List.getElem_cons_succ, List.getElem_cons_zero, List.setIfInBounds_toArray, List.set_cons_zero, List.set_cons_succ])
                  refine wpAnyH_take (i := 8) (v := .tuple #[.agg y.toArray, .bool true]) rfl (by kernel_rfl) (by kernel_rfl) (by kernel_rfl) (fun _ _ _ h => nomatch h.1) (.inl ⟨by kernel_rfl, fun w hw => by clear hw; go_simp⟩) (by assumption) ?_
                  (try simp only [Act.put, List.getElem_toArray, List.getElem_cons_succ, List.getElem_cons_zero, List.setIfInBounds_toArray, List.set_cons_zero, List.set_cons_succ])
                  refine wpAnyH_take (i := 9) (v := .agg y.toArray) rfl (by kernel_rfl) (by kernel_rfl) (by kernel_rfl) (fun _ _ _ h => nomatch h.1) (.inl ⟨by kernel_rfl, fun w hw => by clear hw; go_simp⟩) (by assumption) ?_
                  (try simp only [Act.put, List.getElem_toArray, List.getElem_cons_succ, List.getElem_cons_zero, List.setIfInBounds_toArray, List.set_cons_zero, List.set_cons_succ])
                  refine wpAnyH_take (i := 10) (v := .bool true) rfl (by kernel_rfl) (by kernel_rfl) (by kernel_rfl) (fun _ _ _ h => nomatch h.1) (.inl ⟨by kernel_rfl, fun w hw => by clear hw; go_simp⟩) (by assumption) ?_
                  (try simp only [Act.put, List.getElem_toArray, List.getElem_cons_succ, List.getElem_cons_zero, List.setIfInBounds_toArray, List.set_cons_zero, List.set_cons_succ])
                  refine wpAnyH_ready (rs := [12]) (by kernel_rfl) (by simp) ?_
                  refine AllReadyH.cons rfl (fun K hK => ?_) AllReadyH.nil
                  rw [if_pos (by kernel_rfl)]
                  refine wp_store_row 42 (.tmp 12) (.tmp 108) rfl g2 y.toArray rfl rfl _ _ hbx HYA.out HYZ.out HYO2.out ?_
                  have hst : Below wr.heap.size wr (w2.setRow g2 y.toArray) := setRow_below hal HGW.out _
                  refine hK.out _ _ (ST21.out _ hst) (fun _ => ?_)
                  clear hK K
                  (try simp only [Act.put, List.getElem_toArray, List.getElem_cons_succ, List.getElem_cons_zero])
                  refine wpAnyH_take (i := 13) (v := .bool true) rfl (by kernel_rfl) (by kernel_rfl) (by kernel_rfl) (fun _ _ _ h => nomatch h.1) (.inl ⟨by kernel_rfl, fun w hw => by clear hw; go_simp⟩) (by assumption) ?_
                  (try simp only [Act.put, List.getElem_toArray, List.getElem_cons_succ, List.getElem_cons_zero, List.setIfInBounds_toArray, List.set_cons_zero, List.set_cons_succ])
                  refine wpAnyH_done (by kernel_rfl) ?_ _
                  exact ⟨rfl, g2, rfl, Lib.hid ⟨hst, HGW.out, setRow_heap _ _ _ _ _ _ hbx⟩⟩
              · intro g2 W6 hR
                have HB6 := Lib.hid hR.out.1
                have HG6 := Lib.hid hR.out.2.2
                have HI6 := Lib.hid (HIt.out.below HB6.out)
                clear hR ct
                have xs0 : ∀ X : BW W6, X.W.cell? ⟨w.heap.size, 0, none⟩ = some (.slice (some ⟨b2, off2, none⟩) m2 c2) := fun X => (cell_of_block (HI6.out.below X.h).box).trans rfl
                have RX : Hid (∀ X : BW W6, X.W.rangeAt g2 0 y) := Lib.hid (fun X => range_row ((X.h.block _ (lt_of_block HG6.out)).trans HG6.out))
                have RY : Hid (∀ X : BW W6, X.W.rangeAt b2 (off2 + t * 14) y) := Lib.hid (fun X => HLY.out _ (HB6.out.trans (X.h.mono HB6.out.size)))
                have xg0 : ∀ X : BW W6, X.W.cell? ⟨g2, 0, none⟩ = some (.string cy) := fun X => HYG.out _ _ ((X.h.block _ (lt_of_block HG6.out)).trans HG6.out)
                have xl : ∀ X : BW W6, (Instr.lookup 54 (.map (some (w.heap.size + 1))) (.string cy) false).run Try.prog X.W = .ok (.agg y.toArray) X.W := fun X => HLK2.out _ (HI6.out.below X.h)
                have hneq := HNEQ.out
                by_cases ht0 : (0 : Int) < (t : Int)
                · have hu : t - 1 < L2.length := by omega
                  have xu : ∀ X : BW W6, X.W.cell? ⟨b2, off2 + (t - 1) * 14, none⟩ = some (.string (codeOf L2[t - 1])) := fun X => HC0.out (t - 1) hu _ (HB6.out.trans (X.h.mono HB6.out.size))
                  have gl := HUP2.out (t - 1) hu (by omega)
                  generalize codeOf L2[t - 1] = cu at xu gl
                  have g1 : Op.bytesLess cu.toList cy.toList = true := gl
                  have i3 : (0 : Int) ≤ (t : Int) - 1 := by omega
                  have i4 : (t : Int) - 1 < (m2 : Int) := by omega
                  have i5 : ((t : Int) - 1).toNat = t - 1 := by omega
                  have hdt : decide ((0 : Int) < (t : Int)) = true := by simpa using ht0
                  have hdn : decide (0 < t) = true := by simp; omega
                  clear gl hu
                  go_wp2_with fail
                  refine wp_grow W6 (by kernel_rfl) (by kernel_rfl) (Below.refl _ _) ?_
                  simp only []
                  iterate 3 go_big_quiet_step (fail)
                  refine BigFrame.wpQuiet_want (by kernel_rfl) (fun K hK => quiet_load_mid 42 (.tmp 12) rfl g2 (0) rfl y _ (fun W ⟨X, hX⟩ => by rw [hX]; exact (RX.out X)) hui rfl HYL.out (hK _ ?_))
                  simp only [Act.put, List.setIfInBounds_toArray, List.set_cons_zero, List.set_cons_succ]
                  iterate 4 go_big_quiet_step (fail)
                  refine BigFrame.wpQuiet_want (by kernel_rfl) (fun K hK => quiet_load_mid 42 (.tmp 117) rfl b2 (off2 + t * 14) rfl y _ (fun W ⟨X, hX⟩ => by rw [hX]; exact (RY.out X)) hui rfl HYL.out (hK _ ?_))
                  simp only [Act.put, List.setIfInBounds_toArray, List.set_cons_zero, List.set_cons_succ]
                  iterate 7 go_big_quiet_step (fail)
                  refine BigFrame.wpQuiet_want (by kernel_rfl) (fun K hK => quiet_load_mid 42 (.tmp 12) rfl g2 (0) rfl y _ (fun W ⟨X, hX⟩ => by rw [hX]; exact (RX.out X)) hui rfl HYL.out (hK _ ?_))
                  simp only [Act.put, List.setIfInBounds_toArray, List.set_cons_zero, List.set_cons_succ]
                  repeat go_big_quiet_step (fail)
                  refine wpQuiet_nil ?_
                  intro X
                  have HI7 := Lib.hid (HI6.out.below X.h)
                  go_wp2_with fail
                  go_roundw
                  case rel => exact ⟨t + 1, by omega, by go_num, HI7⟩
                  case measure => simp [intOf]; omega
                · have hdt : decide ((0 : Int) < (t : Int)) = false := by simpa using ht0
                  have hdn : decide (0 < t) = false := by simp; omega
                  go_wp2_with fail
                  refine wp_grow W6 (by kernel_rfl) (by kernel_rfl) (Below.refl _ _) ?_
                  simp only []
                  iterate 3 go_big_quiet_step (fail)
                  refine BigFrame.wpQuiet_want (by kernel_rfl) (fun K hK => quiet_load_mid 42 (.tmp 12) rfl g2 (0) rfl y _ (fun W ⟨X, hX⟩ => by rw [hX]; exact (RX.out X)) hui rfl HYL.out (hK _ ?_))
                  simp only [Act.put, List.setIfInBounds_toArray, List.set_cons_zero, List.set_cons_succ]
                  iterate 4 go_big_quiet_step (fail)
                  refine BigFrame.wpQuiet_want (by kernel_rfl) (fun K hK => quiet_load_mid 42 (.tmp 117) rfl b2 (off2 + t * 14) rfl y _ (fun W ⟨X, hX⟩ => by rw [hX]; exact (RY.out X)) hui rfl HYL.out (hK _ ?_))
                  simp only [Act.put, List.setIfInBounds_toArray, List.set_cons_zero, List.set_cons_succ]
                  iterate 7 go_big_quiet_step (fail)
                  refine BigFrame.wpQuiet_want (by kernel_rfl) (fun K hK => quiet_load_mid 42 (.tmp 12) rfl g2 (0) rfl y _ (fun W ⟨X, hX⟩ => by rw [hX]; exact (RX.out X)) hui rfl HYL.out (hK _ ?_))
                  simp only [Act.put, List.setIfInBounds_toArray, List.set_cons_zero, List.set_cons_succ]
                  repeat go_big_quiet_step (fail)
                  refine wpQuiet_nil ?_
                  intro X
                  have HI7 := Lib.hid (HI6.out.below X.h)
                  go_wp2_with fail
                  go_roundw
                  case rel => exact ⟨t + 1, by omega, by go_num, HI7⟩
                  case measure => simp [intOf]; omega
            · go_wp2_with fail
              go_roundw
              case rel => exact ⟨k + 1, _, L2, f2, by omega, by omega, by go_num, HIt⟩
              case measure => simp [intOf]; omega
    · have HBW := Lib.hid HI.out.bel
      go_wp2_with fail
      refine (awake_any _).mono ?_
      rintro e w2 ⟨rfl, hb2⟩
      have HB2 := Lib.hid (HBW.out.trans (hb2.mono HBW.out.size))
      clear hb2
      go_wp2_with fail
      go_ret
      exact ⟨rfl, HB2.out⟩
    · have HBW := Lib.hid HI.out.bel
      go_wp2_with fail
      refine (awake_any _).mono ?_
      rintro e w2 ⟨rfl, hb2⟩
      have HB2 := Lib.hid (HBW.out.trans (hb2.mono HBW.out.size))
      clear hb2
      go_wp2_with fail
      go_ret
      exact ⟨rfl, HB2.out⟩
end Go.Proofs.Ytcihibmapbigdaa.itemsFinds
