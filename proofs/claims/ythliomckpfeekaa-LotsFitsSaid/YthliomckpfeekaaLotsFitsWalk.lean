/-
  THE LAW LotsFits, over the contracts. (By wip/tools/gen_fits9.py.)
-/
import Derived.Test.YthliomckpfeekaaLCon
import Derived.Test.YthliomckpfeekaaLRow
import Derived.Test.YthliomckpfeekaaLFacts
import Derived.Test.YthliomckpfeekaaHSmall
import Derived.Test.YthliomckpfeekaaHA
namespace Go.Proofs.Ythliomckpfeekaa.lotsFits
set_option linter.unusedVariables false
open Go.RowKit
open Pl (It putG)

theorem wpList_house {P : Program} {ops : Array Oper} {rest : List Oper} {o : Oper} {a : Act} {w : World} {Q : Exit → Act → World → Prop} (ty : TypeId) (x : Operand) (ho : o.op = .load ty x) (dst : Option Tmp) (hdst : o.dst = dst) (g : Nat) (hx : a.eval x = .pointer (some ⟨g, 0, none⟩)) (t : TypeId) (cs : Array Value) (fr : Nat × Nat) (d : TypeDesc)
    (hg : w.heap[g]? = some (.cells cs t fr)) (hu : P.underlying ty = some d) (hd : (match d with | .struct _ | .array _ _ => true | _ => false) = true) (hi : (P.info? ty).map (·.size) = some cs.size) (hw : Region.wanted o (yielded ops a.tmps) = true) (h : wpList P ops Q rest (a.put dst (.agg cs)) w) : wpList P ops Q (o :: rest) a w := by
  subst hdst
  exact BigFrame.wpList_want hw fun K hK => wp_load_row ty x ho g hx t cs fr d hg hu hd hi (hK _ _ h)
theorem box_made (W : World) (zero val : Array Value) (T : TypeId) : Below W.heap.size W ((W.alloc (.cells zero T)).setRow W.heap.size val) ∧ ((W.alloc (.cells zero T)).setRow W.heap.size val).heap[W.heap.size]? = some (.cells val T (0, 0)) :=
  ⟨setRow_below ((Below.refl _ _).alloc (Nat.le_refl _) _) (Nat.le_refl _) _, setRow_heap _ _ _ _ _ _ (heap_alloc_new W (.cells zero T))⟩

set_option maxRecDepth 100000 in
set_option maxHeartbeats 6400000 in
theorem walk (C : Cons) (h : Hs) (L : Nat → List (List Value)) (cs : List Value) (w : World) (hin : HIn h L w) (hf : Fits kLot cs) (hm : ∀ u ∈ cs, Mild u) :
    Calls Try.prog 4 #[.agg h.cells, .agg cs.toArray] w fun e w' => e = .returned (.bool true) ∧ Below w.heap.size w w' := by
  have hx3 := lot_cells hf
  have HML : Hid ((codeL cs).size ≤ maxLen) := Lib.hid (by
    have h2 : Value.string (codeL cs) ∈ [Value.string (itemL cs), .string (codeL cs), .int .i64 (expL cs)] := by simp
    rw [← hx3] at h2
    exact hm _ h2)
  have HFX := Lib.hid hf
  have HTK := Lib.hid (fun (h0 : addLE (L 0) (L 1) cs = 0) => (took_of h0).behind (LQ := L 4))
  obtain ⟨s, hxi⟩ : ∃ s, itemL cs = s := ⟨_, rfl⟩
  obtain ⟨t, hxc⟩ : ∃ s, codeL cs = s := ⟨_, rfl⟩
  obtain ⟨z3, hxz⟩ : ∃ s, expL cs = s := ⟨_, rfl⟩
  rw [hxi, hxc, hxz] at hx3
  rw [hxi, hxc, hxz] at HTK
  have HCSQ := Lib.hid hx3
  have HIN := Lib.hid hin
  have HCO := Lib.hid C
  have HAW : Hid (∀ W, Calls Try.prog 9 #[] W fun e w' => e = .returned (.bool true) ∧ Below W.heap.size W w') := Lib.hid (fun W => awake_any C W)
  have huh := Try.underlying37
  have hul := Try.underlying39
  have HSH : Hid (∀ a : Hs, (Try.prog.info? 37).map (·.size) = some a.cells.size) := Lib.hid (fun a => by kernel_rfl)
  have H1C : Hid (∀ a : Hs, a.cells.all (·.oneCell') = true) := Lib.hid (fun a => by simp [Hs.cells, Value.oneCell'])
  have HSX : Hid ((Try.prog.info? 39).map (·.size) = some cs.toArray.size) := Lib.hid (by rw [show (Try.prog.info? 39).map (·.size) = some 3 from by kernel_rfl, List.size_toArray, HFX.out.length]; rfl)
  obtain ⟨W0, hW0⟩ : ∃ W0, W0 = (w.alloc (.cells h.cells 37)).alloc (.cells cs.toArray 39) := ⟨_, rfl⟩
  have hb0 : Below w.heap.size w W0 := by rw [hW0]; exact ((Below.refl _ _).alloc (Nat.le_refl _) _).alloc (by simp) _
  have hs0 : W0.heap.size = w.heap.size + 2 := by rw [hW0]; simp
  have HKE : Hid (∀ W, Below W0.heap.size W0 W → W.heap[w.heap.size]? = some (.cells h.cells 37 (0, 0)) ∧ W.heap[w.heap.size + 1]? = some (.cells cs.toArray 39 (0, 0)) ∧ Below w.heap.size w W ∧ w.heap.size + 2 ≤ W.heap.size) := Lib.hid (fun W hW => by
    refine ⟨(hW.block _ (by omega)).trans (by rw [hW0]; exact (Below.heap_alloc _ _ _ (by simp)).trans (heap_alloc_new _ _)), (hW.block _ (by omega)).trans ?_, hb0.trans (hW.mono (by omega)), by have := hW.size; omega⟩
    rw [hW0]
    have := heap_alloc_new (w.alloc (.cells h.cells 37)) (.cells cs.toArray 39)
    simpa using this)
  have HB0 := Lib.hid hb0
  have H0 := Lib.hid (Below.refl W0.heap.size W0)
  have HHS := Lib.hid (HKE.out _ H0.out).1
  obtain ⟨er, her⟩ : ∃ r : Nat, addLE (L 0) (L 1) cs = r := ⟨_, rfl⟩
  have HER := Lib.hid her
  have HCL : Hid (∀ W, Below W0.heap.size W0 W → W.cell? ⟨w.heap.size + 1, 0, none⟩ = some (.string s) ∧ W.cell? ⟨w.heap.size + 1, 1, none⟩ = some (.string t) ∧ W.cell? ⟨w.heap.size + 1, 2, none⟩ = some (.int .i64 z3) ∧ w.heap.size + 1 < W.heap.size) := Lib.hid (fun W hW => by
    have hh := (HKE.out W hW).2.1
    have hw := (HKE.out W hW).2.2.2
    exact ⟨by rw [cell_of_block hh, HCSQ.out]; rfl, by rw [cell_of_block hh, HCSQ.out]; rfl, by rw [cell_of_block hh, HCSQ.out]; rfl, by omega⟩)
  have HN1 : Hid (h.n 1 = (L 1).length) := Lib.hid (HIN.out.n 1 (by decide))
  have HN4 : Hid (h.n 4 = (L 4).length) := Lib.hid (HIN.out.n 4 (by decide))
  clear hf hm hin hx3 hxi hxc hxz her hb0 hs0
  subst hW0
  go_enter Try.func4, Try.ntmps4
  go_wp2_with (first
    | (refine wpList_load_row rfl 37 (.tmp 2) rfl w.heap.size rfl _ _ _ _ HHS.out huh rfl (HSH.out _) ?_)
    | fail)
  refine (small_calls h _).mono ?_
  rintro e w1 ⟨⟨b, rfl, hb⟩, hb1⟩
  have H1 := Lib.hid (H0.out.trans hb1)
  clear hb1
  cases b with
  | false =>
    clear hb
    go_wp2_with fail
    refine (HAW.out _).mono ?_
    rintro e w2 ⟨rfl, hb2⟩
    have H2 := Lib.hid (H1.out.trans (hb2.mono H1.out.size))
    clear hb2
    go_wp2_with fail
    go_ret
    exact ⟨rfl, (HKE.out _ H2.out).2.2.1⟩
  | true =>
    have HSM := Lib.hid (hb.1 rfl)
    clear hb
    have HT1 : Hid (HT h L w1) := Lib.hid (HIN.out.ht HSM.out (HKE.out _ H1.out).2.2.1)
    have H6 : Hid (h.n 1 ≤ 1000) := Lib.hid (Nat.le_trans (HSM.out 1 (by decide)) (by decide))
    have H4B : Hid (h.n 4 ≤ 1000) := Lib.hid (Nat.le_trans (HSM.out 4 (by decide)) (by decide))
    have HHS1 := Lib.hid (HKE.out _ H1.out).1
    have HXS1 := Lib.hid (HKE.out _ H1.out).2.1
    go_wp2_with (first
      | (refine wpList_load_row rfl 37 (.tmp 2) rfl w.heap.size rfl _ _ _ _ HHS1.out huh rfl (HSH.out _) ?_)
      | (refine wpList_load_row rfl 39 (.tmp 3) rfl (w.heap.size + 1) rfl _ _ _ _ HXS1.out hul rfl HSX.out ?_)
      | fail)
    refine (HCO.out.add h L cs _ HT1.out H6.out (HIN.out.c 1 (by decide)) HFX.out HML.out).mono ?_
    intro e w2 ha
    obtain ⟨a, rfl, hat, haz, hb2, hac, han⟩ := addsL_ht HFX.out HT1.out H6.out ha
    rw [HER.out]
    have H2 := Lib.hid (H1.out.trans (hb2.mono H1.out.size))
    have hbx := box_made w2 #[.slice none 0 0, .slice none 0 0, .slice none 0 0, .slice none 0 0, .slice none 0 0, .slice none 0 0, .slice none 0 0, .slice none 0 0, .slice none 0 0, .slice none 0 0, .slice none 0 0, .slice none 0 0, .slice none 0 0, .slice none 0 0, .int .i64 0] a.cells 37
    have HQ3 : Hid ((w2.alloc (.cells #[.slice none 0 0, .slice none 0 0, .slice none 0 0, .slice none 0 0, .slice none 0 0, .slice none 0 0, .slice none 0 0, .slice none 0 0, .slice none 0 0, .slice none 0 0, .slice none 0 0, .slice none 0 0, .slice none 0 0, .slice none 0 0, .int .i64 0] 37)).heap[w2.heap.size]? = some (.cells #[.slice none 0 0, .slice none 0 0, .slice none 0 0, .slice none 0 0, .slice none 0 0, .slice none 0 0, .slice none 0 0, .slice none 0 0, .slice none 0 0, .slice none 0 0, .slice none 0 0, .slice none 0 0, .slice none 0 0, .slice none 0 0, .int .i64 0] 37 (0, 0))) := Lib.hid (heap_alloc_new _ _)
    obtain ⟨w3, hw3⟩ : ∃ w3, w3 = (w2.alloc (.cells #[.slice none 0 0, .slice none 0 0, .slice none 0 0, .slice none 0 0, .slice none 0 0, .slice none 0 0, .slice none 0 0, .slice none 0 0, .slice none 0 0, .slice none 0 0, .slice none 0 0, .slice none 0 0, .slice none 0 0, .slice none 0 0, .int .i64 0] 37)).setRow w2.heap.size a.cells := ⟨_, rfl⟩
    rw [← hw3] at hbx
    have HW3 := Lib.hid hw3
    have H3 := Lib.hid (H2.out.trans (hbx.1.mono H2.out.size))
    have HA3 := Lib.hid (hat.below hbx.1)
    have HG3 := Lib.hid hbx.2
    have HAC := Lib.hid hac
    have HAN := Lib.hid han
    have HTH3 := Lib.hid ((HT1.out.below hb2).below hbx.1)
    have HLG : Hid (w2.heap.size < w3.heap.size) := Lib.hid (lt_of_block hbx.2)
    obtain ⟨g1, hg1⟩ : ∃ g, a.n 1 = g := ⟨_, rfl⟩
    have HGN := Lib.hid hg1
    have e1 : w3.cell? ⟨w2.heap.size, 1, none⟩ = some (.slice (a.A 1) g1 (a.c 1)) := by rw [cell_of_block HG3.out, ← hg1]; rfl
    have hlg := HLG.out
    clear ha hat haz hb2 hbx hw3 hac han hg1
    by_cases he0 : er = 0
    · subst he0
      obtain ⟨tk1, tk2, tk3, tk4⟩ := HTK.out HER.out
      have hx1 : addXL L cs 1 = putG ordL (L 1) cs := by unfold addXL; rw [if_pos HER.out, if_pos rfl]
      have hx0 : addXL L cs 0 = L 0 := by unfold addXL; rw [if_pos HER.out, if_neg (by decide)]
      have hx4 : addXL L cs 4 = L 4 := by unfold addXL; rw [if_pos HER.out, if_neg (by decide)]
      have HGL : Hid (g1 = h.n 1 + 1) := Lib.hid (by rw [← HGN.out, HAN.out, hx1, tk4, HN1.out])
      have HFT : Hid ((L 4).any (ofQ s t) = false → fitE (addXL L cs 0) (addXL L cs 1) (addXL L cs 4) s t 1 = 0) := Lib.hid (by rw [hx0, hx1, hx4]; exact tk1)
      have HDY : Hid (dayZ (addXL L cs 1) s t = if z3 = 0 then 100001 else z3) := Lib.hid (by rw [hx1]; exact tk2)
      have HAG : Hid (addLE (addXL L cs 0) (addXL L cs 1) cs = 11) := Lib.hid (by rw [hx0, hx1]; exact tk3)
      clear tk1 tk2 tk3 tk4 hx0 hx1 hx4
      obtain ⟨m, hmm⟩ : ∃ m, h.n 4 = m := ⟨_, rfl⟩
      have HMM := Lib.hid hmm
      have hm6 : m ≤ 1000 := by rw [← hmm]; exact H4B.out
      obtain ⟨n1, hn1⟩ : ∃ m, h.n 1 = m := ⟨_, rfl⟩
      have hn6 : n1 ≤ 1000 := by rw [← hn1]; exact H6.out
      have HMN := Lib.hid hn1
      rw [hn1] at HGL
      have hgl := HGL.out
      subst hgl
      have e2 : w3.cell? ⟨w.heap.size, 1, none⟩ = some (.slice (h.A 1) n1 (h.c 1)) := by rw [cell_of_block (HKE.out _ H3.out).1, ← hn1]; rfl
      obtain ⟨c0, c1, c2, hlx⟩ := HCL.out _ H3.out
      have hlw : w.heap.size < w3.heap.size := by omega
      obtain ⟨dz, hdz⟩ : ∃ d, (if z3 = 0 then (100001 : Int) else z3) = d := ⟨_, rfl⟩
      have HDZ := Lib.hid hdz
      clear hmm hn1 HGL
      have HCF : Hid ((L 4).any (ofQ s t) = false → ∀ W, HT a (addXL L cs) W → Calls Try.prog 14 #[.agg a.cells, .string s, .string t, .int .i64 1] W fun e w' => e = .returned (.int .i64 0) ∧ Below W.heap.size W w') := Lib.hid (fun h0 W hW => (HCO.out.fits a (addXL L cs) s t 1 W hW (by omega)).mono fun e w' ⟨h1, h2⟩ => ⟨by rw [h1, HFT.out h0]; rfl, h2⟩)
      have HCD : Hid (∀ W, HT a (addXL L cs) W → Calls Try.prog 16 #[.agg a.cells, .string s, .string t] W fun e w' => e = .returned (.int .i64 dz) ∧ Below W.heap.size W w') := Lib.hid (fun W hW => (HCO.out.day a (addXL L cs) s t W hW).mono fun e w' ⟨h1, h2⟩ => ⟨by rw [h1, HDY.out, HDZ.out], h2⟩)
      by_cases hz : z3 = 0
      all_goals
        first | (rw [if_pos hz] at hdz; subst hz) | rw [if_neg hz] at hdz
        subst hdz
        go_wp2_with (first
          | (refine wpList_store_row rfl 37 (.tmp 5) (.tmp 20) rfl w2.heap.size a.cells rfl rfl _ _ HQ3.out (HSH.out _) rfl (H1C.out _) ?_; rw [← HW3.out])
          | fail)
        go_loopw [8, 9] (fun tv kv wr => ∃ (k : Nat) (b : Bool), k ≤ m ∧ kv = .int .i64 (k : Int) ∧ tv = .bool b ∧ Hid (b = ((L 4).take k).any (ofQ s t)) ∧ Hid (∃ q, wr = w3.drewN q)) (fun _ kv _ => m - (intOf kv).toNat)
        case atStart => exact ⟨0, false, by omega, rfl, rfl, Lib.hid rfl, Lib.hid ⟨0, rfl⟩⟩
        case round =>
          obtain ⟨k, b, hk, rfl, rfl, hb, hw⟩ := hrel
          have HBR : Hid (Below w3.heap.size w3 wr) := Lib.hid (by obtain ⟨q, hq⟩ := hw.out; rw [hq]; exact below_drewN (Below.refl _ _) _)
          have HR := Lib.hid (H3.out.trans (HBR.out.mono H3.out.size))
          have HZR : Hid (wr.heap.size = w3.heap.size) := Lib.hid (by obtain ⟨q, hq⟩ := hw.out; rw [hq]; rfl)
          have e4 : wr.cell? ⟨w.heap.size, 4, none⟩ = some (.slice (h.A 4) m (h.c 4)) := by rw [cell_of_block (HKE.out _ HR.out).1, ← HMM.out]; rfl
          clear c0 c1 c2 hlx
          obtain ⟨c0, c1, _, hlx⟩ := HCL.out _ HR.out
          have hlw2 : w.heap.size < wr.heap.size := by omega
          by_cases hlt : k < m
          · have hkl : k < (L 4).length := by rw [← HN4.out, HMM.out]; exact hlt
            have hsn := any_snoc (s := s) (t := t) hkl
            rw [← hb.out] at hsn
            have hq2 : Hid (∀ z, ∃ q, wr.drewN z = w3.drewN q) := Lib.hid (fun z => by obtain ⟨q0, hq0⟩ := hw.out; rw [hq0]; exact ⟨_, World.drewN_drewN _ _ _⟩)
            obtain ⟨b4, off, hA, hc⟩ := quant_at HTH3.out hkl
            obtain ⟨hbl, q1, q2, q4⟩ := hc wr HBR.out
            clear q4
            rw [hA] at e4
            obtain ⟨u, hu⟩ : ∃ u, (L 4)[k] = u := ⟨_, rfl⟩
            rw [hu] at q1 q2 hsn
            obtain ⟨ui, hui⟩ : ∃ y, itemQ u = y := ⟨_, rfl⟩
            obtain ⟨ul, hul2⟩ : ∃ y, lotQ u = y := ⟨_, rfl⟩
            have hof : ofQ s t u = (Pl.eqv ui s && Pl.eqv ul t) := by unfold ofQ; rw [hui, hul2]
            rw [hof] at hsn
            rw [hui] at q1
            rw [hul2] at q2
            have HSN := Lib.hid hsn
            clear hof hui hul2 hu hsn hc hA hkl
            have h1 : (0 : Int) ≤ (k : Int) := by omega
            have h2 : (k : Int) < (m : Int) := by omega
            cases b with
            | true =>
              have HS1 : Hid (true = ((L 4).take (k + 1)).any (ofQ s t)) := Lib.hid (by rw [HSN.out]; rfl)
              go_wp2_with fail
              go_quiet (fail)
              go_wp2_with fail
              go_roundw
              case rel => exact ⟨k + 1, true, by omega, by go_num, rfl, HS1, Lib.hid (hq2.out _)⟩
              case measure => simp [intOf]; omega
            | false =>
              cases hp : Pl.eqv ui s with
              | false =>
                have hp' : (ui.toList == s.toList) = false := hp
                have HS1 : Hid (false = ((L 4).take (k + 1)).any (ofQ s t)) := Lib.hid (by rw [HSN.out, hp]; rfl)
                clear hp
                go_wp2_with fail
                go_quiet (fail)
                go_wp2_with fail
                go_roundw
                case rel => exact ⟨k + 1, false, by omega, by go_num, rfl, HS1, Lib.hid (hq2.out _)⟩
                case measure => simp [intOf]; omega
              | true =>
                have hp' : (ui.toList == s.toList) = true := hp
                obtain ⟨o, ho⟩ : ∃ o, Pl.eqv ul t = o := ⟨_, rfl⟩
                have ho' : (ul.toList == t.toList) = o := ho
                have HS1 : Hid (o = ((L 4).take (k + 1)).any (ofQ s t)) := Lib.hid (by rw [HSN.out, hp, ho]; rfl)
                clear hp ho
                go_wp2_with fail
                go_quiet (fail)
                go_wp2_with fail
                go_roundw
                case rel => exact ⟨k + 1, o, by omega, by go_num, rfl, HS1, Lib.hid (hq2.out _)⟩
                case measure => simp [intOf]; omega
          · obtain rfl : k = m := by omega
            have HBV : Hid (b = (L 4).any (ofQ s t)) := Lib.hid (by rw [hb.out, List.take_of_length_le (by rw [← HN4.out, HMM.out]; omega)])
            have HAR := Lib.hid (HA3.out.below HBR.out)
            have HGR := Lib.hid ((HBR.out.block _ (lt_of_block HG3.out)).trans HG3.out)
            have HXR := Lib.hid (HKE.out _ HR.out).2.1
            have HA10 : Hid (a.n 1 ≤ 1000) := Lib.hid (by rw [HGN.out]; have : h.n 1 ≤ 160 := HSM.out 1 (by decide); rw [HMN.out] at this; omega)
            go_wp2_with (first
              | (refine wpList_load_row rfl 37 (.tmp 5) rfl w2.heap.size rfl _ _ _ _ HGR.out huh rfl (HSH.out _) ?_)
              | (refine wpList_load_row rfl 39 (.tmp 3) rfl (w.heap.size + 1) rfl _ _ _ _ HXR.out hul rfl HSX.out ?_)
              | fail)
            refine (HCO.out.add a (addXL L cs) cs _ HAR.out HA10.out HAC.out HFX.out HML.out).mono ?_
            intro e w4 ha
            obtain ⟨a2, rfl, _, _, hb4, _, _⟩ := addsL_ht HFX.out HAR.out HA10.out ha
            rw [HAG.out, show ((11 : Nat) : Int) = 11 from rfl]
            have hbx := box_made w4 #[.slice none 0 0, .slice none 0 0, .slice none 0 0, .slice none 0 0, .slice none 0 0, .slice none 0 0, .slice none 0 0, .slice none 0 0, .slice none 0 0, .slice none 0 0, .slice none 0 0, .slice none 0 0, .slice none 0 0, .slice none 0 0, .int .i64 0] a2.cells 37
            have HQ5 : Hid ((w4.alloc (.cells #[.slice none 0 0, .slice none 0 0, .slice none 0 0, .slice none 0 0, .slice none 0 0, .slice none 0 0, .slice none 0 0, .slice none 0 0, .slice none 0 0, .slice none 0 0, .slice none 0 0, .slice none 0 0, .slice none 0 0, .slice none 0 0, .int .i64 0] 37)).heap[w4.heap.size]? = some (.cells #[.slice none 0 0, .slice none 0 0, .slice none 0 0, .slice none 0 0, .slice none 0 0, .slice none 0 0, .slice none 0 0, .slice none 0 0, .slice none 0 0, .slice none 0 0, .slice none 0 0, .slice none 0 0, .slice none 0 0, .slice none 0 0, .int .i64 0] 37 (0, 0))) := Lib.hid (heap_alloc_new _ _)
            obtain ⟨w5, hw5⟩ : ∃ w5, w5 = (w4.alloc (.cells #[.slice none 0 0, .slice none 0 0, .slice none 0 0, .slice none 0 0, .slice none 0 0, .slice none 0 0, .slice none 0 0, .slice none 0 0, .slice none 0 0, .slice none 0 0, .slice none 0 0, .slice none 0 0, .slice none 0 0, .slice none 0 0, .int .i64 0] 37)).setRow w4.heap.size a2.cells := ⟨_, rfl⟩
            rw [← hw5] at hbx
            have HW5 := Lib.hid hw5
            have HR5 := Lib.hid ((HR.out.trans (hb4.mono HR.out.size)).trans (hbx.1.mono (HR.out.trans (hb4.mono HR.out.size)).size))
            have HA5 := Lib.hid ((HAR.out.below hb4).below hbx.1)
            have HG5 := Lib.hid ((hbx.1.block _ (Nat.lt_of_lt_of_le (lt_of_block HGR.out) hb4.size)).trans ((hb4.block _ (lt_of_block HGR.out)).trans HGR.out))
            clear ha hb4 hbx hw5 c0 c1
            obtain ⟨c0, c1, _, hlx⟩ := HCL.out _ HR5.out
            clear HTK HCSQ HIN HN1 HN4 HCO HML HFX HSX HER HHS HSM HT1 H6 H4B HHS1 HXS1 H2 HQ3 HW3 H3 HA3 HG3 HAC HAN HTH3 HLG HGN HFT HDY HAG HMM HMN HDZ H0 H1 HB0 hw HBR HR HZR HAR HGR HXR HA10 e1 e2 e4 hlw hlw2 hlg hm6 hn6 hk hb hlt
            cases b with
            | true =>
              go_wp2_with (first
                | (refine wpList_store_row rfl 37 (.tmp 10) (.tmp 79) rfl w4.heap.size a2.cells rfl rfl _ _ HQ5.out (HSH.out _) rfl (H1C.out _) ?_; rw [← HW5.out])
                | (refine wpList_house 37 (.tmp 5) rfl (some 92) rfl w2.heap.size rfl _ _ _ _ HG5.out huh rfl (HSH.out _) rfl ?_)
                | fail)
              refine (HCD.out _ HA5.out).mono ?_
              rintro e w7 ⟨rfl, hb7⟩
              have HR7 := Lib.hid (HR5.out.trans (hb7.mono HR5.out.size))
              clear hb7
              go_wp2_with fail
              refine (HAW.out _).mono ?_
              rintro e w8 ⟨rfl, hb8⟩
              have HR8 := Lib.hid (HR7.out.trans (hb8.mono HR7.out.size))
              clear hb8
              go_wp2_with fail
              go_ret
              exact ⟨rfl, (HKE.out _ HR8.out).2.2.1⟩
            | false =>
              go_wp2_with (first
                | (refine wpList_store_row rfl 37 (.tmp 10) (.tmp 79) rfl w4.heap.size a2.cells rfl rfl _ _ HQ5.out (HSH.out _) rfl (H1C.out _) ?_; rw [← HW5.out])
                | (refine wpList_house 37 (.tmp 5) rfl (some 83) rfl w2.heap.size rfl _ _ _ _ HG5.out huh rfl (HSH.out _) rfl ?_)
                | fail)
              refine (HCF.out HBV.out.symm _ HA5.out).mono ?_
              rintro e w6 ⟨rfl, hb6⟩
              have HR6 := Lib.hid (HR5.out.trans (hb6.mono HR5.out.size))
              have HA6 := Lib.hid (HA5.out.below hb6)
              have HG6 := Lib.hid ((hb6.block _ (lt_of_block HG5.out)).trans HG5.out)
              clear hb6 c0 c1 hlx
              obtain ⟨c0, c1, _, hlx⟩ := HCL.out _ HR6.out
              go_wp2_with (first
                | (refine wpList_house 37 (.tmp 5) rfl (some 92) rfl w2.heap.size rfl _ _ _ _ HG6.out huh rfl (HSH.out _) rfl ?_)
                | fail)
              refine (HCD.out _ HA6.out).mono ?_
              rintro e w7 ⟨rfl, hb7⟩
              have HR7 := Lib.hid (HR6.out.trans (hb7.mono HR6.out.size))
              clear hb7
              go_wp2_with fail
              refine (HAW.out _).mono ?_
              rintro e w8 ⟨rfl, hb8⟩
              have HR8 := Lib.hid (HR7.out.trans (hb8.mono HR7.out.size))
              clear hb8
              go_wp2_with fail
              go_ret
              exact ⟨rfl, (HKE.out _ HR8.out).2.2.1⟩
    · have hk0 : ((er : Int) != 0) = true := by simpa using he0
      have HK := Lib.hid he0
      have hg0 : g1 = 0 := by rw [← HGN.out, HAN.out, show addXL L cs 1 = [] from by unfold addXL; rw [if_neg (by rw [HER.out]; exact he0)]]; rfl
      subst hg0
      clear he0
      go_wp2_with (first
        | (refine wpList_store_row rfl 37 (.tmp 5) (.tmp 20) rfl w2.heap.size a.cells rfl rfl _ _ HQ3.out (HSH.out _) rfl (H1C.out _) ?_; rw [← HW3.out])
        | fail)
      refine (HAW.out _).mono ?_
      rintro e w4 ⟨rfl, hb4⟩
      have H4 := Lib.hid (H3.out.trans (hb4.mono H3.out.size))
      clear hb4
      go_wp2_with fail
      go_ret
      exact ⟨rfl, (HKE.out _ H4.out).2.2.1⟩
end Go.Proofs.Ythliomckpfeekaa.lotsFits
