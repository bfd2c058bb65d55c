/-
  THE LAW IndexFollows, over the contracts. (By wip/tools/gen_follows15.py.)
-/
import Derived.Test.YtnkhnbpopdmkhaaGreatWCon
import Derived.Test.YtnkhnbpopdmkhaaGreatWAwake
import Derived.Test.YtnkhnbpopdmkhaaGreatWRows
import Derived.Test.YtnkhnbpopdmkhaaGreatHSmall
import Derived.Test.YtnkhnbpopdmkhaaGreatHA
import Derived.Test.YtnkhnbpopdmkhaaGreatWSame
import Derived.Test.YtnkhnbpopdmkhaaGreatWRefB
import Derived.Test.YtnkhnbpopdmkhaaGreatHKept
import Derived.Test.YtnkhnbpopdmkhaaGreatHLent
import Derived.Test.YtnkhnbpopdmkhaaGreatHLastN
import Derived.Test.YtnkhnbpopdmkhaaGreatNMap
import Derived.BigQuiet
import Derived.Deep.RegionHeld3
namespace Go.Proofs.YtnkhnbpopdmkhaaGreat.indexFollows
set_option linter.unusedVariables false
open Go.RowKit
open Pl (firstG findG putG It)

/-- A house's lists stand where no block of X lies: they stay where nothing but X turns. -/
theorem HT.offX {a : Hs} {L : Nat → List (List Value)} {w w' : World} {X : Nat → Prop} (h : HT a L w) (hX : ∀ k, X k → Off k a L) (hs : w.heap.size ≤ w'.heap.size) (hk : ∀ k, k < w.heap.size → ¬ X k → w'.heap[k]? = w.heap[k]?) : HT a L w' := fun i hi => by
  obtain ⟨h1, h2, h3, h4⟩ := h i hi
  refine ⟨h1, h2, h3, fun hx => ?_⟩
  obtain ⟨b, off, hA, hb, hc⟩ := h4 hx
  have hne : L i ≠ [] := fun e => by rw [e] at hx; exact absurd hx (by simp)
  have hnx : ¬ X b := fun hxb => hX b hxb i hi hne _ hA rfl
  exact ⟨b, off, hA, Nat.lt_of_lt_of_le hb hs, fun j u hu => (World.cell?_of_block (a := ⟨b, off + j, none⟩) (hk b hb hnx)).trans (hc j u hu)⟩
theorem KB.offX {g n : Nat → Nat} {w w' : World} {X : Nat → Prop} (h : KB g n w) (hX : ∀ i, i < 14 → ¬ X (g i)) (hk : ∀ k, k < w.heap.size → ¬ X k → w'.heap[k]? = w.heap[k]?) : KB g n w' := fun i hi =>
  (World.cell?_of_block (a := ⟨g i, n i * (kOf i).length + pOf i, none⟩) (hk (g i) (World.block_lt_of_cell? w _ (h i hi)) (hX i hi))).trans (h i hi)
/-- An Ask of a row. -/
theorem ask_at {A2 : Option Addr} {n2 c2 : Nat} {LA : List (List Value)} {w : World} (ha : LIn kAsk w (.slice A2 n2 c2) A2 n2 c2 LA) {k : Nat} (hk : k < n2) :
    ∃ ab ao s t q, A2 = some ⟨ab, ao, none⟩ ∧ ab < w.heap.size ∧ w.rangeAt ab (ao + k * 3) [.string s, .string t, .int .i64 q] ∧ t.size ≤ 9223372036854775807 ∧ Wf q := by
  obtain ⟨_, hl, _, _, ht, hm, hr⟩ := ha
  have hkl : k < LA.length := by omega
  obtain ⟨ab, ao, hA, hb, hc⟩ := hr.thing ht (by decide) hkl
  obtain ⟨s, t, q, he⟩ := ask_cells (ht _ (List.getElem_mem hkl))
  have h1 := hc k hkl
  rw [he] at h1
  have h2 := hm _ (List.getElem_mem hkl)
  rw [he] at h2
  exact ⟨ab, ao, s, t, q, hA, hb, h1, h2 (.string t) (by simp), wf_of (h2 (.int .i64 q) (by simp))⟩
set_option maxRecDepth 100000 in
set_option maxHeartbeats 6400000 in
theorem walk0 {IX : World → Nat → (Nat → Prop) → (Nat → List (List Value)) → Prop} (C : ConsX IX) (A A2 : Option Addr) (n c n2 c2 : Nat) (hs : Nat → Hs) (Ls : Nat → Nat → List (List Value)) (LA : List (List Value)) (w : World) (hin : ∀ i, i < n → HIn (hs i) (Ls i) w) (hr : ∀ i, i < n → ∃ b off, A = some ⟨b, off, none⟩ ∧ b < w.heap.size ∧ w.rangeAt b (off + i * 15) (hs i).cells.toList) (hn9 : n ≤ 9223372036854775807)
    (ha : LIn kAsk w (.slice A2 n2 c2) A2 n2 c2 LA) (hn29 : n2 ≤ 9223372036854775807) :
    Calls Tryz.prog 4 #[.slice A n c, .slice A2 n2 c2] w fun e w' => e = .returned (.bool true) ∧ Below w.heap.size w w' := by
  have HIN := Lib.hid hin
  have HRR := Lib.hid hr
  have HCO := Lib.hid C
  have HAK := Lib.hid ha
  have HAW : Hid (∀ W, Calls Tryz.prog 6 #[] W fun e w' => e = .returned (.bool true) ∧ Below W.heap.size W w') := Lib.hid (fun W => awake_any C W)
  have huh := Tryz.underlying37
  have HSH : Hid (∀ a : Hs, (Tryz.prog.info? 37).map (·.size) = some a.cells.size) := Lib.hid (fun a => by kernel_rfl)
  have HSHL : Hid (∀ a : Hs, (Tryz.prog.info? 37).map (·.size) = some a.cells.toList.length) := Lib.hid (fun a => by kernel_rfl)
  have H1C : Hid (∀ a : Hs, a.cells.all (·.oneCell') = true) := Lib.hid (fun a => by simp [Hs.cells, Value.oneCell'])
  have hua := Tryz.underlying39
  have HSA : Hid ((Tryz.prog.info? 39).map (·.size) = some 3) := Lib.hid (by kernel_rfl)
  clear hin hr ha
  go_enter Tryz.func4, Tryz.ntmps4
  go_wp2_with fail
  refine (HCO.out.new _).mono ?_
  rintro e w1 ⟨hb1, b, X, rfl, hix, hX⟩
  have HIX1 := Lib.hid hix
  have HX1 := Lib.hid hX
  have HB1 := Lib.hid hb1
  clear hix hX hb1
  go_wp2_with fail
  go_loopw [6] (fun iv wr => ∃ (i : Nat) (X : Nat → Prop) (Lc : Nat → List (List Value)), i ≤ n ∧ i ≤ 12 ∧ iv = .int .i64 (i : Int) ∧ Hid (IX wr b X Lc) ∧ Hid (∀ k, X k → w.heap.size ≤ k) ∧ Hid (Below w.heap.size w wr)) (fun iv _ => 12 - (intOf iv).toNat)
  case atStart => exact ⟨0, X, _, by omega, by omega, rfl, HIX1, HX1, HB1⟩
  case round =>
    obtain ⟨i, X, Lc, hi, hi12, rfl, HIX, HX, HW⟩ := hrel
    by_cases hlt : i < n
    · by_cases h12 : i < 12
      · skip
        obtain ⟨lb, lo, rfl, hlb, hrg⟩ := HRR.out i hlt
        obtain ⟨h, hh⟩ : ∃ h, hs i = h := ⟨_, rfl⟩
        obtain ⟨L, hL⟩ : ∃ L, Ls i = L := ⟨_, rfl⟩
        have hI := HIN.out i hlt
        rw [hh, hL] at hI
        rw [hh] at hrg
        have HI := Lib.hid hI
        have HRG : Hid (∀ W, Below w.heap.size w W → W.rangeAt lb (lo + i * 15) h.cells.toList) := Lib.hid (fun W hW => rangeAt_below hrg hlb hW)
        clear hI hrg hh hL
        have h1 : (0 : Int) ≤ (i : Int) := by omega
        have h2 : (i : Int) < (n : Int) := by omega
        have h3 : (i : Int) < 12 := by omega
        go_wp2_with (first
          | (refine wpList_load_mid rfl 37 (.tmp 26) rfl lb (lo + i * 15) rfl h.cells.toList _ (HRG.out _ HW.out) huh rfl (HSHL.out _) ?_; rw [Array.toArray_toList])
          | fail)
        refine (small_calls h _).mono ?_
        rintro e w2 ⟨⟨sm, rfl, hsm⟩, hb2⟩
        have HW2 := Lib.hid (HW.out.trans (hb2.mono HW.out.size))
        have HIX2 := Lib.hid (HCO.out.keep _ _ _ _ _ HIX.out (fun k hk => hb2.block k (HCO.out.lt _ _ _ _ HIX.out k hk)))
        clear hb2
        cases sm with
        | false =>
          clear hsm
          go_wp2_with fail
          refine (HAW.out _).mono ?_
          rintro e wz ⟨rfl, hbz⟩
          have BZ := Lib.hid (HW2.out.trans (hbz.mono HW2.out.size))
          clear hbz
          go_wp2_with fail
          go_ret
          exact ⟨rfl, BZ.out⟩
        | true =>
          have HSM := Lib.hid (hsm.1 rfl)
          clear hsm
          have c4 : w2.cell? ⟨lb, lo + i * 15 + 4, none⟩ = some (.slice (h.A 4) (h.n 4) (h.c 4)) := HRG.out _ HW2.out 4 _ rfl
          obtain ⟨m4, hm4⟩ : ∃ z, h.n 4 = z := ⟨_, rfl⟩
          rw [hm4] at c4
          by_cases h60 : 60 < m4
          · have h4 : (60 : Int) < (m4 : Int) := by omega
            go_wp2_with fail
            refine (HAW.out _).mono ?_
            rintro e wz ⟨rfl, hbz⟩
            have BZ := Lib.hid (HW2.out.trans (hbz.mono HW2.out.size))
            clear hbz
            go_wp2_with fail
            go_ret
            exact ⟨rfl, BZ.out⟩
          · skip
            have h4 : ¬ (60 : Int) < (m4 : Int) := by omega
            have HT2 : Hid (HT h L w2) := Lib.hid (HI.out.ht HSM.out HW2.out)
            have HN : Hid (∀ i, i < 14 → h.n i ≤ 1000) := Lib.hid (fun i hi => Nat.le_trans (HSM.out i hi) (cap_le i hi))
            have HXL : Hid (∀ k, X k → k < w2.heap.size) := Lib.hid (HCO.out.lt _ _ _ _ HIX2.out)
            go_wp2_with (first
              | (refine wpList_load_mid rfl 37 (.tmp 42) rfl lb (lo + i * 15) rfl h.cells.toList _ (HRG.out _ HW2.out) huh rfl (HSHL.out _) ?_; rw [Array.toArray_toList])
              | fail)
            clear c4 h4
            refine (lents_calls h L _ HT2.out HN.out).mono ?_
            rintro e w3 ⟨own, rfl, hz, hlt', hb3⟩
            obtain ⟨gg, nn, cc, z, hcell, hze, hn', hc', hnn, hbb, hot, hgu⟩ := lent_ownU hlt' HT2.out (fun i hi => HSM.out i hi)
            have HW3 := Lib.hid (HW2.out.trans (hb3.mono HW2.out.size))
            have HT3 := Lib.hid (HT2.out.below hb3)
            have HIX3 := Lib.hid (HCO.out.keep _ _ _ _ _ HIX2.out (fun k hk => hb3.block k (HXL.out k hk)))
            have hs23 := hb3.size
            have hzz : z = h.z := hze.trans hz
            obtain ⟨own2, how⟩ : ∃ o, o = Hs.mk (fun i => some ⟨gg i, 0, none⟩) nn cc z := ⟨_, rfl⟩
            rw [show own.val = .agg own2.cells from by rw [Hs.val_cells, hcell, how]]
            rw [← how] at hot
            have HOW := Lib.hid how
            have OWN3 := Lib.hid hot
            have HNN := Lib.hid hn'
            have HCC := Lib.hid hc'
            have HN6 := Lib.hid hnn
            have HBH3 : Hid (KB gg nn w3) := Lib.hid hbb
            have HZO : Hid (own2.z = h.z) := Lib.hid (by rw [how]; exact hzz)
            have HNO : Hid (∀ i, i < 14 → own2.n i ≤ 1000) := Lib.hid (by rw [how]; exact hnn)
            have HGU := Lib.hid hgu
            have HOA : Hid (∀ i, own2.A i = some ⟨gg i, 0, none⟩) := Lib.hid (fun i => by rw [how])
            have HGL : Hid (∀ i, i < 14 → gg i < w3.heap.size) := Lib.hid (fun i hi => by obtain ⟨_, arr, t, e⟩ := hgu i hi; exact lt_of_block e)
            clear hz hlt' hb3 hn' hc' hnn hbb hot how hcell hze hzz hgu own hm4
            have HQ4 : Hid ((w3.alloc (.cells #[.slice none 0 0, .slice none 0 0, .slice none 0 0, .slice none 0 0, .slice none 0 0, .slice none 0 0, .slice none 0 0, .slice none 0 0, .slice none 0 0, .slice none 0 0, .slice none 0 0, .slice none 0 0, .slice none 0 0, .slice none 0 0, .int .i64 0] 37)).heap[w3.heap.size]? = some (.cells #[.slice none 0 0, .slice none 0 0, .slice none 0 0, .slice none 0 0, .slice none 0 0, .slice none 0 0, .slice none 0 0, .slice none 0 0, .slice none 0 0, .slice none 0 0, .slice none 0 0, .slice none 0 0, .slice none 0 0, .slice none 0 0, .int .i64 0] 37 (0, 0))) := Lib.hid (heap_alloc_new _ _)
            obtain ⟨w4, hw4⟩ : ∃ w', w' = (w3.alloc (.cells #[.slice none 0 0, .slice none 0 0, .slice none 0 0, .slice none 0 0, .slice none 0 0, .slice none 0 0, .slice none 0 0, .slice none 0 0, .slice none 0 0, .slice none 0 0, .slice none 0 0, .slice none 0 0, .slice none 0 0, .slice none 0 0, .int .i64 0] 37)).setRow w3.heap.size own2.cells := ⟨_, rfl⟩
            have hb4 : Below w3.heap.size w3 w4 := by rw [hw4]; exact setRow_below ((Below.refl _ _).alloc (Nat.le_refl _) _) (Nat.le_refl _) _
            have HO4 : Hid (w4.heap[w3.heap.size]? = some (.cells own2.cells 37 (0, 0))) := Lib.hid (by rw [hw4]; exact setRow_heap _ _ _ _ _ _ HQ4.out)
            have hs34 : w3.heap.size < w4.heap.size := lt_of_block HO4.out
            have HW4 := Lib.hid (HW3.out.trans (hb4.mono HW3.out.size))
            have HT4 := Lib.hid (HT3.out.below hb4)
            have OWN4 := Lib.hid (OWN3.out.below hb4)
            have HBH4 := Lib.hid (HBH3.out.below hb4)
            have HIX4 := Lib.hid (HCO.out.keep _ _ _ _ _ HIX3.out (fun k hk => hb4.block k (by have := HXL.out k hk; omega)))
            have HU4 : Hid (∃ (arr : Array Value) (t : TypeId), w4.heap[gg 4]? = some (.cells arr t (0, 0))) := Lib.hid (by obtain ⟨_, arr, t, e⟩ := HGU.out 4 (by decide); exact ⟨arr, t, (hb4.block _ (lt_of_block e)).trans e⟩)
            have HWE4 := Lib.hid hw4
            clear hw4 hb4
            go_wp2_with (first
              | (refine wpList_store_row rfl 37 (.tmp 7) (.tmp 44) rfl w3.heap.size own2.cells rfl rfl _ _ HQ4.out (HSH.out _) rfl (H1C.out _) ?_; rw [← HWE4.out])
              | (refine wpList_load_row rfl 37 (.tmp 7) rfl w3.heap.size rfl _ _ _ _ HO4.out huh rfl (HSH.out _) ?_)
              | fail)
            have HOFF : Hid (∀ k, X k → Off k own2 L) := Lib.hid (fun k hk j hj _ q hq e => by
              rw [HOA.out j] at hq
              injection hq with hq
              subst hq
              have h5 := HXL.out k hk
              have h6 := (HGU.out j hj).1
              have h7 : gg j = k := e
              omega)
            refine (HCO.out.follow own2 L Lc b X _ HIX4.out OWN4.out HNO.out HI.out.m HOFF.out).mono ?_
            rintro e w5 ⟨rfl, hbl, hkx, X5, hix5, hX5⟩
            have hs45 := (hbl 0 (Nat.zero_le _) (fun k _ => Nat.zero_le _)).size
            have HW5 := Lib.hid (HW4.out.trans (hbl w.heap.size HW4.out.size HX.out))
            have OWN5 := Lib.hid (HT.offX OWN4.out HOFF.out hs45 hkx)
            have HT5 : Hid (HT h L w5) := Lib.hid (HI.out.ht HSM.out HW5.out)
            have HBH5 := Lib.hid (KB.offX HBH4.out (fun j hj hx => by have h5 := HXL.out _ hx; have h6 := (HGU.out j hj).1; omega) hkx)
            have HO5 : Hid (w5.heap[w3.heap.size]? = some (.cells own2.cells 37 (0, 0))) := Lib.hid ((hkx _ (lt_of_block HO4.out) (fun hx => by have h5 := HXL.out _ hx; omega)).trans HO4.out)
            have HU5 : Hid (∃ (arr : Array Value) (t : TypeId), w5.heap[gg 4]? = some (.cells arr t (0, 0))) := Lib.hid (by
              obtain ⟨arr, t, e⟩ := HU4.out
              exact ⟨arr, t, (hkx _ (lt_of_block e) (fun hx => by have h5 := HXL.out _ hx; have h6 := (HGU.out 4 (by decide)).1; omega)).trans e⟩)
            have HIX5 := Lib.hid hix5
            have HX5 : Hid (∀ k, X5 k → w.heap.size ≤ k) := Lib.hid (fun k hk => by
              rcases hX5 k hk with h5 | h5
              · exact HX.out k h5
              · have := HW4.out.size; omega)
            have HXG : Hid (∀ k, X5 k → k ≠ gg 4 ∧ k ≠ w3.heap.size) := Lib.hid (fun k hk => by
              have h6 := (HGU.out 4 (by decide)).1
              have h7 := HGL.out 4 (by decide)
              rcases hX5 k hk with h5 | h5
              · have h8 := HXL.out k h5; omega
              · omega)
            clear hbl hkx hix5 hX5 hs45 HIX HIX2 HIX3 HIX4
            go_wp2_with fail
            go_loopw [8] (fun kv wr => ∃ k : Nat, k ≤ n2 ∧ k ≤ 12 ∧ kv = .int .i64 (k : Int) ∧ Hid (Below w5.heap.size w5 wr)) (fun kv _ => 12 - (intOf kv).toNat)
            case atStart => exact ⟨0, by omega, by omega, rfl, Lib.hid (Below.refl _ _)⟩
            case round =>
              obtain ⟨k, hk, hk12, rfl, hv⟩ := hrel
              by_cases hkl : k < n2
              · by_cases hk1 : k < 12
                · skip
                  obtain ⟨ab, ao, s, t, q, rfl, hab, hra, ht9, hwq⟩ := ask_at HAK.out hkl
                  have HVW : Hid (Below w.heap.size w wr) := Lib.hid (HW5.out.trans (hv.out.mono HW5.out.size))
                  have HRA : Hid (wr.rangeAt ab (ao + k * 3) [.string s, .string t, .int .i64 q]) := Lib.hid (rangeAt_below hra hab HVW.out)
                  have habl : ab < wr.heap.size := Nat.lt_of_lt_of_le hab HVW.out.size
                  have HRH : Hid (wr.rangeAt lb (lo + i * 15) h.cells.toList) := Lib.hid (HRG.out _ HVW.out)
                  have HTV : Hid (HT h L wr) := Lib.hid (HT5.out.below hv.out)
                  have HIXV : Hid (IX wr b X5 L) := Lib.hid (HCO.out.keep _ _ _ _ _ HIX5.out (fun k hk => hv.out.block k (HCO.out.lt _ _ _ _ HIX5.out k hk)))
                  obtain ⟨pl, hpl⟩ : ∃ r, pickL L s t q = r := ⟨_, rfl⟩
                  have HPT : Hid (Things kTake pl) := Lib.hid (by rw [← hpl]; exact things_pick L s t q)
                  have HPN : Hid (pl.length ≤ 1000000) := Lib.hid (by rw [← hpl]; refine Nat.le_trans (pick_len L s t q) ?_; rw [← (HTV.out 4 (by decide)).1]; exact Nat.le_trans (HN.out 4 (by decide)) (by decide))
                  have CP : Hid (∀ W, Below wr.heap.size wr W → Calls Tryz.prog 16 #[.pointer (some ⟨b, 0, none⟩), .string s, .string t, .int .i64 q] W (TakesP pl W)) := Lib.hid (fun W hW => by rw [← hpl]; exact HCO.out.pick L b X5 s t q W (HCO.out.keep _ _ _ _ _ HIXV.out (fun k hk => hW.block k (HCO.out.lt _ _ _ _ HIXV.out k hk))) ht9 hwq)
                  have CNB : Hid (∀ W, HT h L W → Calls Tryz.prog 10 #[.agg h.cells, .string s, .string t, .int .i64 q] W (TakesP pl W)) := Lib.hid (fun W hW => by rw [← hpl]; exact rnaive_any h L s t q W hW (HN.out 4 (by decide)) hwq)
                  have k1 : (0 : Int) ≤ (k : Int) := by omega
                  have k2 : (k : Int) < (n2 : Int) := by omega
                  have k3 : (k : Int) < 12 := by omega
                  clear hpl hab hra ht9 hwq
                  have HQ6 : Hid ((wr.alloc (.cells #[.string ⟨#[]⟩, .string ⟨#[]⟩, .int .i64 0] 39)).heap[wr.heap.size]? = some (.cells #[.string ⟨#[]⟩, .string ⟨#[]⟩, .int .i64 0] 39 (0, 0))) := Lib.hid (heap_alloc_new _ _)
                  obtain ⟨w6, hw6⟩ : ∃ w', w' = (wr.alloc (.cells #[.string ⟨#[]⟩, .string ⟨#[]⟩, .int .i64 0] 39)).setRow wr.heap.size #[.string s, .string t, .int .i64 q] := ⟨_, rfl⟩
                  have HB6 : Hid (Below wr.heap.size wr w6) := Lib.hid (by rw [hw6]; exact setRow_below ((Below.refl _ _).alloc (Nat.le_refl _) _) (Nat.le_refl _) _)
                  have HA6 : Hid (w6.heap[wr.heap.size]? = some (.cells #[.string s, .string t, .int .i64 q] 39 (0, 0))) := Lib.hid (by rw [hw6]; exact setRow_heap _ _ _ _ _ _ HQ6.out)
                  have HSA3 : Hid ((Tryz.prog.info? 39).map (·.size) = some (#[.string s, .string t, .int .i64 q] : Array Value).size) := Lib.hid (by kernel_rfl)
                  have HWE6 := Lib.hid hw6
                  clear hw6
                  go_wp2_with (first
                    | (refine wpList_load_mid rfl 39 (.tmp 60) rfl ab (ao + k * 3) rfl [.string s, .string t, .int .i64 q] _ HRA.out hua rfl HSA.out ?_)
                    | (refine wpList_store_row rfl 39 (.tmp 9) (.tmp 61) rfl wr.heap.size #[.string s, .string t, .int .i64 q] rfl rfl _ _ HQ6.out HSA3.out rfl (by simp [Value.oneCell']) ?_; rw [← HWE6.out])
                    | fail)
                  have HST : Hid (∀ X, Below w6.heap.size w6 X → X.cell? ⟨wr.heap.size, 0, none⟩ = some (.string s) ∧ X.cell? ⟨wr.heap.size, 1, none⟩ = some (.string t) ∧ X.cell? ⟨wr.heap.size, 2, none⟩ = some (.int .i64 q) ∧ X.rangeAt lb (lo + i * 15) h.cells.toList) := Lib.hid (fun X hX => ⟨by rw [cell_of_block ((hX.block _ (lt_of_block HA6.out)).trans HA6.out)]; rfl, by rw [cell_of_block ((hX.block _ (lt_of_block HA6.out)).trans HA6.out)]; rfl, by rw [cell_of_block ((hX.block _ (lt_of_block HA6.out)).trans HA6.out)]; rfl, HRG.out X (HVW.out.trans ((HB6.out.trans (hX.mono HB6.out.size)).mono HVW.out.size))⟩)
                  have BN := Lib.hid (Below.refl w6.heap.size w6).drew
                  have ST0 := HST.out _ BN.out
                  refine wp_region_noPanic ?_
                  refine wp_region_held_drew (S := (fun w' => w'.cell? ⟨wr.heap.size, 0, none⟩ = some (.string s) ∧ w'.cell? ⟨wr.heap.size, 1, none⟩ = some (.string t) ∧ w'.cell? ⟨wr.heap.size, 2, none⟩ = some (.int .i64 q) ∧ w'.rangeAt lb (lo + i * 15) h.cells.toList)) (by kernel_rfl) ST0 (fun dd0 => ?_)
                  refine wpAnyH_take (i := 0) (v := .pointer (some ⟨b, 0, none⟩)) rfl (by kernel_rfl) (by kernel_rfl) (by kernel_rfl) (fun _ _ _ h => h.elim) (.inl ⟨by kernel_rfl, fun w hw => by clear hw; go_simp⟩) (by assumption) ?_
                  (try simp only [Act.put, List.getElem_toArray, List.getElem_cons_zero, List.setIfInBounds_toArray, List.set_cons_zero, List.set_cons_succ])
                  refine wpAnyH_take (i := 1) (v := .pointer (some ⟨wr.heap.size, 0, none⟩)) rfl (by kernel_rfl) (by kernel_rfl) (by kernel_rfl) (fun _ _ _ h => h.elim) (.inl ⟨by kernel_rfl, fun w hw => by clear hw; go_simp⟩) (by assumption) ?_
                  (try simp only [Act.put, List.getElem_toArray, List.getElem_cons_succ, List.getElem_cons_zero, List.setIfInBounds_toArray, List.set_cons_zero, List.set_cons_succ])
                  refine wpAnyH_take (i := 2) (v := .string s) rfl (by kernel_rfl) (by kernel_rfl) (by kernel_rfl) (fun _ _ _ h => h.elim) (.inl ⟨by kernel_rfl, fun w h => by have hw := h.1; clear h; go_simp⟩) (by assumption) ?_
                  (try simp only [Act.put, List.getElem_toArray, List.getElem_cons_succ, List.getElem_cons_zero, List.setIfInBounds_toArray, List.set_cons_zero, List.set_cons_succ])
                  refine wpAnyH_take (i := 3) (v := .pointer (some ⟨wr.heap.size, 1, none⟩)) rfl (by kernel_rfl) (by kernel_rfl) (by kernel_rfl) (fun _ _ _ h => h.elim) (.inl ⟨by kernel_rfl, fun w hw => by clear hw; go_simp⟩) (by assumption) ?_
                  (try simp only [Act.put, List.getElem_toArray, List.getElem_cons_succ, List.getElem_cons_zero, List.setIfInBounds_toArray, List.set_cons_zero, List.set_cons_succ])
                  refine wpAnyH_take (i := 4) (v := .string t) rfl (by kernel_rfl) (by kernel_rfl) (by kernel_rfl) (fun _ _ _ h => h.elim) (.inl ⟨by kernel_rfl, fun w h => by have hw := h.2.1; clear h; go_simp⟩) (by assumption) ?_
                  (try simp only [Act.put, List.getElem_toArray, List.getElem_cons_succ, List.getElem_cons_zero, List.setIfInBounds_toArray, List.set_cons_zero, List.set_cons_succ])
                  refine wpAnyH_take (i := 5) (v := .pointer (some ⟨wr.heap.size, 2, none⟩)) rfl (by kernel_rfl) (by kernel_rfl) (by kernel_rfl) (fun _ _ _ h => h.elim) (.inl ⟨by kernel_rfl, fun w hw => by clear hw; go_simp⟩) (by assumption) ?_
                  (try simp only [Act.put, List.getElem_toArray, List.getElem_cons_succ, List.getElem_cons_zero, List.setIfInBounds_toArray, List.set_cons_zero, List.set_cons_succ])
                  refine wpAnyH_take (i := 6) (v := .int .i64 q) rfl (by kernel_rfl) (by kernel_rfl) (by kernel_rfl) (fun _ _ _ h => h.elim) (.inl ⟨by kernel_rfl, fun w h => by have hw := h.2.2.1; clear h; go_simp⟩) (by assumption) ?_
                  (try simp only [Act.put, List.getElem_toArray, List.getElem_cons_succ, List.getElem_cons_zero, List.setIfInBounds_toArray, List.set_cons_zero, List.set_cons_succ])
                  refine wpAnyH_take (i := 8) (v := .slice (some ⟨lb, lo, none⟩) n c) rfl (by kernel_rfl) (by kernel_rfl) (by kernel_rfl) (fun _ _ _ h => h.elim) (.inl ⟨by kernel_rfl, fun w hw => by clear hw; go_simp⟩) (by assumption) ?_
                  (try simp only [Act.put, List.getElem_toArray, List.getElem_cons_succ, List.getElem_cons_zero, List.setIfInBounds_toArray, List.set_cons_zero, List.set_cons_succ])
                  refine wpAnyH_take (i := 9) (v := .int .i64 (i : Int)) rfl (by kernel_rfl) (by kernel_rfl) (by kernel_rfl) (fun _ _ _ h => h.elim) (.inl ⟨by kernel_rfl, fun w hw => by clear hw; go_simp⟩) (by assumption) ?_
                  (try simp only [Act.put, List.getElem_toArray, List.getElem_cons_succ, List.getElem_cons_zero, List.setIfInBounds_toArray, List.set_cons_zero, List.set_cons_succ])
                  refine wpAnyH_take (i := 10) (v := .pointer (some ⟨lb, lo + i * 15, none⟩)) rfl (by kernel_rfl) (by kernel_rfl) (by kernel_rfl) (fun _ _ _ h => h.elim) (.inl ⟨by kernel_rfl, fun w hw => by clear hw; go_simp⟩) (by assumption) ?_
                  (try simp only [Act.put, List.getElem_toArray, List.getElem_cons_succ, List.getElem_cons_zero, List.setIfInBounds_toArray, List.set_cons_zero, List.set_cons_succ])
                  refine wpAnyH_take (i := 11) (v := .agg h.cells) rfl (by kernel_rfl) (by kernel_rfl) (by kernel_rfl) (fun _ _ _ h => h.elim) (yieldsIf_load_mid (by kernel_rfl) 37 (.tmp 72) rfl lb (lo + i * 15) rfl h.cells.toList _ (fun w h => h.2.2.2) huh rfl (HSHL.out _)) (by assumption) ?_
                  (try simp only [Act.put, List.getElem_toArray, List.getElem_cons_succ, List.getElem_cons_zero, List.setIfInBounds_toArray, List.set_cons_zero, List.set_cons_succ])
                  refine wpAnyH_take (i := 12) (v := .pointer (some ⟨wr.heap.size, 0, none⟩)) rfl (by kernel_rfl) (by kernel_rfl) (by kernel_rfl) (fun _ _ _ h => h.elim) (.inl ⟨by kernel_rfl, fun w hw => by clear hw; go_simp⟩) (by assumption) ?_
                  (try simp only [Act.put, List.getElem_toArray, List.getElem_cons_succ, List.getElem_cons_zero, List.setIfInBounds_toArray, List.set_cons_zero, List.set_cons_succ])
                  refine wpAnyH_take (i := 13) (v := .string s) rfl (by kernel_rfl) (by kernel_rfl) (by kernel_rfl) (fun _ _ _ h => h.elim) (.inl ⟨by kernel_rfl, fun w h => by have hw := h.1; clear h; go_simp⟩) (by assumption) ?_
                  (try simp only [Act.put, List.getElem_toArray, List.getElem_cons_succ, List.getElem_cons_zero, List.setIfInBounds_toArray, List.set_cons_zero, List.set_cons_succ])
                  refine wpAnyH_take (i := 14) (v := .pointer (some ⟨wr.heap.size, 1, none⟩)) rfl (by kernel_rfl) (by kernel_rfl) (by kernel_rfl) (fun _ _ _ h => h.elim) (.inl ⟨by kernel_rfl, fun w hw => by clear hw; go_simp⟩) (by assumption) ?_
                  (try simp only [Act.put, List.getElem_toArray, List.getElem_cons_succ, List.getElem_cons_zero, List.setIfInBounds_toArray, List.set_cons_zero, List.set_cons_succ])
                  refine wpAnyH_take (i := 15) (v := .string t) rfl (by kernel_rfl) (by kernel_rfl) (by kernel_rfl) (fun _ _ _ h => h.elim) (.inl ⟨by kernel_rfl, fun w h => by have hw := h.2.1; clear h; go_simp⟩) (by assumption) ?_
                  (try simp only [Act.put, List.getElem_toArray, List.getElem_cons_succ, List.getElem_cons_zero, List.setIfInBounds_toArray, List.set_cons_zero, List.set_cons_succ])
                  refine wpAnyH_take (i := 16) (v := .pointer (some ⟨wr.heap.size, 2, none⟩)) rfl (by kernel_rfl) (by kernel_rfl) (by kernel_rfl) (fun _ _ _ h => h.elim) (.inl ⟨by kernel_rfl, fun w hw => by clear hw; go_simp⟩) (by assumption) ?_
                  (try simp only [Act.put, List.getElem_toArray, List.getElem_cons_succ, List.getElem_cons_zero, List.setIfInBounds_toArray, List.set_cons_zero, List.set_cons_succ])
                  refine wpAnyH_take (i := 17) (v := .int .i64 q) rfl (by kernel_rfl) (by kernel_rfl) (by kernel_rfl) (fun _ _ _ h => h.elim) (.inl ⟨by kernel_rfl, fun w h => by have hw := h.2.2.1; clear h; go_simp⟩) (by assumption) ?_
                  (try simp only [Act.put, List.getElem_toArray, List.getElem_cons_succ, List.getElem_cons_zero, List.setIfInBounds_toArray, List.set_cons_zero, List.set_cons_succ])
                  refine wpAnyH_ready (rs := [7]) (by kernel_rfl) (by simp) ?_
                  refine AllReadyH.cons rfl (fun K' hK => ?_) AllReadyH.nil
                  go_simp
                  refine (CP.out _ (HB6.out.trans (BN.out.mono HB6.out.size))).mono ?_
                  rintro e wn ⟨hbn, A1, c1, rfl, ho⟩
                  have HO1 := Lib.hid ho
                  clear ho
                  have BN := Lib.hid (BN.out.trans (hbn.mono BN.out.size))
                  clear hbn
                  refine hK.out _ _ (HST.out _ BN.out) (fun _ => ?_)
                  clear hK K'
                  (try simp only [Act.put, List.getElem_toArray, List.getElem_cons_succ, List.getElem_cons_zero, List.setIfInBounds_toArray, List.set_cons_zero, List.set_cons_succ])
                  refine wpAnyH_ready (rs := [18]) (by kernel_rfl) (by simp) ?_
                  refine AllReadyH.cons rfl (fun K' hK => ?_) AllReadyH.nil
                  go_simp
                  refine (CNB.out _ (HTV.out.below (HB6.out.trans (BN.out.mono HB6.out.size)))).mono ?_
                  rintro e wn ⟨hbn, A3, c3, rfl, ho⟩
                  have HO2 := Lib.hid ho
                  have HO1 := Lib.hid ((HO1.out.below hbn).mono hbn.size)
                  clear ho
                  have BN := Lib.hid (BN.out.trans (hbn.mono BN.out.size))
                  clear hbn
                  refine hK.out _ _ (HST.out _ BN.out) (fun _ => ?_)
                  clear hK K'
                  (try simp only [Act.put, List.getElem_toArray, List.getElem_cons_succ, List.getElem_cons_zero, List.setIfInBounds_toArray, List.set_cons_zero, List.set_cons_succ])
                  refine wpAnyH_ready (rs := [19]) (by kernel_rfl) (by simp) ?_
                  refine AllReadyH.cons rfl (fun K' hK => ?_) AllReadyH.nil
                  go_simp
                  refine (same_any A1 A3 pl.length c1 c3 pl _ rfl HPN.out HPT.out HO1.out HO2.out).mono ?_
                  rintro e wn ⟨rfl, hbn⟩
                  have BN := Lib.hid (BN.out.trans (hbn.mono BN.out.size))
                  clear hbn
                  refine hK.out _ _ (HST.out _ BN.out) (fun _ => ?_)
                  clear hK K'
                  (try simp only [Act.put, List.getElem_toArray, List.getElem_cons_succ, List.getElem_cons_zero, List.setIfInBounds_toArray, List.set_cons_zero, List.set_cons_succ])
                  refine wpAnyH_take (i := 20) (v := .bool false) rfl (by kernel_rfl) (by kernel_rfl) (by kernel_rfl) (fun _ _ _ h => h.elim) (.inl ⟨by kernel_rfl, fun w hw => by clear hw; go_simp⟩) (by assumption) ?_
                  (try simp only [Act.put, List.getElem_toArray, List.getElem_cons_succ, List.getElem_cons_zero, List.setIfInBounds_toArray, List.set_cons_zero, List.set_cons_succ])
                  refine wpAnyH_done (by kernel_rfl) ?_ _
                  refine NoPanic.normal ?_
                  have HV2 := Lib.hid (hv.out.trans ((HB6.out.trans (BN.out.mono HB6.out.size)).mono hv.out.size))
                  clear HST dd0 k1 k2 k3
                  (try clear ST0)
                  go_wp2_with fail
                  go_roundw
                  case rel => exact ⟨k + 1, by omega, by omega, by go_num, HV2⟩
                  case measure => simp [intOf]; omega
                · have k2 : (k : Int) < (n2 : Int) := by omega
                  have k3 : ¬ (k : Int) < 12 := by omega
                  have hkk : True := trivial
                  obtain ⟨w7, hw7⟩ : ∃ z, z = wr := ⟨_, rfl⟩
                  subst hw7
                  have OWN7 := Lib.hid (OWN5.out.below hv.out)
                  have HT7 := Lib.hid (HT5.out.below hv.out)
                  have HBH7 := Lib.hid (HBH5.out.below hv.out)
                  have HO7 := Lib.hid ((hv.out.block _ (lt_of_block HO5.out)).trans HO5.out)
                  have HW7 := Lib.hid (HW5.out.trans (hv.out.mono HW5.out.size))
                  have HU7 : Hid (∃ (arr : Array Value) (t : TypeId), w7.heap[gg 4]? = some (.cells arr t (0, 0))) := Lib.hid (by
                    obtain ⟨arr, t, e⟩ := HU5.out
                    exact ⟨arr, t, (hv.out.block _ (lt_of_block e)).trans e⟩)
                  have HIX7 : Hid (IX w7 b X5 L) := Lib.hid (HCO.out.keep _ _ _ _ _ HIX5.out (fun k hk => hv.out.block k (HCO.out.lt _ _ _ _ HIX5.out k hk)))
                  have CK : Hid (∀ W, Below w7.heap.size w7 W → Calls Tryz.prog 13 #[.agg own2.cells, .agg h.cells] W fun e w' => e = .returned (.bool true) ∧ Below W.heap.size W w') := Lib.hid (fun W hW => kept_true HOW.out HNN.out HCC.out HN6.out (HBH7.out.below hW) (OWN7.out.below hW) (HT7.out.below hW) HZO.out)
                  go_wp2_with fail
                  have HST : Hid (∀ X, Below w7.heap.size w7 X → X.rangeAt w3.heap.size 0 own2.cells.toList ∧ X.rangeAt lb (lo + i * 15) h.cells.toList) := Lib.hid (fun X hX => ⟨range_row0 ((hX.block _ (lt_of_block HO7.out)).trans HO7.out), HRG.out X (HW7.out.trans (hX.mono HW7.out.size))⟩)
                  have BN := Lib.hid (Below.refl w7.heap.size w7).drew
                  have ST0 := HST.out _ BN.out
                  refine wp_region_noPanic ?_
                  refine wp_region_held_drew (S := (fun w' => w'.rangeAt w3.heap.size 0 own2.cells.toList ∧ w'.rangeAt lb (lo + i * 15) h.cells.toList)) (by kernel_rfl) ST0 (fun dd0 => ?_)
                  refine wpAnyH_take (i := 0) (v := .agg own2.cells) rfl (by kernel_rfl) (by kernel_rfl) (by kernel_rfl) (fun _ _ _ h => h.elim) (yieldsIf_load_mid (by kernel_rfl) 37 (.tmp 7) rfl w3.heap.size 0 rfl own2.cells.toList _ (fun w h => h.1) huh rfl (HSHL.out _)) (by assumption) ?_
                  (try simp only [Act.put, List.getElem_toArray, List.getElem_cons_zero, List.setIfInBounds_toArray, List.set_cons_zero, List.set_cons_succ])
                  refine wpAnyH_take (i := 1) (v := .slice (some ⟨lb, lo, none⟩) n c) rfl (by kernel_rfl) (by kernel_rfl) (by kernel_rfl) (fun _ _ _ h => h.elim) (.inl ⟨by kernel_rfl, fun w hw => by clear hw; go_simp⟩) (by assumption) ?_
                  (try simp only [Act.put, List.getElem_toArray, List.getElem_cons_succ, List.getElem_cons_zero, List.setIfInBounds_toArray, List.set_cons_zero, List.set_cons_succ])
                  refine wpAnyH_take (i := 2) (v := .int .i64 (i : Int)) rfl (by kernel_rfl) (by kernel_rfl) (by kernel_rfl) (fun _ _ _ h => h.elim) (.inl ⟨by kernel_rfl, fun w hw => by clear hw; go_simp⟩) (by assumption) ?_
                  (try simp only [Act.put, List.getElem_toArray, List.getElem_cons_succ, List.getElem_cons_zero, List.setIfInBounds_toArray, List.set_cons_zero, List.set_cons_succ])
                  refine wpAnyH_take (i := 3) (v := .pointer (some ⟨lb, lo + i * 15, none⟩)) rfl (by kernel_rfl) (by kernel_rfl) (by kernel_rfl) (fun _ _ _ h => h.elim) (.inl ⟨by kernel_rfl, fun w hw => by clear hw; go_simp⟩) (by assumption) ?_
                  (try simp only [Act.put, List.getElem_toArray, List.getElem_cons_succ, List.getElem_cons_zero, List.setIfInBounds_toArray, List.set_cons_zero, List.set_cons_succ])
                  refine wpAnyH_take (i := 4) (v := .agg h.cells) rfl (by kernel_rfl) (by kernel_rfl) (by kernel_rfl) (fun _ _ _ h => h.elim) (yieldsIf_load_mid (by kernel_rfl) 37 (.tmp 86) rfl lb (lo + i * 15) rfl h.cells.toList _ (fun w h => h.2) huh rfl (HSHL.out _)) (by assumption) ?_
                  (try simp only [Act.put, List.getElem_toArray, List.getElem_cons_succ, List.getElem_cons_zero, List.setIfInBounds_toArray, List.set_cons_zero, List.set_cons_succ])
                  refine wpAnyH_ready (rs := [5]) (by kernel_rfl) (by simp) ?_
                  refine AllReadyH.cons rfl (fun K' hK => ?_) AllReadyH.nil
                  go_simp
                  refine (CK.out _ BN.out).mono ?_
                  rintro e w8 ⟨rfl, hbn⟩
                  have B8 := Lib.hid (BN.out.trans (hbn.mono BN.out.size))
                  clear hbn
                  refine hK.out _ _ (HST.out _ B8.out) (fun _ => ?_)
                  clear hK K'
                  (try simp only [Act.put, List.getElem_toArray, List.getElem_cons_succ, List.getElem_cons_zero, List.setIfInBounds_toArray, List.set_cons_zero, List.set_cons_succ])
                  refine wpAnyH_take (i := 6) (v := .bool false) rfl (by kernel_rfl) (by kernel_rfl) (by kernel_rfl) (fun _ _ _ h => h.elim) (.inl ⟨by kernel_rfl, fun w hw => by clear hw; go_simp⟩) (by assumption) ?_
                  (try simp only [Act.put, List.getElem_toArray, List.getElem_cons_succ, List.getElem_cons_zero, List.setIfInBounds_toArray, List.set_cons_zero, List.set_cons_succ])
                  refine wpAnyH_done (by kernel_rfl) ?_ _
                  refine NoPanic.normal ?_
                  clear HST dd0 ST0
                  have hs78 := B8.out.size
                  have HO8 := Lib.hid ((B8.out.block _ (lt_of_block HO7.out)).trans HO7.out)
                  have HW8 := Lib.hid (HW7.out.trans (B8.out.mono HW7.out.size))
                  have OWN8 := Lib.hid (OWN7.out.below B8.out)
                  have HIX8 : Hid (IX w8 b X5 L) := Lib.hid (HCO.out.keep _ _ _ _ _ HIX7.out (fun k hk => B8.out.block k (HCO.out.lt _ _ _ _ HIX7.out k hk)))
                  obtain ⟨ar8, t8, h8⟩ : ∃ (arr : Array Value) (t : TypeId), w8.heap[gg 4]? = some (.cells arr t (0, 0)) := by
                    obtain ⟨arr, t, e⟩ := HU7.out
                    exact ⟨arr, t, (B8.out.block _ (lt_of_block e)).trans e⟩
                  obtain ⟨sz, hsz⟩ : ∃ z, ar8.size = z := ⟨_, rfl⟩
                  obtain ⟨m4, hm4⟩ : ∃ z, own2.n 4 = z := ⟨_, rfl⟩
                  have HSZ : Hid (m4 * 6 ≤ sz) := Lib.hid (by
                    obtain ⟨q1, q2, q3, q4⟩ := OWN8.out 4 (by decide)
                    rw [hm4] at q1
                    have hfl : (L 4).flatten.length = m4 * 6 := by rw [flat_length q3.len, q1]; rfl
                    by_cases h0 : m4 = 0
                    · omega
                    · obtain ⟨b', off', hA', hb', hc'⟩ := q4 (by omega)
                      rw [HOA.out 4] at hA'
                      injection hA' with hA'
                      injection hA' with e1 e2 _
                      subst e1 e2
                      obtain ⟨v, hv⟩ : ∃ v, (L 4).flatten[m4 * 6 - 1]? = some v := ⟨_, List.getElem?_eq_getElem (by omega)⟩
                      have h9 := hc' _ _ hv
                      rw [cell_of_block h8, Nat.zero_add] at h9
                      have := (Array.getElem?_eq_some_iff.1 h9).1
                      omega)
                  have HM6 : Hid (m4 ≤ 1000) := Lib.hid (by rw [← hm4]; exact HNO.out 4 (by decide))
                  have HO4C : Hid (own2.cells[4]? = some (.slice (some ⟨gg 4, 0, none⟩) m4 (own2.c 4))) := Lib.hid (by rw [← hm4, ← HOA.out 4]; rfl)
                  have HH8 := Lib.hid h8
                  have HS8 := Lib.hid hsz
                  have hg3 : gg 4 ≠ w3.heap.size := Nat.ne_of_lt (HGL.out 4 (by decide))
                  clear h8 hsz hm4
                  go_wp2_with fail
                  go_loopw [10] (fun kv wr => ∃ k : Nat, k ≤ m4 ∧ kv = .int .i64 (k : Int) ∧ Hid (Onx (fun j => j = gg 4) w8 wr) ∧ Hid (∃ arr : Array Value, wr.heap[gg 4]? = some (.cells arr t8 (0, 0)) ∧ arr.size = sz)) (fun kv _ => m4 - (intOf kv).toNat)
                  case atStart => exact ⟨0, by omega, rfl, Lib.hid (Onx.refl _ _), Lib.hid ⟨_, HH8.out, HS8.out⟩⟩
                  case round =>
                    obtain ⟨k4, hk4, rfl, HON, HAR⟩ := hrel
                    obtain ⟨arr, har, hasz⟩ := HAR.out
                    have HOB : Hid (wr.heap[w3.heap.size]? = some (.cells own2.cells 37 (0, 0))) := Lib.hid ((HON.out.block _ (lt_of_block HO8.out) (fun e => hg3 e.symm)).trans HO8.out)
                    have d4 : wr.cell? ⟨w3.heap.size, 4, none⟩ = some (.slice (some ⟨gg 4, 0, none⟩) m4 (own2.c 4)) := by rw [cell_of_block HOB.out]; exact HO4C.out
                    have dl := lt_of_block HOB.out
                    have hm6 := HM6.out
                    have hsz6 := HSZ.out
                    by_cases hk5 : k4 < m4
                    · skip
                      have k5 : (0 : Int) ≤ (k4 : Int) := by omega
                      have k6 : (k4 : Int) < (m4 : Int) := by omega
                      obtain ⟨v0, hv0⟩ : ∃ v, arr[k4 * 6 + 4]? = some v := ⟨_, Array.getElem?_eq_getElem (by omega)⟩
                      have e4 : wr.cell? ⟨gg 4, k4 * 6 + 4, none⟩ = some v0 := by rw [cell_of_block har]; exact hv0
                      have f4 : wr.frozen? ⟨gg 4, k4 * 6 + 4, none⟩ = false := frozen_of_block har
                      have gl := lt_of_block har
                      have HON2 : Hid (Onx (fun j => j = gg 4) w8 (wr.setCell ⟨gg 4, k4 * 6 + 4, none⟩ (.int .i64 1))) := Lib.hid (HON.out.tr ⟨rfl, rfl, rfl, by simp [World.setCell], fun j _ hj => Below.heap_setCell _ _ _ _ hj⟩)
                      have HAR2 : Hid (∃ arr : Array Value, (wr.setCell ⟨gg 4, k4 * 6 + 4, none⟩ (.int .i64 1)).heap[gg 4]? = some (.cells arr t8 (0, 0)) ∧ arr.size = sz) := Lib.hid ⟨_, block_setCell har _, by simp [hasz]⟩
                      obtain ⟨wn, hwn⟩ : ∃ z, z = wr.setCell ⟨gg 4, k4 * 6 + 4, none⟩ (.int .i64 1) := ⟨_, rfl⟩
                      rw [← hwn] at HON2 HAR2
                      have HWN := Lib.hid hwn
                      clear hwn hv0 har hasz
                      go_wp2_with fail
                      rw [← HWN.out]
                      go_roundw
                      case rel => exact ⟨k4 + 1, by omega, by go_num, HON2, HAR2⟩
                      case measure => simp [intOf]; omega
                    · skip
                      have k6 : ¬ (k4 : Int) < (m4 : Int) := by omega
                      obtain ⟨w9, hw9⟩ : ∃ z, z = wr := ⟨_, rfl⟩
                      subst hw9
                      have HW9 : Hid (Below w.heap.size w w9) := Lib.hid (HW8.out.trans (HON.out.to_below HW8.out.size (fun j hj _ => by have h5 := (HGU.out 4 (by decide)).1; have h6 := HW2.out.size; omega)))
                      have HT9 : Hid (HT h L w9) := Lib.hid (HI.out.ht HSM.out HW9.out)
                      have HIX9 : Hid (IX w9 b X5 L) := Lib.hid (HCO.out.keep _ _ _ _ _ HIX8.out (fun k hk => HON.out.block k (HCO.out.lt _ _ _ _ HIX8.out k hk) (HXG.out k hk).1))
                      go_wp2_with fail
                      clear d4 dl k6
                      go_loopw [11] (fun kv wr => ∃ k : Nat, k ≤ n2 ∧ k ≤ 12 ∧ kv = .int .i64 (k : Int) ∧ Hid (Below w9.heap.size w9 wr)) (fun kv _ => 12 - (intOf kv).toNat)
                      case atStart => exact ⟨0, by omega, by omega, rfl, Lib.hid (Below.refl _ _)⟩
                      case round =>
                        obtain ⟨k, hk, hk12, rfl, hv⟩ := hrel
                        by_cases hkl : k < n2
                        · by_cases hk1 : k < 12
                          · skip
                            obtain ⟨ab, ao, s, t, q, rfl, hab, hra, ht9, hwq⟩ := ask_at HAK.out hkl
                            have HVW : Hid (Below w.heap.size w wr) := Lib.hid (HW9.out.trans (hv.out.mono HW9.out.size))
                            have HRA : Hid (wr.rangeAt ab (ao + k * 3) [.string s, .string t, .int .i64 q]) := Lib.hid (rangeAt_below hra hab HVW.out)
                            have habl : ab < wr.heap.size := Nat.lt_of_lt_of_le hab HVW.out.size
                            have HRH : Hid (wr.rangeAt lb (lo + i * 15) h.cells.toList) := Lib.hid (HRG.out _ HVW.out)
                            have HTV : Hid (HT h L wr) := Lib.hid (HT9.out.below hv.out)
                            have HIXV : Hid (IX wr b X5 L) := Lib.hid (HCO.out.keep _ _ _ _ _ HIX9.out (fun k hk => hv.out.block k (HCO.out.lt _ _ _ _ HIX9.out k hk)))
                            obtain ⟨pl, hpl⟩ : ∃ r, pickL L s t q = r := ⟨_, rfl⟩
                            have HPT : Hid (Things kTake pl) := Lib.hid (by rw [← hpl]; exact things_pick L s t q)
                            have HPN : Hid (pl.length ≤ 1000000) := Lib.hid (by rw [← hpl]; refine Nat.le_trans (pick_len L s t q) ?_; rw [← (HTV.out 4 (by decide)).1]; exact Nat.le_trans (HN.out 4 (by decide)) (by decide))
                            have CP : Hid (∀ W, Below wr.heap.size wr W → Calls Tryz.prog 16 #[.pointer (some ⟨b, 0, none⟩), .string s, .string t, .int .i64 q] W (TakesP pl W)) := Lib.hid (fun W hW => by rw [← hpl]; exact HCO.out.pick L b X5 s t q W (HCO.out.keep _ _ _ _ _ HIXV.out (fun k hk => hW.block k (HCO.out.lt _ _ _ _ HIXV.out k hk))) ht9 hwq)
                            have CNB : Hid (∀ W, HT h L W → Calls Tryz.prog 10 #[.agg h.cells, .string s, .string t, .int .i64 q] W (TakesP pl W)) := Lib.hid (fun W hW => by rw [← hpl]; exact rnaive_any h L s t q W hW (HN.out 4 (by decide)) hwq)
                            have k1 : (0 : Int) ≤ (k : Int) := by omega
                            have k2 : (k : Int) < (n2 : Int) := by omega
                            have k3 : (k : Int) < 12 := by omega
                            clear hpl hab hra ht9 hwq
                            have HQ6 : Hid ((wr.alloc (.cells #[.string ⟨#[]⟩, .string ⟨#[]⟩, .int .i64 0] 39)).heap[wr.heap.size]? = some (.cells #[.string ⟨#[]⟩, .string ⟨#[]⟩, .int .i64 0] 39 (0, 0))) := Lib.hid (heap_alloc_new _ _)
                            obtain ⟨w6, hw6⟩ : ∃ w', w' = (wr.alloc (.cells #[.string ⟨#[]⟩, .string ⟨#[]⟩, .int .i64 0] 39)).setRow wr.heap.size #[.string s, .string t, .int .i64 q] := ⟨_, rfl⟩
                            have HB6 : Hid (Below wr.heap.size wr w6) := Lib.hid (by rw [hw6]; exact setRow_below ((Below.refl _ _).alloc (Nat.le_refl _) _) (Nat.le_refl _) _)
                            have HA6 : Hid (w6.heap[wr.heap.size]? = some (.cells #[.string s, .string t, .int .i64 q] 39 (0, 0))) := Lib.hid (by rw [hw6]; exact setRow_heap _ _ _ _ _ _ HQ6.out)
                            have HSA3 : Hid ((Tryz.prog.info? 39).map (·.size) = some (#[.string s, .string t, .int .i64 q] : Array Value).size) := Lib.hid (by kernel_rfl)
                            have HWE6 := Lib.hid hw6
                            clear hw6
                            go_wp2_with (first
                              | (refine wpList_load_mid rfl 39 (.tmp 114) rfl ab (ao + k * 3) rfl [.string s, .string t, .int .i64 q] _ HRA.out hua rfl HSA.out ?_)
                              | (refine wpList_store_row rfl 39 (.tmp 12) (.tmp 115) rfl wr.heap.size #[.string s, .string t, .int .i64 q] rfl rfl _ _ HQ6.out HSA3.out rfl (by simp [Value.oneCell']) ?_; rw [← HWE6.out])
                              | fail)
                            have HST : Hid (∀ X, Below w6.heap.size w6 X → X.cell? ⟨wr.heap.size, 0, none⟩ = some (.string s) ∧ X.cell? ⟨wr.heap.size, 1, none⟩ = some (.string t) ∧ X.cell? ⟨wr.heap.size, 2, none⟩ = some (.int .i64 q) ∧ X.rangeAt lb (lo + i * 15) h.cells.toList) := Lib.hid (fun X hX => ⟨by rw [cell_of_block ((hX.block _ (lt_of_block HA6.out)).trans HA6.out)]; rfl, by rw [cell_of_block ((hX.block _ (lt_of_block HA6.out)).trans HA6.out)]; rfl, by rw [cell_of_block ((hX.block _ (lt_of_block HA6.out)).trans HA6.out)]; rfl, HRG.out X (HVW.out.trans ((HB6.out.trans (hX.mono HB6.out.size)).mono HVW.out.size))⟩)
                            have BN := Lib.hid (Below.refl w6.heap.size w6).drew
                            have ST0 := HST.out _ BN.out
                            refine wp_region_noPanic ?_
                            refine wp_region_held_drew (S := (fun w' => w'.cell? ⟨wr.heap.size, 0, none⟩ = some (.string s) ∧ w'.cell? ⟨wr.heap.size, 1, none⟩ = some (.string t) ∧ w'.cell? ⟨wr.heap.size, 2, none⟩ = some (.int .i64 q) ∧ w'.rangeAt lb (lo + i * 15) h.cells.toList)) (by kernel_rfl) ST0 (fun dd0 => ?_)
                            refine wpAnyH_take (i := 0) (v := .pointer (some ⟨b, 0, none⟩)) rfl (by kernel_rfl) (by kernel_rfl) (by kernel_rfl) (fun _ _ _ h => h.elim) (.inl ⟨by kernel_rfl, fun w hw => by clear hw; go_simp⟩) (by assumption) ?_
                            (try simp only [Act.put, List.getElem_toArray, List.getElem_cons_zero, List.setIfInBounds_toArray, List.set_cons_zero, List.set_cons_succ])
                            refine wpAnyH_take (i := 1) (v := .pointer (some ⟨wr.heap.size, 0, none⟩)) rfl (by kernel_rfl) (by kernel_rfl) (by kernel_rfl) (fun _ _ _ h => h.elim) (.inl ⟨by kernel_rfl, fun w hw => by clear hw; go_simp⟩) (by assumption) ?_
                            (try simp only [Act.put, List.getElem_toArray, List.getElem_cons_succ, List.getElem_cons_zero, List.setIfInBounds_toArray, List.set_cons_zero, List.set_cons_succ])
                            refine wpAnyH_take (i := 2) (v := .string s) rfl (by kernel_rfl) (by kernel_rfl) (by kernel_rfl) (fun _ _ _ h => h.elim) (.inl ⟨by kernel_rfl, fun w h => by have hw := h.1; clear h; go_simp⟩) (by assumption) ?_
                            (try simp only [Act.put, List.getElem_toArray, List.getElem_cons_succ, List.getElem_cons_zero, List.setIfInBounds_toArray, List.set_cons_zero, List.set_cons_succ])
                            refine wpAnyH_take (i := 3) (v := .pointer (some ⟨wr.heap.size, 1, none⟩)) rfl (by kernel_rfl) (by kernel_rfl) (by kernel_rfl) (fun _ _ _ h => h.elim) (.inl ⟨by kernel_rfl, fun w hw => by clear hw; go_simp⟩) (by assumption) ?_
                            (try simp only [Act.put, List.getElem_toArray, List.getElem_cons_succ, List.getElem_cons_zero, List.setIfInBounds_toArray, List.set_cons_zero, List.set_cons_succ])
                            refine wpAnyH_take (i := 4) (v := .string t) rfl (by kernel_rfl) (by kernel_rfl) (by kernel_rfl) (fun _ _ _ h => h.elim) (.inl ⟨by kernel_rfl, fun w h => by have hw := h.2.1; clear h; go_simp⟩) (by assumption) ?_
                            (try simp only [Act.put, List.getElem_toArray, List.getElem_cons_succ, List.getElem_cons_zero, List.setIfInBounds_toArray, List.set_cons_zero, List.set_cons_succ])
                            refine wpAnyH_take (i := 5) (v := .pointer (some ⟨wr.heap.size, 2, none⟩)) rfl (by kernel_rfl) (by kernel_rfl) (by kernel_rfl) (fun _ _ _ h => h.elim) (.inl ⟨by kernel_rfl, fun w hw => by clear hw; go_simp⟩) (by assumption) ?_
                            (try simp only [Act.put, List.getElem_toArray, List.getElem_cons_succ, List.getElem_cons_zero, List.setIfInBounds_toArray, List.set_cons_zero, List.set_cons_succ])
                            refine wpAnyH_take (i := 6) (v := .int .i64 q) rfl (by kernel_rfl) (by kernel_rfl) (by kernel_rfl) (fun _ _ _ h => h.elim) (.inl ⟨by kernel_rfl, fun w h => by have hw := h.2.2.1; clear h; go_simp⟩) (by assumption) ?_
                            (try simp only [Act.put, List.getElem_toArray, List.getElem_cons_succ, List.getElem_cons_zero, List.setIfInBounds_toArray, List.set_cons_zero, List.set_cons_succ])
                            refine wpAnyH_take (i := 8) (v := .slice (some ⟨lb, lo, none⟩) n c) rfl (by kernel_rfl) (by kernel_rfl) (by kernel_rfl) (fun _ _ _ h => h.elim) (.inl ⟨by kernel_rfl, fun w hw => by clear hw; go_simp⟩) (by assumption) ?_
                            (try simp only [Act.put, List.getElem_toArray, List.getElem_cons_succ, List.getElem_cons_zero, List.setIfInBounds_toArray, List.set_cons_zero, List.set_cons_succ])
                            refine wpAnyH_take (i := 9) (v := .int .i64 (i : Int)) rfl (by kernel_rfl) (by kernel_rfl) (by kernel_rfl) (fun _ _ _ h => h.elim) (.inl ⟨by kernel_rfl, fun w hw => by clear hw; go_simp⟩) (by assumption) ?_
                            (try simp only [Act.put, List.getElem_toArray, List.getElem_cons_succ, List.getElem_cons_zero, List.setIfInBounds_toArray, List.set_cons_zero, List.set_cons_succ])
                            refine wpAnyH_take (i := 10) (v := .pointer (some ⟨lb, lo + i * 15, none⟩)) rfl (by kernel_rfl) (by kernel_rfl) (by kernel_rfl) (fun _ _ _ h => h.elim) (.inl ⟨by kernel_rfl, fun w hw => by clear hw; go_simp⟩) (by assumption) ?_
                            (try simp only [Act.put, List.getElem_toArray, List.getElem_cons_succ, List.getElem_cons_zero, List.setIfInBounds_toArray, List.set_cons_zero, List.set_cons_succ])
                            refine wpAnyH_take (i := 11) (v := .agg h.cells) rfl (by kernel_rfl) (by kernel_rfl) (by kernel_rfl) (fun _ _ _ h => h.elim) (yieldsIf_load_mid (by kernel_rfl) 37 (.tmp 126) rfl lb (lo + i * 15) rfl h.cells.toList _ (fun w h => h.2.2.2) huh rfl (HSHL.out _)) (by assumption) ?_
                            (try simp only [Act.put, List.getElem_toArray, List.getElem_cons_succ, List.getElem_cons_zero, List.setIfInBounds_toArray, List.set_cons_zero, List.set_cons_succ])
                            refine wpAnyH_take (i := 12) (v := .pointer (some ⟨wr.heap.size, 0, none⟩)) rfl (by kernel_rfl) (by kernel_rfl) (by kernel_rfl) (fun _ _ _ h => h.elim) (.inl ⟨by kernel_rfl, fun w hw => by clear hw; go_simp⟩) (by assumption) ?_
                            (try simp only [Act.put, List.getElem_toArray, List.getElem_cons_succ, List.getElem_cons_zero, List.setIfInBounds_toArray, List.set_cons_zero, List.set_cons_succ])
                            refine wpAnyH_take (i := 13) (v := .string s) rfl (by kernel_rfl) (by kernel_rfl) (by kernel_rfl) (fun _ _ _ h => h.elim) (.inl ⟨by kernel_rfl, fun w h => by have hw := h.1; clear h; go_simp⟩) (by assumption) ?_
                            (try simp only [Act.put, List.getElem_toArray, List.getElem_cons_succ, List.getElem_cons_zero, List.setIfInBounds_toArray, List.set_cons_zero, List.set_cons_succ])
                            refine wpAnyH_take (i := 14) (v := .pointer (some ⟨wr.heap.size, 1, none⟩)) rfl (by kernel_rfl) (by kernel_rfl) (by kernel_rfl) (fun _ _ _ h => h.elim) (.inl ⟨by kernel_rfl, fun w hw => by clear hw; go_simp⟩) (by assumption) ?_
                            (try simp only [Act.put, List.getElem_toArray, List.getElem_cons_succ, List.getElem_cons_zero, List.setIfInBounds_toArray, List.set_cons_zero, List.set_cons_succ])
                            refine wpAnyH_take (i := 15) (v := .string t) rfl (by kernel_rfl) (by kernel_rfl) (by kernel_rfl) (fun _ _ _ h => h.elim) (.inl ⟨by kernel_rfl, fun w h => by have hw := h.2.1; clear h; go_simp⟩) (by assumption) ?_
                            (try simp only [Act.put, List.getElem_toArray, List.getElem_cons_succ, List.getElem_cons_zero, List.setIfInBounds_toArray, List.set_cons_zero, List.set_cons_succ])
                            refine wpAnyH_take (i := 16) (v := .pointer (some ⟨wr.heap.size, 2, none⟩)) rfl (by kernel_rfl) (by kernel_rfl) (by kernel_rfl) (fun _ _ _ h => h.elim) (.inl ⟨by kernel_rfl, fun w hw => by clear hw; go_simp⟩) (by assumption) ?_
                            (try simp only [Act.put, List.getElem_toArray, List.getElem_cons_succ, List.getElem_cons_zero, List.setIfInBounds_toArray, List.set_cons_zero, List.set_cons_succ])
                            refine wpAnyH_take (i := 17) (v := .int .i64 q) rfl (by kernel_rfl) (by kernel_rfl) (by kernel_rfl) (fun _ _ _ h => h.elim) (.inl ⟨by kernel_rfl, fun w h => by have hw := h.2.2.1; clear h; go_simp⟩) (by assumption) ?_
                            (try simp only [Act.put, List.getElem_toArray, List.getElem_cons_succ, List.getElem_cons_zero, List.setIfInBounds_toArray, List.set_cons_zero, List.set_cons_succ])
                            refine wpAnyH_ready (rs := [7]) (by kernel_rfl) (by simp) ?_
                            refine AllReadyH.cons rfl (fun K' hK => ?_) AllReadyH.nil
                            go_simp
                            refine (CP.out _ (HB6.out.trans (BN.out.mono HB6.out.size))).mono ?_
                            rintro e wn ⟨hbn, A1, c1, rfl, ho⟩
                            have HO1 := Lib.hid ho
                            clear ho
                            have BN := Lib.hid (BN.out.trans (hbn.mono BN.out.size))
                            clear hbn
                            refine hK.out _ _ (HST.out _ BN.out) (fun _ => ?_)
                            clear hK K'
                            (try simp only [Act.put, List.getElem_toArray, List.getElem_cons_succ, List.getElem_cons_zero, List.setIfInBounds_toArray, List.set_cons_zero, List.set_cons_succ])
                            refine wpAnyH_ready (rs := [18]) (by kernel_rfl) (by simp) ?_
                            refine AllReadyH.cons rfl (fun K' hK => ?_) AllReadyH.nil
                            go_simp
                            refine (CNB.out _ (HTV.out.below (HB6.out.trans (BN.out.mono HB6.out.size)))).mono ?_
                            rintro e wn ⟨hbn, A3, c3, rfl, ho⟩
                            have HO2 := Lib.hid ho
                            have HO1 := Lib.hid ((HO1.out.below hbn).mono hbn.size)
                            clear ho
                            have BN := Lib.hid (BN.out.trans (hbn.mono BN.out.size))
                            clear hbn
                            refine hK.out _ _ (HST.out _ BN.out) (fun _ => ?_)
                            clear hK K'
                            (try simp only [Act.put, List.getElem_toArray, List.getElem_cons_succ, List.getElem_cons_zero, List.setIfInBounds_toArray, List.set_cons_zero, List.set_cons_succ])
                            refine wpAnyH_ready (rs := [19]) (by kernel_rfl) (by simp) ?_
                            refine AllReadyH.cons rfl (fun K' hK => ?_) AllReadyH.nil
                            go_simp
                            refine (same_any A1 A3 pl.length c1 c3 pl _ rfl HPN.out HPT.out HO1.out HO2.out).mono ?_
                            rintro e wn ⟨rfl, hbn⟩
                            have BN := Lib.hid (BN.out.trans (hbn.mono BN.out.size))
                            clear hbn
                            refine hK.out _ _ (HST.out _ BN.out) (fun _ => ?_)
                            clear hK K'
                            (try simp only [Act.put, List.getElem_toArray, List.getElem_cons_succ, List.getElem_cons_zero, List.setIfInBounds_toArray, List.set_cons_zero, List.set_cons_succ])
                            refine wpAnyH_take (i := 20) (v := .bool false) rfl (by kernel_rfl) (by kernel_rfl) (by kernel_rfl) (fun _ _ _ h => h.elim) (.inl ⟨by kernel_rfl, fun w hw => by clear hw; go_simp⟩) (by assumption) ?_
                            (try simp only [Act.put, List.getElem_toArray, List.getElem_cons_succ, List.getElem_cons_zero, List.setIfInBounds_toArray, List.set_cons_zero, List.set_cons_succ])
                            refine wpAnyH_done (by kernel_rfl) ?_ _
                            refine NoPanic.normal ?_
                            have HV2 := Lib.hid (hv.out.trans ((HB6.out.trans (BN.out.mono HB6.out.size)).mono hv.out.size))
                            clear HST dd0 k1 k2 k3
                            (try clear ST0)
                            go_wp2_with fail
                            go_roundw
                            case rel => exact ⟨k + 1, by omega, by omega, by go_num, HV2⟩
                            case measure => simp [intOf]; omega
                          · have k2 : (k : Int) < (n2 : Int) := by omega
                            have k3 : ¬ (k : Int) < 12 := by omega
                            have HWE := Lib.hid (HW9.out.trans (hv.out.mono HW9.out.size))
                            have HIXE : Hid (IX wr b X5 L) := Lib.hid (HCO.out.keep _ _ _ _ _ HIX9.out (fun k hk => hv.out.block k (HCO.out.lt _ _ _ _ HIX9.out k hk)))
                            go_wp2_with fail
                            go_roundw
                            case rel => exact ⟨i + 1, X5, L, by omega, by omega, by go_num, HIXE, HX5, HWE⟩
                            case measure => simp [intOf]; omega
                        · have k2 : ¬ (k : Int) < (n2 : Int) := by omega
                          have HWE := Lib.hid (HW9.out.trans (hv.out.mono HW9.out.size))
                          have HIXE : Hid (IX wr b X5 L) := Lib.hid (HCO.out.keep _ _ _ _ _ HIX9.out (fun k hk => hv.out.block k (HCO.out.lt _ _ _ _ HIX9.out k hk)))
                          go_wp2_with fail
                          go_roundw
                          case rel => exact ⟨i + 1, X5, L, by omega, by omega, by go_num, HIXE, HX5, HWE⟩
                          case measure => simp [intOf]; omega
              · have k2 : ¬ (k : Int) < (n2 : Int) := by omega
                have hkk : True := trivial
                obtain ⟨w7, hw7⟩ : ∃ z, z = wr := ⟨_, rfl⟩
                subst hw7
                have OWN7 := Lib.hid (OWN5.out.below hv.out)
                have HT7 := Lib.hid (HT5.out.below hv.out)
                have HBH7 := Lib.hid (HBH5.out.below hv.out)
                have HO7 := Lib.hid ((hv.out.block _ (lt_of_block HO5.out)).trans HO5.out)
                have HW7 := Lib.hid (HW5.out.trans (hv.out.mono HW5.out.size))
                have HU7 : Hid (∃ (arr : Array Value) (t : TypeId), w7.heap[gg 4]? = some (.cells arr t (0, 0))) := Lib.hid (by
                  obtain ⟨arr, t, e⟩ := HU5.out
                  exact ⟨arr, t, (hv.out.block _ (lt_of_block e)).trans e⟩)
                have HIX7 : Hid (IX w7 b X5 L) := Lib.hid (HCO.out.keep _ _ _ _ _ HIX5.out (fun k hk => hv.out.block k (HCO.out.lt _ _ _ _ HIX5.out k hk)))
                have CK : Hid (∀ W, Below w7.heap.size w7 W → Calls Tryz.prog 13 #[.agg own2.cells, .agg h.cells] W fun e w' => e = .returned (.bool true) ∧ Below W.heap.size W w') := Lib.hid (fun W hW => kept_true HOW.out HNN.out HCC.out HN6.out (HBH7.out.below hW) (OWN7.out.below hW) (HT7.out.below hW) HZO.out)
                go_wp2_with fail
                have HST : Hid (∀ X, Below w7.heap.size w7 X → X.rangeAt w3.heap.size 0 own2.cells.toList ∧ X.rangeAt lb (lo + i * 15) h.cells.toList) := Lib.hid (fun X hX => ⟨range_row0 ((hX.block _ (lt_of_block HO7.out)).trans HO7.out), HRG.out X (HW7.out.trans (hX.mono HW7.out.size))⟩)
                have BN := Lib.hid (Below.refl w7.heap.size w7).drew
                have ST0 := HST.out _ BN.out
                refine wp_region_noPanic ?_
                refine wp_region_held_drew (S := (fun w' => w'.rangeAt w3.heap.size 0 own2.cells.toList ∧ w'.rangeAt lb (lo + i * 15) h.cells.toList)) (by kernel_rfl) ST0 (fun dd0 => ?_)
                refine wpAnyH_take (i := 0) (v := .agg own2.cells) rfl (by kernel_rfl) (by kernel_rfl) (by kernel_rfl) (fun _ _ _ h => h.elim) (yieldsIf_load_mid (by kernel_rfl) 37 (.tmp 7) rfl w3.heap.size 0 rfl own2.cells.toList _ (fun w h => h.1) huh rfl (HSHL.out _)) (by assumption) ?_
                (try simp only [Act.put, List.getElem_toArray, List.getElem_cons_zero, List.setIfInBounds_toArray, List.set_cons_zero, List.set_cons_succ])
                refine wpAnyH_take (i := 1) (v := .slice (some ⟨lb, lo, none⟩) n c) rfl (by kernel_rfl) (by kernel_rfl) (by kernel_rfl) (fun _ _ _ h => h.elim) (.inl ⟨by kernel_rfl, fun w hw => by clear hw; go_simp⟩) (by assumption) ?_
                (try simp only [Act.put, List.getElem_toArray, List.getElem_cons_succ, List.getElem_cons_zero, List.setIfInBounds_toArray, List.set_cons_zero, List.set_cons_succ])
                refine wpAnyH_take (i := 2) (v := .int .i64 (i : Int)) rfl (by kernel_rfl) (by kernel_rfl) (by kernel_rfl) (fun _ _ _ h => h.elim) (.inl ⟨by kernel_rfl, fun w hw => by clear hw; go_simp⟩) (by assumption) ?_
                (try simp only [Act.put, List.getElem_toArray, List.getElem_cons_succ, List.getElem_cons_zero, List.setIfInBounds_toArray, List.set_cons_zero, List.set_cons_succ])
                refine wpAnyH_take (i := 3) (v := .pointer (some ⟨lb, lo + i * 15, none⟩)) rfl (by kernel_rfl) (by kernel_rfl) (by kernel_rfl) (fun _ _ _ h => h.elim) (.inl ⟨by kernel_rfl, fun w hw => by clear hw; go_simp⟩) (by assumption) ?_
                (try simp only [Act.put, List.getElem_toArray, List.getElem_cons_succ, List.getElem_cons_zero, List.setIfInBounds_toArray, List.set_cons_zero, List.set_cons_succ])
                refine wpAnyH_take (i := 4) (v := .agg h.cells) rfl (by kernel_rfl) (by kernel_rfl) (by kernel_rfl) (fun _ _ _ h => h.elim) (yieldsIf_load_mid (by kernel_rfl) 37 (.tmp 86) rfl lb (lo + i * 15) rfl h.cells.toList _ (fun w h => h.2) huh rfl (HSHL.out _)) (by assumption) ?_
                (try simp only [Act.put, List.getElem_toArray, List.getElem_cons_succ, List.getElem_cons_zero, List.setIfInBounds_toArray, List.set_cons_zero, List.set_cons_succ])
                refine wpAnyH_ready (rs := [5]) (by kernel_rfl) (by simp) ?_
                refine AllReadyH.cons rfl (fun K' hK => ?_) AllReadyH.nil
                go_simp
                refine (CK.out _ BN.out).mono ?_
                rintro e w8 ⟨rfl, hbn⟩
                have B8 := Lib.hid (BN.out.trans (hbn.mono BN.out.size))
                clear hbn
                refine hK.out _ _ (HST.out _ B8.out) (fun _ => ?_)
                clear hK K'
                (try simp only [Act.put, List.getElem_toArray, List.getElem_cons_succ, List.getElem_cons_zero, List.setIfInBounds_toArray, List.set_cons_zero, List.set_cons_succ])
                refine wpAnyH_take (i := 6) (v := .bool false) rfl (by kernel_rfl) (by kernel_rfl) (by kernel_rfl) (fun _ _ _ h => h.elim) (.inl ⟨by kernel_rfl, fun w hw => by clear hw; go_simp⟩) (by assumption) ?_
                (try simp only [Act.put, List.getElem_toArray, List.getElem_cons_succ, List.getElem_cons_zero, List.setIfInBounds_toArray, List.set_cons_zero, List.set_cons_succ])
                refine wpAnyH_done (by kernel_rfl) ?_ _
                refine NoPanic.normal ?_
                clear HST dd0 ST0
                have hs78 := B8.out.size
                have HO8 := Lib.hid ((B8.out.block _ (lt_of_block HO7.out)).trans HO7.out)
                have HW8 := Lib.hid (HW7.out.trans (B8.out.mono HW7.out.size))
                have OWN8 := Lib.hid (OWN7.out.below B8.out)
                have HIX8 : Hid (IX w8 b X5 L) := Lib.hid (HCO.out.keep _ _ _ _ _ HIX7.out (fun k hk => B8.out.block k (HCO.out.lt _ _ _ _ HIX7.out k hk)))
                obtain ⟨ar8, t8, h8⟩ : ∃ (arr : Array Value) (t : TypeId), w8.heap[gg 4]? = some (.cells arr t (0, 0)) := by
                  obtain ⟨arr, t, e⟩ := HU7.out
                  exact ⟨arr, t, (B8.out.block _ (lt_of_block e)).trans e⟩
                obtain ⟨sz, hsz⟩ : ∃ z, ar8.size = z := ⟨_, rfl⟩
                obtain ⟨m4, hm4⟩ : ∃ z, own2.n 4 = z := ⟨_, rfl⟩
                have HSZ : Hid (m4 * 6 ≤ sz) := Lib.hid (by
                  obtain ⟨q1, q2, q3, q4⟩ := OWN8.out 4 (by decide)
                  rw [hm4] at q1
                  have hfl : (L 4).flatten.length = m4 * 6 := by rw [flat_length q3.len, q1]; rfl
                  by_cases h0 : m4 = 0
                  · omega
                  · obtain ⟨b', off', hA', hb', hc'⟩ := q4 (by omega)
                    rw [HOA.out 4] at hA'
                    injection hA' with hA'
                    injection hA' with e1 e2 _
                    subst e1 e2
                    obtain ⟨v, hv⟩ : ∃ v, (L 4).flatten[m4 * 6 - 1]? = some v := ⟨_, List.getElem?_eq_getElem (by omega)⟩
                    have h9 := hc' _ _ hv
                    rw [cell_of_block h8, Nat.zero_add] at h9
                    have := (Array.getElem?_eq_some_iff.1 h9).1
                    omega)
                have HM6 : Hid (m4 ≤ 1000) := Lib.hid (by rw [← hm4]; exact HNO.out 4 (by decide))
                have HO4C : Hid (own2.cells[4]? = some (.slice (some ⟨gg 4, 0, none⟩) m4 (own2.c 4))) := Lib.hid (by rw [← hm4, ← HOA.out 4]; rfl)
                have HH8 := Lib.hid h8
                have HS8 := Lib.hid hsz
                have hg3 : gg 4 ≠ w3.heap.size := Nat.ne_of_lt (HGL.out 4 (by decide))
                clear h8 hsz hm4
                go_wp2_with fail
                go_loopw [10] (fun kv wr => ∃ k : Nat, k ≤ m4 ∧ kv = .int .i64 (k : Int) ∧ Hid (Onx (fun j => j = gg 4) w8 wr) ∧ Hid (∃ arr : Array Value, wr.heap[gg 4]? = some (.cells arr t8 (0, 0)) ∧ arr.size = sz)) (fun kv _ => m4 - (intOf kv).toNat)
                case atStart => exact ⟨0, by omega, rfl, Lib.hid (Onx.refl _ _), Lib.hid ⟨_, HH8.out, HS8.out⟩⟩
                case round =>
                  obtain ⟨k4, hk4, rfl, HON, HAR⟩ := hrel
                  obtain ⟨arr, har, hasz⟩ := HAR.out
                  have HOB : Hid (wr.heap[w3.heap.size]? = some (.cells own2.cells 37 (0, 0))) := Lib.hid ((HON.out.block _ (lt_of_block HO8.out) (fun e => hg3 e.symm)).trans HO8.out)
                  have d4 : wr.cell? ⟨w3.heap.size, 4, none⟩ = some (.slice (some ⟨gg 4, 0, none⟩) m4 (own2.c 4)) := by rw [cell_of_block HOB.out]; exact HO4C.out
                  have dl := lt_of_block HOB.out
                  have hm6 := HM6.out
                  have hsz6 := HSZ.out
                  by_cases hk5 : k4 < m4
                  · skip
                    have k5 : (0 : Int) ≤ (k4 : Int) := by omega
                    have k6 : (k4 : Int) < (m4 : Int) := by omega
                    obtain ⟨v0, hv0⟩ : ∃ v, arr[k4 * 6 + 4]? = some v := ⟨_, Array.getElem?_eq_getElem (by omega)⟩
                    have e4 : wr.cell? ⟨gg 4, k4 * 6 + 4, none⟩ = some v0 := by rw [cell_of_block har]; exact hv0
                    have f4 : wr.frozen? ⟨gg 4, k4 * 6 + 4, none⟩ = false := frozen_of_block har
                    have gl := lt_of_block har
                    have HON2 : Hid (Onx (fun j => j = gg 4) w8 (wr.setCell ⟨gg 4, k4 * 6 + 4, none⟩ (.int .i64 1))) := Lib.hid (HON.out.tr ⟨rfl, rfl, rfl, by simp [World.setCell], fun j _ hj => Below.heap_setCell _ _ _ _ hj⟩)
                    have HAR2 : Hid (∃ arr : Array Value, (wr.setCell ⟨gg 4, k4 * 6 + 4, none⟩ (.int .i64 1)).heap[gg 4]? = some (.cells arr t8 (0, 0)) ∧ arr.size = sz) := Lib.hid ⟨_, block_setCell har _, by simp [hasz]⟩
                    obtain ⟨wn, hwn⟩ : ∃ z, z = wr.setCell ⟨gg 4, k4 * 6 + 4, none⟩ (.int .i64 1) := ⟨_, rfl⟩
                    rw [← hwn] at HON2 HAR2
                    have HWN := Lib.hid hwn
                    clear hwn hv0 har hasz
                    go_wp2_with fail
                    rw [← HWN.out]
                    go_roundw
                    case rel => exact ⟨k4 + 1, by omega, by go_num, HON2, HAR2⟩
                    case measure => simp [intOf]; omega
                  · skip
                    have k6 : ¬ (k4 : Int) < (m4 : Int) := by omega
                    obtain ⟨w9, hw9⟩ : ∃ z, z = wr := ⟨_, rfl⟩
                    subst hw9
                    have HW9 : Hid (Below w.heap.size w w9) := Lib.hid (HW8.out.trans (HON.out.to_below HW8.out.size (fun j hj _ => by have h5 := (HGU.out 4 (by decide)).1; have h6 := HW2.out.size; omega)))
                    have HT9 : Hid (HT h L w9) := Lib.hid (HI.out.ht HSM.out HW9.out)
                    have HIX9 : Hid (IX w9 b X5 L) := Lib.hid (HCO.out.keep _ _ _ _ _ HIX8.out (fun k hk => HON.out.block k (HCO.out.lt _ _ _ _ HIX8.out k hk) (HXG.out k hk).1))
                    go_wp2_with fail
                    clear d4 dl k6
                    go_loopw [11] (fun kv wr => ∃ k : Nat, k ≤ n2 ∧ k ≤ 12 ∧ kv = .int .i64 (k : Int) ∧ Hid (Below w9.heap.size w9 wr)) (fun kv _ => 12 - (intOf kv).toNat)
                    case atStart => exact ⟨0, by omega, by omega, rfl, Lib.hid (Below.refl _ _)⟩
                    case round =>
                      obtain ⟨k, hk, hk12, rfl, hv⟩ := hrel
                      by_cases hkl : k < n2
                      · by_cases hk1 : k < 12
                        · skip
                          obtain ⟨ab, ao, s, t, q, rfl, hab, hra, ht9, hwq⟩ := ask_at HAK.out hkl
                          have HVW : Hid (Below w.heap.size w wr) := Lib.hid (HW9.out.trans (hv.out.mono HW9.out.size))
                          have HRA : Hid (wr.rangeAt ab (ao + k * 3) [.string s, .string t, .int .i64 q]) := Lib.hid (rangeAt_below hra hab HVW.out)
                          have habl : ab < wr.heap.size := Nat.lt_of_lt_of_le hab HVW.out.size
                          have HRH : Hid (wr.rangeAt lb (lo + i * 15) h.cells.toList) := Lib.hid (HRG.out _ HVW.out)
                          have HTV : Hid (HT h L wr) := Lib.hid (HT9.out.below hv.out)
                          have HIXV : Hid (IX wr b X5 L) := Lib.hid (HCO.out.keep _ _ _ _ _ HIX9.out (fun k hk => hv.out.block k (HCO.out.lt _ _ _ _ HIX9.out k hk)))
                          obtain ⟨pl, hpl⟩ : ∃ r, pickL L s t q = r := ⟨_, rfl⟩
                          have HPT : Hid (Things kTake pl) := Lib.hid (by rw [← hpl]; exact things_pick L s t q)
                          have HPN : Hid (pl.length ≤ 1000000) := Lib.hid (by rw [← hpl]; refine Nat.le_trans (pick_len L s t q) ?_; rw [← (HTV.out 4 (by decide)).1]; exact Nat.le_trans (HN.out 4 (by decide)) (by decide))
                          have CP : Hid (∀ W, Below wr.heap.size wr W → Calls Tryz.prog 16 #[.pointer (some ⟨b, 0, none⟩), .string s, .string t, .int .i64 q] W (TakesP pl W)) := Lib.hid (fun W hW => by rw [← hpl]; exact HCO.out.pick L b X5 s t q W (HCO.out.keep _ _ _ _ _ HIXV.out (fun k hk => hW.block k (HCO.out.lt _ _ _ _ HIXV.out k hk))) ht9 hwq)
                          have CNB : Hid (∀ W, HT h L W → Calls Tryz.prog 10 #[.agg h.cells, .string s, .string t, .int .i64 q] W (TakesP pl W)) := Lib.hid (fun W hW => by rw [← hpl]; exact rnaive_any h L s t q W hW (HN.out 4 (by decide)) hwq)
                          have k1 : (0 : Int) ≤ (k : Int) := by omega
                          have k2 : (k : Int) < (n2 : Int) := by omega
                          have k3 : (k : Int) < 12 := by omega
                          clear hpl hab hra ht9 hwq
                          have HQ6 : Hid ((wr.alloc (.cells #[.string ⟨#[]⟩, .string ⟨#[]⟩, .int .i64 0] 39)).heap[wr.heap.size]? = some (.cells #[.string ⟨#[]⟩, .string ⟨#[]⟩, .int .i64 0] 39 (0, 0))) := Lib.hid (heap_alloc_new _ _)
                          obtain ⟨w6, hw6⟩ : ∃ w', w' = (wr.alloc (.cells #[.string ⟨#[]⟩, .string ⟨#[]⟩, .int .i64 0] 39)).setRow wr.heap.size #[.string s, .string t, .int .i64 q] := ⟨_, rfl⟩
                          have HB6 : Hid (Below wr.heap.size wr w6) := Lib.hid (by rw [hw6]; exact setRow_below ((Below.refl _ _).alloc (Nat.le_refl _) _) (Nat.le_refl _) _)
                          have HA6 : Hid (w6.heap[wr.heap.size]? = some (.cells #[.string s, .string t, .int .i64 q] 39 (0, 0))) := Lib.hid (by rw [hw6]; exact setRow_heap _ _ _ _ _ _ HQ6.out)
                          have HSA3 : Hid ((Tryz.prog.info? 39).map (·.size) = some (#[.string s, .string t, .int .i64 q] : Array Value).size) := Lib.hid (by kernel_rfl)
                          have HWE6 := Lib.hid hw6
                          clear hw6
                          go_wp2_with (first
                            | (refine wpList_load_mid rfl 39 (.tmp 114) rfl ab (ao + k * 3) rfl [.string s, .string t, .int .i64 q] _ HRA.out hua rfl HSA.out ?_)
                            | (refine wpList_store_row rfl 39 (.tmp 12) (.tmp 115) rfl wr.heap.size #[.string s, .string t, .int .i64 q] rfl rfl _ _ HQ6.out HSA3.out rfl (by simp [Value.oneCell']) ?_; rw [← HWE6.out])
                            | fail)
                          have HST : Hid (∀ X, Below w6.heap.size w6 X → X.cell? ⟨wr.heap.size, 0, none⟩ = some (.string s) ∧ X.cell? ⟨wr.heap.size, 1, none⟩ = some (.string t) ∧ X.cell? ⟨wr.heap.size, 2, none⟩ = some (.int .i64 q) ∧ X.rangeAt lb (lo + i * 15) h.cells.toList) := Lib.hid (fun X hX => ⟨by rw [cell_of_block ((hX.block _ (lt_of_block HA6.out)).trans HA6.out)]; rfl, by rw [cell_of_block ((hX.block _ (lt_of_block HA6.out)).trans HA6.out)]; rfl, by rw [cell_of_block ((hX.block _ (lt_of_block HA6.out)).trans HA6.out)]; rfl, HRG.out X (HVW.out.trans ((HB6.out.trans (hX.mono HB6.out.size)).mono HVW.out.size))⟩)
                          have BN := Lib.hid (Below.refl w6.heap.size w6).drew
                          have ST0 := HST.out _ BN.out
                          refine wp_region_noPanic ?_
                          refine wp_region_held_drew (S := (fun w' => w'.cell? ⟨wr.heap.size, 0, none⟩ = some (.string s) ∧ w'.cell? ⟨wr.heap.size, 1, none⟩ = some (.string t) ∧ w'.cell? ⟨wr.heap.size, 2, none⟩ = some (.int .i64 q) ∧ w'.rangeAt lb (lo + i * 15) h.cells.toList)) (by kernel_rfl) ST0 (fun dd0 => ?_)
                          refine wpAnyH_take (i := 0) (v := .pointer (some ⟨b, 0, none⟩)) rfl (by kernel_rfl) (by kernel_rfl) (by kernel_rfl) (fun _ _ _ h => h.elim) (.inl ⟨by kernel_rfl, fun w hw => by clear hw; go_simp⟩) (by assumption) ?_
                          (try simp only [Act.put, List.getElem_toArray, List.getElem_cons_zero, List.setIfInBounds_toArray, List.set_cons_zero, List.set_cons_succ])
                          refine wpAnyH_take (i := 1) (v := .pointer (some ⟨wr.heap.size, 0, none⟩)) rfl (by kernel_rfl) (by kernel_rfl) (by kernel_rfl) (fun _ _ _ h => h.elim) (.inl ⟨by kernel_rfl, fun w hw => by clear hw; go_simp⟩) (by assumption) ?_
                          (try simp only [Act.put, List.getElem_toArray, List.getElem_cons_succ, List.getElem_cons_zero, List.setIfInBounds_toArray, List.set_cons_zero, List.set_cons_succ])
                          refine wpAnyH_take (i := 2) (v := .string s) rfl (by kernel_rfl) (by kernel_rfl) (by kernel_rfl) (fun _ _ _ h => h.elim) (.inl ⟨by kernel_rfl, fun w h => by have hw := h.1; clear h; go_simp⟩) (by assumption) ?_
                          (try simp only [Act.put, List.getElem_toArray, List.getElem_cons_succ, List.getElem_cons_zero, List.setIfInBounds_toArray, List.set_cons_zero, List.set_cons_succ])
                          refine wpAnyH_take (i := 3) (v := .pointer (some ⟨wr.heap.size, 1, none⟩)) rfl (by kernel_rfl) (by kernel_rfl) (by kernel_rfl) (fun _ _ _ h => h.elim) (.inl ⟨by kernel_rfl, fun w hw => by clear hw; go_simp⟩) (by assumption) ?_
                          (try simp only [Act.put, List.getElem_toArray, List.getElem_cons_succ, List.getElem_cons_zero, List.setIfInBounds_toArray, List.set_cons_zero, List.set_cons_succ])
                          refine wpAnyH_take (i := 4) (v := .string t) rfl (by kernel_rfl) (by kernel_rfl) (by kernel_rfl) (fun _ _ _ h => h.elim) (.inl ⟨by kernel_rfl, fun w h => by have hw := h.2.1; clear h; go_simp⟩) (by assumption) ?_
                          (try simp only [Act.put, List.getElem_toArray, List.getElem_cons_succ, List.getElem_cons_zero, List.setIfInBounds_toArray, List.set_cons_zero, List.set_cons_succ])
                          refine wpAnyH_take (i := 5) (v := .pointer (some ⟨wr.heap.size, 2, none⟩)) rfl (by kernel_rfl) (by kernel_rfl) (by kernel_rfl) (fun _ _ _ h => h.elim) (.inl ⟨by kernel_rfl, fun w hw => by clear hw; go_simp⟩) (by assumption) ?_
                          (try simp only [Act.put, List.getElem_toArray, List.getElem_cons_succ, List.getElem_cons_zero, List.setIfInBounds_toArray, List.set_cons_zero, List.set_cons_succ])
                          refine wpAnyH_take (i := 6) (v := .int .i64 q) rfl (by kernel_rfl) (by kernel_rfl) (by kernel_rfl) (fun _ _ _ h => h.elim) (.inl ⟨by kernel_rfl, fun w h => by have hw := h.2.2.1; clear h; go_simp⟩) (by assumption) ?_
                          (try simp only [Act.put, List.getElem_toArray, List.getElem_cons_succ, List.getElem_cons_zero, List.setIfInBounds_toArray, List.set_cons_zero, List.set_cons_succ])
                          refine wpAnyH_take (i := 8) (v := .slice (some ⟨lb, lo, none⟩) n c) rfl (by kernel_rfl) (by kernel_rfl) (by kernel_rfl) (fun _ _ _ h => h.elim) (.inl ⟨by kernel_rfl, fun w hw => by clear hw; go_simp⟩) (by assumption) ?_
                          (try simp only [Act.put, List.getElem_toArray, List.getElem_cons_succ, List.getElem_cons_zero, List.setIfInBounds_toArray, List.set_cons_zero, List.set_cons_succ])
                          refine wpAnyH_take (i := 9) (v := .int .i64 (i : Int)) rfl (by kernel_rfl) (by kernel_rfl) (by kernel_rfl) (fun _ _ _ h => h.elim) (.inl ⟨by kernel_rfl, fun w hw => by clear hw; go_simp⟩) (by assumption) ?_
                          (try simp only [Act.put, List.getElem_toArray, List.getElem_cons_succ, List.getElem_cons_zero, List.setIfInBounds_toArray, List.set_cons_zero, List.set_cons_succ])
                          refine wpAnyH_take (i := 10) (v := .pointer (some ⟨lb, lo + i * 15, none⟩)) rfl (by kernel_rfl) (by kernel_rfl) (by kernel_rfl) (fun _ _ _ h => h.elim) (.inl ⟨by kernel_rfl, fun w hw => by clear hw; go_simp⟩) (by assumption) ?_
                          (try simp only [Act.put, List.getElem_toArray, List.getElem_cons_succ, List.getElem_cons_zero, List.setIfInBounds_toArray, List.set_cons_zero, List.set_cons_succ])
                          refine wpAnyH_take (i := 11) (v := .agg h.cells) rfl (by kernel_rfl) (by kernel_rfl) (by kernel_rfl) (fun _ _ _ h => h.elim) (yieldsIf_load_mid (by kernel_rfl) 37 (.tmp 126) rfl lb (lo + i * 15) rfl h.cells.toList _ (fun w h => h.2.2.2) huh rfl (HSHL.out _)) (by assumption) ?_
                          (try simp only [Act.put, List.getElem_toArray, List.getElem_cons_succ, List.getElem_cons_zero, List.setIfInBounds_toArray, List.set_cons_zero, List.set_cons_succ])
                          refine wpAnyH_take (i := 12) (v := .pointer (some ⟨wr.heap.size, 0, none⟩)) rfl (by kernel_rfl) (by kernel_rfl) (by kernel_rfl) (fun _ _ _ h => h.elim) (.inl ⟨by kernel_rfl, fun w hw => by clear hw; go_simp⟩) (by assumption) ?_
                          (try simp only [Act.put, List.getElem_toArray, List.getElem_cons_succ, List.getElem_cons_zero, List.setIfInBounds_toArray, List.set_cons_zero, List.set_cons_succ])
                          refine wpAnyH_take (i := 13) (v := .string s) rfl (by kernel_rfl) (by kernel_rfl) (by kernel_rfl) (fun _ _ _ h => h.elim) (.inl ⟨by kernel_rfl, fun w h => by have hw := h.1; clear h; go_simp⟩) (by assumption) ?_
                          (try simp only [Act.put, List.getElem_toArray, List.getElem_cons_succ, List.getElem_cons_zero, List.setIfInBounds_toArray, List.set_cons_zero, List.set_cons_succ])
                          refine wpAnyH_take (i := 14) (v := .pointer (some ⟨wr.heap.size, 1, none⟩)) rfl (by kernel_rfl) (by kernel_rfl) (by kernel_rfl) (fun _ _ _ h => h.elim) (.inl ⟨by kernel_rfl, fun w hw => by clear hw; go_simp⟩) (by assumption) ?_
                          (try simp only [Act.put, List.getElem_toArray, List.getElem_cons_succ, List.getElem_cons_zero, List.setIfInBounds_toArray, List.set_cons_zero, List.set_cons_succ])
                          refine wpAnyH_take (i := 15) (v := .string t) rfl (by kernel_rfl) (by kernel_rfl) (by kernel_rfl) (fun _ _ _ h => h.elim) (.inl ⟨by kernel_rfl, fun w h => by have hw := h.2.1; clear h; go_simp⟩) (by assumption) ?_
                          (try simp only [Act.put, List.getElem_toArray, List.getElem_cons_succ, List.getElem_cons_zero, List.setIfInBounds_toArray, List.set_cons_zero, List.set_cons_succ])
                          refine wpAnyH_take (i := 16) (v := .pointer (some ⟨wr.heap.size, 2, none⟩)) rfl (by kernel_rfl) (by kernel_rfl) (by kernel_rfl) (fun _ _ _ h => h.elim) (.inl ⟨by kernel_rfl, fun w hw => by clear hw; go_simp⟩) (by assumption) ?_
                          (try simp only [Act.put, List.getElem_toArray, List.getElem_cons_succ, List.getElem_cons_zero, List.setIfInBounds_toArray, List.set_cons_zero, List.set_cons_succ])
                          refine wpAnyH_take (i := 17) (v := .int .i64 q) rfl (by kernel_rfl) (by kernel_rfl) (by kernel_rfl) (fun _ _ _ h => h.elim) (.inl ⟨by kernel_rfl, fun w h => by have hw := h.2.2.1; clear h; go_simp⟩) (by assumption) ?_
                          (try simp only [Act.put, List.getElem_toArray, List.getElem_cons_succ, List.getElem_cons_zero, List.setIfInBounds_toArray, List.set_cons_zero, List.set_cons_succ])
                          refine wpAnyH_ready (rs := [7]) (by kernel_rfl) (by simp) ?_
                          refine AllReadyH.cons rfl (fun K' hK => ?_) AllReadyH.nil
                          go_simp
                          refine (CP.out _ (HB6.out.trans (BN.out.mono HB6.out.size))).mono ?_
                          rintro e wn ⟨hbn, A1, c1, rfl, ho⟩
                          have HO1 := Lib.hid ho
                          clear ho
                          have BN := Lib.hid (BN.out.trans (hbn.mono BN.out.size))
                          clear hbn
                          refine hK.out _ _ (HST.out _ BN.out) (fun _ => ?_)
                          clear hK K'
                          (try simp only [Act.put, List.getElem_toArray, List.getElem_cons_succ, List.getElem_cons_zero, List.setIfInBounds_toArray, List.set_cons_zero, List.set_cons_succ])
                          refine wpAnyH_ready (rs := [18]) (by kernel_rfl) (by simp) ?_
                          refine AllReadyH.cons rfl (fun K' hK => ?_) AllReadyH.nil
                          go_simp
                          refine (CNB.out _ (HTV.out.below (HB6.out.trans (BN.out.mono HB6.out.size)))).mono ?_
                          rintro e wn ⟨hbn, A3, c3, rfl, ho⟩
                          have HO2 := Lib.hid ho
                          have HO1 := Lib.hid ((HO1.out.below hbn).mono hbn.size)
                          clear ho
                          have BN := Lib.hid (BN.out.trans (hbn.mono BN.out.size))
                          clear hbn
                          refine hK.out _ _ (HST.out _ BN.out) (fun _ => ?_)
                          clear hK K'
                          (try simp only [Act.put, List.getElem_toArray, List.getElem_cons_succ, List.getElem_cons_zero, List.setIfInBounds_toArray, List.set_cons_zero, List.set_cons_succ])
                          refine wpAnyH_ready (rs := [19]) (by kernel_rfl) (by simp) ?_
                          refine AllReadyH.cons rfl (fun K' hK => ?_) AllReadyH.nil
                          go_simp
                          refine (same_any A1 A3 pl.length c1 c3 pl _ rfl HPN.out HPT.out HO1.out HO2.out).mono ?_
                          rintro e wn ⟨rfl, hbn⟩
                          have BN := Lib.hid (BN.out.trans (hbn.mono BN.out.size))
                          clear hbn
                          refine hK.out _ _ (HST.out _ BN.out) (fun _ => ?_)
                          clear hK K'
                          (try simp only [Act.put, List.getElem_toArray, List.getElem_cons_succ, List.getElem_cons_zero, List.setIfInBounds_toArray, List.set_cons_zero, List.set_cons_succ])
                          refine wpAnyH_take (i := 20) (v := .bool false) rfl (by kernel_rfl) (by kernel_rfl) (by kernel_rfl) (fun _ _ _ h => h.elim) (.inl ⟨by kernel_rfl, fun w hw => by clear hw; go_simp⟩) (by assumption) ?_
                          (try simp only [Act.put, List.getElem_toArray, List.getElem_cons_succ, List.getElem_cons_zero, List.setIfInBounds_toArray, List.set_cons_zero, List.set_cons_succ])
                          refine wpAnyH_done (by kernel_rfl) ?_ _
                          refine NoPanic.normal ?_
                          have HV2 := Lib.hid (hv.out.trans ((HB6.out.trans (BN.out.mono HB6.out.size)).mono hv.out.size))
                          clear HST dd0 k1 k2 k3
                          (try clear ST0)
                          go_wp2_with fail
                          go_roundw
                          case rel => exact ⟨k + 1, by omega, by omega, by go_num, HV2⟩
                          case measure => simp [intOf]; omega
                        · have k2 : (k : Int) < (n2 : Int) := by omega
                          have k3 : ¬ (k : Int) < 12 := by omega
                          have HWE := Lib.hid (HW9.out.trans (hv.out.mono HW9.out.size))
                          have HIXE : Hid (IX wr b X5 L) := Lib.hid (HCO.out.keep _ _ _ _ _ HIX9.out (fun k hk => hv.out.block k (HCO.out.lt _ _ _ _ HIX9.out k hk)))
                          go_wp2_with fail
                          go_roundw
                          case rel => exact ⟨i + 1, X5, L, by omega, by omega, by go_num, HIXE, HX5, HWE⟩
                          case measure => simp [intOf]; omega
                      · have k2 : ¬ (k : Int) < (n2 : Int) := by omega
                        have HWE := Lib.hid (HW9.out.trans (hv.out.mono HW9.out.size))
                        have HIXE : Hid (IX wr b X5 L) := Lib.hid (HCO.out.keep _ _ _ _ _ HIX9.out (fun k hk => hv.out.block k (HCO.out.lt _ _ _ _ HIX9.out k hk)))
                        go_wp2_with fail
                        go_roundw
                        case rel => exact ⟨i + 1, X5, L, by omega, by omega, by go_num, HIXE, HX5, HWE⟩
                        case measure => simp [intOf]; omega
      · have h2 : (i : Int) < (n : Int) := by omega
        have h3 : ¬ (i : Int) < 12 := by omega
        go_wp2_with fail
        refine (HAW.out _).mono ?_
        rintro e wz ⟨rfl, hbz⟩
        have BZ := Lib.hid (HW.out.trans (hbz.mono HW.out.size))
        clear hbz
        go_wp2_with fail
        go_ret
        exact ⟨rfl, BZ.out⟩
    · have h2 : ¬ (i : Int) < (n : Int) := by omega
      go_wp2_with fail
      refine (HAW.out _).mono ?_
      rintro e wz ⟨rfl, hbz⟩
      have BZ := Lib.hid (HW.out.trans (hbz.mono HW.out.size))
      clear hbz
      go_wp2_with fail
      go_ret
      exact ⟨rfl, BZ.out⟩
theorem walk {IX : World → Nat → (Nat → Prop) → (Nat → List (List Value)) → Prop} (C : ConsX IX) (A : Option Addr) (n c : Nat) (hs : Nat → Hs) (Ls : Nat → Nat → List (List Value)) (A2 : Option Addr) (n2 c2 : Nat) (LA : List (List Value)) (w : World) (h1 : n ≤ c) (h2 : c ≤ 9223372036854775807) (hin : ∀ i, i < n → HIn (hs i) (Ls i) w) (hr : ∀ i, i < n → ∃ b off, A = some ⟨b, off, none⟩ ∧ b < w.heap.size ∧ w.rangeAt b (off + i * 15) (hs i).cells.toList) (ha : LIn kAsk w (.slice A2 n2 c2) A2 n2 c2 LA) :
    Calls Tryz.prog 4 #[.slice A n c, .slice A2 n2 c2] w fun e w' => e = .returned (.bool true) ∧ Below w.heap.size w w' :=
  walk0 C A A2 n c n2 c2 hs Ls LA w hin hr (Nat.le_trans h1 h2) ha (Nat.le_trans ha.2.2.1 ha.2.2.2.1)
end Go.Proofs.YtnkhnbpopdmkhaaGreat.indexFollows
