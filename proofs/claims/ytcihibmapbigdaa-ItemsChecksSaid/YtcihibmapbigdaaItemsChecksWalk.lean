/-
  THE LAW ItemsChecks, over the contracts.
-/
import Derived.Test.YtcihibmapbigdaaIAwake
import Derived.Test.YtcihibmapbigdaaIRCheck
namespace Go.Proofs.Ytcihibmapbigdaa.itemsChecks
set_option linter.unusedVariables false
open Go.RowKit
open Pl (It)

theorem chE_any (x : It) : Pl.chE x = 0 ∨ Pl.chE x = 3 ∨ Pl.chE x = 4 ∨ Pl.chE x = 5 ∨ Pl.chE x = 11 ∨ Pl.chE x = 21 := by
  have hu : ∀ i, Pl.uE x i = 0 ∨ Pl.uE x i = 3 ∨ Pl.uE x i = 4 ∨ Pl.uE x i = 5 ∨ Pl.uE x i = 11 := fun i => by
    unfold Pl.uE
    have := Pl.nmE_any (x.nm i)
    split
    · split <;> simp
    · split
      · omega
      · split
        · simp
        · split <;> simp
  have h0 := hu 0
  have h1 := hu 1
  have h2 := hu 2
  have h3 := hu 3
  have hn := Pl.nmE_any x.code
  unfold Pl.chE
  split
  · omega
  · split
    · unfold Pl.unE
      split
      · omega
      · split
        · omega
        · split
          · omega
          · omega
    · unfold Pl.meE
      split
      · simp
      · split <;> simp
/-- What an item that may be kept is like. -/
structure Kept (x : It) : Prop where
  c1 : 1 ≤ x.code.size
  c2 : x.code.size ≤ 12
  v1 : 0 ≤ x.vol
  v2 : x.vol ≤ 1000000
  w1 : 0 ≤ x.wei
  w2 : x.wei ≤ 1000000
  s : (x.serial && !x.lots) = false
  u : ∀ i, i < 4 → ((x.nm i).size = 0 ∧ x.fc i = 0) ∨ (1 ≤ (x.nm i).size ∧ (x.nm i).size ≤ 12 ∧ Pl.eqv (x.nm i) Pl.each = false ∧ 2 ≤ x.fc i ∧ x.fc i ≤ 1000000 ∧ ∀ k, k < i → Pl.eqv (x.nm k) (x.nm i) = false)
theorem kept_of {x : It} (h : Pl.chE x = 0) : Kept x := by
  unfold Pl.chE at h
  split at h
  · omega
  · rename_i hn
    split at h
    · omega
    · rename_i hu
      have hn' := Pl.nmE_zero (s := x.code) (by omega)
      have hu' := Pl.unE_all (x := x) (by omega)
      unfold Pl.meE at h
      split at h
      · omega
      · rename_i hm
        split at h
        · omega
        · rename_i hs
          refine ⟨hn'.1, hn'.2, by omega, by omega, by omega, by omega, by simpa using hs, fun i hi => ?_⟩
          have := hu' i hi
          unfold Pl.uE at this
          split at this
          · rename_i hz
            split at this
            · rename_i hf; exact .inl ⟨hz, hf⟩
            · omega
          · split at this
            · omega
            · rename_i hz hnn
              split at this
              · omega
              · rename_i hd
                split at this
                · omega
                · rename_i hf
                  have hnz := Pl.nmE_zero (s := x.nm i) (by omega)
                  refine .inr ⟨hnz.1, hnz.2, ?_, by omega, by omega, fun k hk => ?_⟩
                  · cases he : Pl.eqv (x.nm i) Pl.each
                    · rfl
                    · exact absurd (.inl he) hd
                  · cases he : Pl.eqv (x.nm k) (x.nm i)
                    · rfl
                    · exact absurd (.inr (any_at hk he)) hd

set_option maxRecDepth 100000 in
theorem walk (cs : List Value) (w : World) (hf : Fits kItem cs) (hm : ∀ u ∈ cs, Mild u) :
    Calls Try.prog 5 #[.agg cs.toArray] w fun e w' => e = .returned (.bool true) ∧ Below w.heap.size w w' := by
  obtain ⟨x, rfl⟩ := It.of hf
  have HOK := Lib.hid (It.ok_of hm)
  obtain ⟨W0, hW0⟩ : ∃ W0, W0 = w.alloc (.cells x.cells.toArray 42) := ⟨_, rfl⟩
  have HB0 : Hid (Below w.heap.size w W0) := Lib.hid (by rw [hW0]; exact (Below.refl _ _).alloc (Nat.le_refl _) _)
  have HS0 : Hid (W0.heap.size = w.heap.size + 1) := Lib.hid (by rw [hW0]; simp)
  have HX0 : Hid (W0.heap[w.heap.size]? = some (.cells x.cells.toArray 42 (0, 0))) := Lib.hid (by rw [hW0]; exact heap_alloc_new _ _)
  have HSZ : Hid ((Try.prog.info? 42).map (·.size) = some x.cells.toArray.size) := Lib.hid (by rw [show (Try.prog.info? 42).map (·.size) = some 14 from by kernel_rfl]; rfl)
  have hui := Try.underlying42
  obtain ⟨k, hk⟩ : ∃ k, Pl.chE x = k := ⟨_, rfl⟩
  have HC1 : Hid (∀ W, Calls Try.prog 16 #[.agg x.cells.toArray] W fun e w' => e = .returned (.int .i64 k) ∧ Below W.heap.size W w') := Lib.hid (fun W => by rw [← hk]; exact check_any x HOK.out W)
  have hany := chE_any x
  rw [hk] at hany
  have HK := Lib.hid hk
  clear hf hm hk
  subst hW0
  by_cases h0 : k = 0
  · subst h0
    have HKE := Lib.hid (kept_of HK.out)
    clear hany
    go_enter Try.func5, Try.ntmps5
    go_wp2_with (first
      | (refine wpList_load_row rfl 42 (.tmp 1) rfl w.heap.size rfl _ _ _ _ HX0.out hui rfl HSZ.out ?_)
      | fail)
    refine (HC1.out _).mono ?_
    rintro e w1 ⟨rfl, hb1⟩
    have HX1 := Lib.hid ((hb1.block _ (lt_of_block HX0.out)).trans HX0.out)
    have HB1 := Lib.hid (HB0.out.trans (hb1.mono HB0.out.size))
    clear hb1
    have K := HKE.out
    obtain ⟨s, hs⟩ : ∃ s, x.code = s := ⟨_, rfl⟩
    obtain ⟨v, hv⟩ : ∃ s, x.vol = s := ⟨_, rfl⟩
    obtain ⟨g, hg⟩ : ∃ s, x.wei = s := ⟨_, rfl⟩
    obtain ⟨lb, hlb⟩ : ∃ s, x.lots = s := ⟨_, rfl⟩
    obtain ⟨sb, hsb⟩ : ∃ s, x.serial = s := ⟨_, rfl⟩
    have c0 : w1.cell? ⟨w.heap.size, 0, none⟩ = some (.string s) := by rw [← hs]; exact (cell_of_block HX1.out).trans rfl
    have c9 : w1.cell? ⟨w.heap.size, 9, none⟩ = some (.int .i64 v) := by rw [← hv]; exact (cell_of_block HX1.out).trans rfl
    have c10 : w1.cell? ⟨w.heap.size, 10, none⟩ = some (.int .i64 g) := by rw [← hg]; exact (cell_of_block HX1.out).trans rfl
    have c11 : w1.cell? ⟨w.heap.size, 11, none⟩ = some (.bool lb) := by rw [← hlb]; exact (cell_of_block HX1.out).trans rfl
    have c12 : w1.cell? ⟨w.heap.size, 12, none⟩ = some (.bool sb) := by rw [← hsb]; exact (cell_of_block HX1.out).trans rfl
    have a1 : (1 : Int) ≤ (s.size : Int) := by have := K.c1; rw [hs] at this; omega
    have a2 : (s.size : Int) ≤ 12 := by have := K.c2; rw [hs] at this; omega
    have a3 : 0 ≤ v := by have := K.v1; rw [hv] at this; omega
    have a4 : v ≤ 1000000 := by have := K.v2; rw [hv] at this; omega
    have a5 : 0 ≤ g := by have := K.w1; rw [hg] at this; omega
    have a6 : g ≤ 1000000 := by have := K.w2; rw [hg] at this; omega
    have hsl : sb = false ∨ (sb = true ∧ lb = true) := by have := K.s; rw [hsb, hlb] at this; cases sb <;> cases lb <;> simp_all
    clear K hs hv hg hlb hsb
    obtain ⟨W1, hW1⟩ : ∃ W1, W1 = w1 := ⟨_, rfl⟩
    rcases hsl with rfl | ⟨rfl, rfl⟩
    all_goals
      go_wp2_with fail
      go_loopw [4, 5] (fun g i wr => ∃ j : Nat, j ≤ 4 ∧ i = .int .i64 (j : Int) ∧ g = .bool true ∧ Hid (Below w1.heap.size w1 wr)) (fun _ i _ => 4 - (intOf i).toNat)
      case atStart => exact ⟨0, by omega, rfl, rfl, Lib.hid (Below.refl _ _)⟩
      case round =>
        obtain ⟨j, hj, rfl, rfl, hbel⟩ := hrel
        by_cases hlt : j < 4
        · have HXR : Hid (wr.heap[w.heap.size]? = some (.cells x.cells.toArray 42 (0, 0))) := Lib.hid ((hbel.out.block _ (lt_of_block HX1.out)).trans HX1.out)
          obtain ⟨d0, d1⟩ := box_units HXR.out j hlt
          have hu := HKE.out.u j hlt
          obtain ⟨q, hq⟩ : ∃ q, x.nm j = q := ⟨_, rfl⟩
          obtain ⟨z, hz⟩ : ∃ z, x.fc j = z := ⟨_, rfl⟩
          rw [hq] at d0
          rw [hz] at d1
          rw [hq, hz] at hu
          have HQ := Lib.hid hq
          clear hq hz
          have hBA : Hid (Below w1.heap.size w1 (wr.alloc (.cells #[.string q, .int .i64 z] 39))) := Lib.hid (hbel.out.alloc hbel.out.size _)
          rcases hu with ⟨h0, rfl⟩ | ⟨h1, h2, h3, h4, h5, h6⟩
          · have hE := empty_yes h0
            clear h0 c0 c9 c10 c11 c12
            go_wp2_with fail
            go_roundw
            case rel => exact ⟨j + 1, by omega, by go_num, rfl, hBA⟩
            case measure => simp [intOf]; omega
          · have hE := empty_no (s := q) (by omega)
            have h2' : (q.size : Int) ≤ 12 := by omega
            have he' : (q.toList == [101, 97, 99, 104]) = false := by have h := h3; unfold Pl.eqv at h; rwa [show Pl.each.toList = [101, 97, 99, 104] from by rw [ByteArray.toList_eq]] at h
            have H6 := Lib.hid h6
            clear h1 h2 h3 h6 c0 c9 c10 c11 c12
            go_wp2_with fail
            have HU : Hid (∀ W, Below (wr.heap.size + 1) (wr.alloc (.cells #[.string q, .int .i64 z] 39)) W → W.cell? ⟨wr.heap.size, 0, none⟩ = some (.string q)) := Lib.hid (fun W hW => (hW.cell (p := ⟨wr.heap.size, 0, none⟩) (by simp)).trans (by simp [go_sem]))
            have HAL : Hid (∀ W, Below (wr.heap.size + 1) (wr.alloc (.cells #[.string q, .int .i64 z] 39)) W → Below w1.heap.size w1 W) := Lib.hid (fun W h => hBA.out.trans (h.mono (by have := hbel.out.size; omega)))
            have HXA : Hid (∀ W, Below (wr.heap.size + 1) (wr.alloc (.cells #[.string q, .int .i64 z] 39)) W → W.heap[w.heap.size]? = some (.cells x.cells.toArray 42 (0, 0))) := Lib.hid (fun W h => ((HAL.out W h).block _ (lt_of_block HX1.out)).trans HX1.out)
            go_loopw [4, 7] (fun g i wi => ∃ k : Nat, k ≤ j ∧ i = .int .i64 (k : Int) ∧ g = .bool true ∧ Hid (Below (wr.heap.size + 1) (wr.alloc (.cells #[.string q, .int .i64 z] 39)) wi)) (fun _ i _ => j - (intOf i).toNat)
            case atStart => exact ⟨0, by omega, rfl, rfl, Lib.hid (Below.refl _ _)⟩
            case round =>
              obtain ⟨k, hk, rfl, rfl, hbk⟩ := hrel
              have e0 := HU.out _ hbk.out
              by_cases hkj : k < j
              · obtain ⟨b0, b1⟩ := box_units (HXA.out _ hbk.out) k (by omega)
                obtain ⟨p, hp⟩ : ∃ q, x.nm k = q := ⟨_, rfl⟩
                rw [hp] at b0
                have hne : (p.toList == q.toList) = false := by have := H6.out k hkj; rw [hp] at this; exact this
                have hk4 : k < 4 := by omega
                clear b1 hp d0 d1
                go_wp2_with fail
                go_quiet (fail)
                go_wp2_with fail
                go_roundw
                case rel => exact ⟨k + 1, by omega, by go_num, rfl, Lib.hid (below_drewN hbk.out _)⟩
                case measure => simp [intOf]; omega
              · have hkj' : k = j := by omega
                subst hkj'
                clear d0 d1
                go_wp2_with fail
                go_roundw
                case rel => exact ⟨k + 1, by omega, by go_num, rfl, Lib.hid (HAL.out _ hbk.out)⟩
                case measure => simp [intOf]; omega
        · have HBR := Lib.hid (HB1.out.trans (hbel.out.mono HB1.out.size))
          clear c0 c9 c10 c11 c12
          go_wp2_with fail
          refine (awake_any _).mono ?_
          rintro e w2 ⟨rfl, hb2⟩
          have HB2 := Lib.hid (HBR.out.trans (hb2.mono HBR.out.size))
          clear hb2
          go_wp2_with fail
          go_ret
          exact ⟨rfl, HB2.out⟩
  · have hs : Hid (k = 3 ∨ k = 4 ∨ k = 5 ∨ k = 11 ∨ k = 21) := Lib.hid (by omega)
    clear hany
    go_enter Try.func5, Try.ntmps5
    go_wp2_with (first
      | (refine wpList_load_row rfl 42 (.tmp 1) rfl w.heap.size rfl _ _ _ _ HX0.out hui rfl HSZ.out ?_)
      | fail)
    refine (HC1.out _).mono ?_
    rintro e w1 ⟨rfl, hb1⟩
    have HX1 := Lib.hid ((hb1.block _ (lt_of_block HX0.out)).trans HX0.out)
    have HB1 := Lib.hid (HB0.out.trans (hb1.mono HB0.out.size))
    clear hb1
    rcases hs.out with rfl | rfl | rfl | rfl | rfl
    all_goals
      go_wp2_with fail
      refine (awake_any _).mono ?_
      rintro e w2 ⟨rfl, hb2⟩
      have HB2 := Lib.hid (HB1.out.trans (hb2.mono HB1.out.size))
      clear hb2
      go_wp2_with fail
      go_ret
      exact ⟨rfl, HB2.out⟩
end Go.Proofs.Ytcihibmapbigdaa.itemsChecks
