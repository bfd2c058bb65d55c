/-
  CONTRACT of slices.BinarySearchFunc over stands. (By wip/tools/gen_ncode.py.)
-/
import Derived.Test.YtnkhnbpopdmkhaaGreatNOrd
import Derived.Test.YtnkhnbpopdmkhaaGreatNRow
import Derived.Test.YtnkhnbpopdmkhaaGreatJHead
import Derived.Deep.RegionHeld3
import Derived.BigRegion
import Derived.Maps.RangeWalk
import Derived.IntWalk
import Derived.Deep.CutRange
namespace Go.Proofs.YtnkhnbpopdmkhaaGreat
set_option linter.unusedVariables false
open Go.RowKit
open Pl (firstG findG putG It firstG_none firstG_some)

/-- Where x stands in a list in the code's order, or would stand. -/
structure Spot (L : List (List Value)) (x : List Value) (i : Nat) : Prop where
  le : i ≤ L.length
  below : ∀ k (h : k < L.length), k < i → lessS L[k] x = true
  above : ∀ k (h : k < L.length), i ≤ k → lessS L[k] x = false
def BsP (L : List (List Value)) (x : List Value) (w : World) (e : Ending) (w' : World) : Prop :=
  ∃ i : Nat, Spot L x i ∧ e = .returned (.tuple #[.int .i64 (i : Int), .bool (decide (∃ h : i < L.length, ordS L[i] x = 0))]) ∧ Below w.heap.size w w'
theorem ord_less (a x : List Value) {z : Int} (h : ordS a x = z) : decide (z < 0) = lessS a x := by rw [← h]; exact ordS_neg a x
set_option maxRecDepth 100000 in
set_option maxHeartbeats 3200000 in
theorem cbs (g n c : Nat) (L : List (List Value)) (x : List Value) (w : World) (hn : n = L.length) (hn6 : n ≤ 100000) (hL : Things kstand L) (hx : Fits kstand x) (hs : L.Pairwise (fun a b => lessS a b = true)) (ho : w.ownsRow 0 112 8 (.slice (some ⟨g, 0, none⟩) n c) n L.flatten) :
    Calls Tryz.prog 65 #[.slice (some ⟨g, 0, none⟩) n c, .agg x.toArray, .func (.func 34) #[] #[]] w (BsP L x w) := by
  have hu := Tryz.underlying112
  have hent := tellsS.1
  have HN := Lib.hid hn
  have HM := Lib.hid hL
  have FX := Lib.hid hx
  have HSS : Hid (Pl.Srt lessS L) := Lib.hid (hs.imp (fun h => lessS_weak.asymm h))
  have HMO : Hid (Pl.Mono (fun k => lessS (L.getD k []) x) 0 L.length) := Lib.hid (Pl.mono_less lessS_weak HSS.out [] x)
  have HB0 : Hid (Pl.Bis (fun k => lessS (L.getD k []) x) 0 L.length 0 L.length) := Lib.hid (Pl.Bis.start _ (Nat.zero_le _))
  have HGET : Hid (∀ k (h : k < L.length), L[k]? = some (L.getD k [])) := Lib.hid (fun k h => by rw [List.getElem?_eq_getElem h, Pl.getD_at L [] h])
  obtain ⟨W0, hW0⟩ : ∃ W, W = w.alloc (.cells x.toArray 112) := ⟨_, rfl⟩
  have HBW : Hid (Below w.heap.size w W0) := Lib.hid (by rw [hW0]; exact (Below.refl _ _).alloc (Nat.le_refl _) _)
  have HXB : Hid (W0.heap[w.heap.size]? = some (.cells x.toArray 112 (0, 0))) := Lib.hid (by rw [hW0]; exact heap_alloc_new _ _)
  have HO0 := Lib.hid (own_below ho HBW.out)
  have HWE := Lib.hid hW0
  have HLX : Hid (x.length = 8) := Lib.hid hx.length
  have HIX : Hid ((Tryz.prog.info? 112).map (·.size) = some x.length) := Lib.hid (by rw [HLX.out]; kernel_rfl)
  have HRX : Hid (∀ W, Below W0.heap.size W0 W → W.rangeAt w.heap.size 0 x) := Lib.hid (fun W hW => by have := range_row0 ((hW.block _ (lt_of_block HXB.out)).trans HXB.out); simpa using this)
  have HN6 := Lib.hid hn6
  rw [← hn] at HMO HB0
  clear hL hx hs ho hW0 hn
  go_enter Tryz.func65, Tryz.ntmps65
  go_upto_region 1 with fail
  rw [← HWE.out]
  go_wp2_with fail
  go_loopw [9, 10] (fun iv jv wr => ∃ i j : Nat, i ≤ j ∧ j ≤ n ∧ iv = .int .i64 (i : Int) ∧ jv = .int .i64 (j : Int) ∧ Hid (Pl.Bis (fun k => lessS (L.getD k []) x) 0 n i j) ∧ Hid (Below W0.heap.size W0 wr)) (fun iv jv _ => (intOf jv).toNat - (intOf iv).toNat)
  case atStart => exact ⟨0, n, by omega, by omega, rfl, rfl, HB0, Lib.hid (Below.refl _ _)⟩
  case round =>
    obtain ⟨i, j, hij, hjn, rfl, rfl, HBI, HB⟩ := hrel
    by_cases hlt : i < j
    · skip
      obtain ⟨h, hh1, hh2⟩ : ∃ q : Nat, 2 * q ≤ i + j ∧ i + j < 2 * q + 2 := ⟨(i + j) / 2, by omega, by omega⟩
      have hhv : ((i : Int) + (j : Int)) / 2 = (h : Int) := by omega
      have hih : i ≤ h := by omega
      have hhj : h < j := by omega
      have hhn : h < n := by omega
      have hbnd : i + j ≤ 200000 := by omega
      have hhl : h < L.length := by rw [← HN.out]; exact hhn
      have hyp := HGET.out h hhl
      obtain ⟨y, hy⟩ : ∃ y, L.getD h [] = y := ⟨_, rfl⟩
      rw [hy] at hyp
      have FY : Hid (Fits kstand y) := Lib.hid (at_fits HM.out hyp)
      have HLY : Hid (y.length = 8) := Lib.hid (FY.out.length)
      have HIY : Hid ((Tryz.prog.info? 112).map (·.size) = some y.length) := Lib.hid (by rw [HLY.out]; kernel_rfl)
      have HRY : Hid (∀ W, Below wr.heap.size wr W → W.rangeAt g (h * 8) y) := Lib.hid (fun W hW => row_at (own_below HO0.out (HB.out.trans (hW.mono HB.out.size))) HM.out (by decide) HN.out hyp)
      have HRX1 : Hid (∀ W, Below wr.heap.size wr W → W.rangeAt w.heap.size 0 x) := Lib.hid (fun W hW => HRX.out W (HB.out.trans (hW.mono HB.out.size)))
      obtain ⟨r, hr⟩ : ∃ r, ordS y x = r := ⟨_, rfl⟩
      have HCV : Hid (∀ W, Calls Tryz.prog 34 #[.agg y.toArray, .agg x.toArray] W fun e w' => e = .returned (.int .i64 r) ∧ Below W.heap.size W w') := Lib.hid (fun W => by rw [← hr]; exact tellsS.2 W y x FY.out FX.out)
      have hcl := ord_less y x hr
      have HYD := Lib.hid hy
      clear hr hyp hy hhl
      go_wp2_with fail
      refine wp_grow wr (by kernel_rfl) (by kernel_rfl) (Below.refl _ _) ?_
      simp only []
      iterate 4 go_big_quiet_step (fail)
      refine BigFrame.wpQuiet_want (by kernel_rfl) (fun K hK => quiet_load_mid 112 (.tmp 27) rfl g (h * 8) rfl y _ (fun W ⟨X, hX⟩ => by rw [hX]; exact HRY.out _ X.h) hu rfl HIY.out (hK _ ?_))
      simp only [Act.put, List.setIfInBounds_toArray, List.set_cons_zero, List.set_cons_succ]
      refine BigFrame.wpQuiet_want (by kernel_rfl) (fun K hK => quiet_load_mid 112 (.tmp 4) rfl w.heap.size 0 rfl x _ (fun W ⟨X, hX⟩ => by rw [hX]; exact HRX1.out _ X.h) hu rfl HIX.out (hK _ ?_))
      simp only [Act.put, List.setIfInBounds_toArray, List.set_cons_zero, List.set_cons_succ]
      go_big_quiet_step (exact grow_call _ (HCV.out _))
      go_big_quiet_step (fail)
      refine wpQuiet_nil ?_
      intro X
      have hb4 := X.h
      obtain ⟨W4, hW4⟩ : ∃ W, X.W = W := ⟨_, rfl⟩
      rw [hW4] at hb4 ⊢
      clear hW4 X
      have HB4 := Lib.hid (HB.out.trans (hb4.mono HB.out.size))
      clear hb4
      cases hyv : lessS y x with
      | true =>
        have HBN : Hid (Pl.Bis (fun k => lessS (L.getD k []) x) 0 n (h + 1) j) := Lib.hid (HBI.out.up HMO.out (by omega) (by omega) (by simp only [HYD.out, hyv]))
        rw [hyv] at hcl
        clear hyv
        go_wp2_with fail
        go_roundw
        case rel => exact ⟨h + 1, j, by omega, hjn, by go_num, rfl, HBN, HB4⟩
        case measure => simp [intOf]; omega
      | false =>
        have HBN : Hid (Pl.Bis (fun k => lessS (L.getD k []) x) 0 n i h) := Lib.hid (HBI.out.down HMO.out (by omega) (by omega) (by simp only [HYD.out, hyv]))
        rw [hyv] at hcl
        clear hyv
        go_wp2_with fail
        go_roundw
        case rel => exact ⟨i, h, by omega, by omega, rfl, rfl, HBN, HB4⟩
        case measure => simp [intOf]; omega
    · obtain rfl : i = j := by omega
      have HSP : Hid (Spot L x i) := Lib.hid (by
        have hb := HBI.out
        rw [HN.out] at hb
        exact ⟨hb.high, fun k h hk => by have := hb.yes k (Nat.zero_le _) hk; rwa [Pl.getD_at L [] h] at this, fun k h hk => by have := hb.no k hk h; rwa [Pl.getD_at L [] h] at this⟩)
      have HBT := Lib.hid (HBW.out.trans (HB.out.mono HBW.out.size))
      by_cases hin : i < n
      · skip
        have hhl : i < L.length := by rw [← HN.out]; exact hin
        have hyp : L[i]? = some L[i] := List.getElem?_eq_getElem hhl
        obtain ⟨y, hy⟩ : ∃ y, L[i] = y := ⟨_, rfl⟩
        rw [hy] at hyp
        have FY : Hid (Fits kstand y) := Lib.hid (at_fits HM.out hyp)
        have HLY : Hid (y.length = 8) := Lib.hid (FY.out.length)
        have HIY : Hid ((Tryz.prog.info? 112).map (·.size) = some y.length) := Lib.hid (by rw [HLY.out]; kernel_rfl)
        have HRY : Hid (∀ W, Below wr.heap.size wr W → W.rangeAt g (i * 8) y) := Lib.hid (fun W hW => row_at (own_below HO0.out (HB.out.trans (hW.mono HB.out.size))) HM.out (by decide) HN.out hyp)
        have HRX1 : Hid (∀ W, Below wr.heap.size wr W → W.rangeAt w.heap.size 0 x) := Lib.hid (fun W hW => HRX.out W (HB.out.trans (hW.mono HB.out.size)))
        obtain ⟨r, hr⟩ : ∃ r, ordS y x = r := ⟨_, rfl⟩
        have HCV : Hid (∀ W, Calls Tryz.prog 34 #[.agg y.toArray, .agg x.toArray] W fun e w' => e = .returned (.int .i64 r) ∧ Below W.heap.size W w') := Lib.hid (fun W => by rw [← hr]; exact tellsS.2 W y x FY.out FX.out)
        have HEQ : Hid (decide (∃ h : i < L.length, ordS L[i] x = 0) = (r == 0)) := Lib.hid (by
          by_cases hz : r = 0
          · rw [decide_eq_true ⟨hhl, by rw [hy, hr, hz]⟩, hz]; rfl
          · rw [decide_eq_false (fun ⟨_, e⟩ => hz (by rw [hy, hr] at e; exact e))]; simp [hz])
        have hg1 : decide ((i : Int) < (n : Int)) = true := by simp; omega
        have hg2 : decide (i < n) = true := by simp; omega
        clear hr hyp hy hhl hlt
        go_wp2_with fail
        refine wp_grow wr (by kernel_rfl) (by kernel_rfl) (Below.refl _ _) ?_
        simp only []
        iterate 9 go_big_quiet_step (fail)
        refine BigFrame.wpQuiet_want (by kernel_rfl) (fun K hK => quiet_load_mid 112 (.tmp 43) rfl g (i * 8) rfl y _ (fun W ⟨X, hX⟩ => by rw [hX]; exact HRY.out _ X.h) hu rfl HIY.out (hK _ ?_))
        simp only [Act.put, List.setIfInBounds_toArray, List.set_cons_zero, List.set_cons_succ]
        refine BigFrame.wpQuiet_want (by kernel_rfl) (fun K hK => quiet_load_mid 112 (.tmp 4) rfl w.heap.size 0 rfl x _ (fun W ⟨X, hX⟩ => by rw [hX]; exact HRX1.out _ X.h) hu rfl HIX.out (hK _ ?_))
        simp only [Act.put, List.setIfInBounds_toArray, List.set_cons_zero, List.set_cons_succ]
        go_big_quiet_step (exact grow_call _ (HCV.out _))
        iterate 4 go_big_quiet_step (fail)
        refine wpQuiet_nil ?_
        intro X
        have hb4 := X.h
        obtain ⟨W4, hW4⟩ : ∃ W, X.W = W := ⟨_, rfl⟩
        rw [hW4] at hb4 ⊢
        clear hW4 X
        have HB4 := Lib.hid (HB.out.trans (hb4.mono HB.out.size))
        clear hb4
        go_wp2_with fail
        go_ret2
        exact ⟨i, HSP.out, by rw [HEQ.out]; first | rfl | (simp; done), HBW.out.trans (HB4.out.mono HBW.out.size)⟩
      · skip
        have HEQ : Hid (decide (∃ h : i < L.length, ordS L[i] x = 0) = false) := Lib.hid (decide_eq_false (fun ⟨h, _⟩ => hin (by rw [HN.out]; exact h)))
        have hg1 : decide ((i : Int) < (n : Int)) = false := by simp; omega
        have hg2 : decide (i < n) = false := by simp; omega
        clear hlt
        go_wp2_with fail
        go_quiet (fail)
        go_wp2_with fail
        go_ret2
        exact ⟨i, HSP.out, by rw [HEQ.out]; first | rfl | (simp; done), HBW.out.trans ((below_drewN HB.out _).mono HBW.out.size)⟩
set_option maxRecDepth 100000 in
set_option maxHeartbeats 3200000 in
theorem cbs_nil (A : Option Addr) (c : Nat) (x : List Value) (w : World) (hx : Fits kstand x) :
    Calls Tryz.prog 65 #[.slice A 0 c, .agg x.toArray, .func (.func 34) #[] #[]] w (BsP [] x w) := by
  have HBW : Hid (Below w.heap.size w (w.alloc (.cells x.toArray 112))) := Lib.hid ((Below.refl _ _).alloc (Nat.le_refl _) _)
  have HEQ : Hid (decide (∃ h : 0 < ([] : List (List Value)).length, ordS [][0] x = 0) = false) := Lib.hid (decide_eq_false (fun ⟨h, _⟩ => by simp at h))
  go_enter Tryz.func65, Tryz.ntmps65
  go_wp2_with fail
  go_loopw [9, 10] (fun iv jv wr => iv = .int .i64 0 ∧ jv = .int .i64 0 ∧ Hid (Below w.heap.size w wr)) (fun _ _ _ => 0)
  case atStart => exact ⟨rfl, rfl, HBW⟩
  case round =>
    obtain ⟨rfl, rfl, HB⟩ := hrel
    go_wp2_with fail
    go_quiet (fail)
    go_wp2_with fail
    go_ret2
    exact ⟨0, ⟨Nat.le_refl _, fun k h _ => by simp at h, fun k h _ => by simp at h⟩, by rw [HEQ.out]; rfl, below_drewN HB.out _⟩
end Go.Proofs.YtnkhnbpopdmkhaaGreat
