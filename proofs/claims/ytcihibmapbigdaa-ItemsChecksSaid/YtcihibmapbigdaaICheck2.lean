/-
  CONTRACTS of items' checkUnit, checkUnits, Check.
-/
import Derived.Test.YtcihibmapbigdaaICheck
namespace Go.Proofs.Ytcihibmapbigdaa
set_option linter.unusedVariables false
open Go.RowKit
open Pl (It)

theorem empty_yes {s : ByteArray} (h : s.size = 0) : s.toList.isEmpty = true := by
  rw [ByteArray.toList_eq, List.eq_nil_of_length_eq_zero ((Pl.length_toList s).trans h)]; rfl
theorem empty_no {s : ByteArray} (h : s.size ≠ 0) : s.toList.isEmpty = false := by
  rw [ByteArray.toList_eq]
  have := Pl.length_toList s
  cases hl : s.data.toList with
  | nil => rw [hl] at this; simp at this; omega
  | cons a b => rfl

set_option maxRecDepth 100000 in
theorem cu_any (x : It) (hx : x.Ok) (b c j : Nat) (w : World) (hj : j < 4) (hb : b < w.heap.size)
    (hc : ∀ i, i < j → w.cell? ⟨b, i * 2, none⟩ = some (.string (x.nm i)) ∧ w.cell? ⟨b, i * 2 + 1, none⟩ = some (.int .i64 (x.fc i))) :
    Calls Try.prog 64 #[uv (x.nm j) (x.fc j), .slice (some ⟨b, 0, none⟩) j c] w fun e w' => e = .returned (.int .i64 (Pl.uE x j)) ∧ Below w.heap.size w w' := by
  have hmf : ∀ (fn : Fn) (first cap : Array Value) (w : World), (Instr.makeFunc fn first cap).run Try.prog w = .ok (.func fn first cap) w := fun _ _ _ _ => rfl
  obtain ⟨n, hn⟩ : ∃ n, Pl.uE x j = n := ⟨_, rfl⟩
  have hxs := hx.nm j hj
  have hC := contains_any b c j 69 #[.pointer (some ⟨w.heap.size, 0, none⟩)] (fun s => Pl.eqv s (x.nm j)) x.nm x.fc (w.alloc (.cells #[.string (x.nm j), .int .i64 (x.fc j)] 39)) (by omega) (by simp; omega)
    (fun i hi => ⟨(((Below.refl _ w).alloc (Nat.le_refl _) _).cell (p := ⟨b, i * 2, none⟩) hb).trans (hc i hi).1, (((Below.refl _ w).alloc (Nat.le_refl _) _).cell (p := ⟨b, i * 2 + 1, none⟩) hb).trans (hc i hi).2⟩)
    ⟨fun args W => by kernel_rfl, fun W hW s z => cu1_any w.heap.size s (x.nm j) z W ((hW.cell (p := ⟨w.heap.size, 0, none⟩) (by simp)).trans (by simp [go_sem])) (by have := hW.size; simp at this; omega)⟩
  rw [hn]
  have hN : ∀ W, Calls Try.prog 52 #[.string (x.nm j)] W fun e w' => e = .returned (.int .i64 (Pl.nmE (x.nm j))) ∧ W = w' := fun W => name_any (x.nm j) W (by simpa [maxLen] using hxs)
  have hd : ((List.range j).any fun i => Pl.eqv (x.nm i) (x.nm j)) = Pl.dup x j := rfl
  rw [hd] at hC
  unfold Pl.uE at hn
  obtain ⟨s, hs⟩ : ∃ s, x.nm j = s := ⟨_, rfl⟩
  obtain ⟨z, hz⟩ : ∃ z, x.fc j = z := ⟨_, rfl⟩
  obtain ⟨d, hdd⟩ : ∃ d, Pl.dup x j = d := ⟨_, rfl⟩
  obtain ⟨m, hm⟩ : ∃ m, Pl.nmE s = m := ⟨_, rfl⟩
  rw [hs, hm] at hN
  rw [hs, hz, hdd] at hC
  rw [hs, hz, hdd, hm] at hn
  rw [hs, hz]
  have HN := Lib.hid hN
  have HC := Lib.hid hC
  have HB : Hid (Below w.heap.size w (w.alloc (.cells #[.string s, .int .i64 z] 39))) := Lib.hid ((Below.refl _ w).alloc (Nat.le_refl _) _)
  clear hN hC hs hz hdd hm hxs hx hd hc
  by_cases h0 : s.size = 0
  · have hE := empty_yes h0
    rw [if_pos h0] at hn
    by_cases hz0 : z = 0
    · subst hz0
      rw [if_pos rfl] at hn
      subst hn
      clear h0
      go_enter Try.func64, Try.ntmps64
      go_wp2_with fail
      go_ret
      exact ⟨rfl, HB.out⟩
    · rw [if_neg hz0] at hn
      subst hn
      clear h0
      go_enter Try.func64, Try.ntmps64
      go_wp2_with fail
      go_ret
      exact ⟨rfl, HB.out⟩
  · have hE := empty_no h0
    rw [if_neg h0] at hn
    clear h0
    by_cases hm0 : m = 0
    · subst hm0
      rw [if_neg (by simp)] at hn
      cases he : Pl.eqv s Pl.each with
      | true =>
        rw [if_pos (.inl he)] at hn
        subst hn
        have he' : (s.toList == [101, 97, 99, 104]) = true := by have h := he; unfold Pl.eqv at h; rwa [show Pl.each.toList = [101, 97, 99, 104] from by rw [ByteArray.toList_eq]] at h
        clear he
        go_enter Try.func64, Try.ntmps64
        go_wp2_with fail
        refine (HN.out _).mono ?_
        rintro e w1 ⟨rfl, rfl⟩
        go_wp2_with fail
        go_ret
        exact ⟨rfl, HB.out⟩
      | false =>
        have he' : (s.toList == [101, 97, 99, 104]) = false := by have h := he; unfold Pl.eqv at h; rwa [show Pl.each.toList = [101, 97, 99, 104] from by rw [ByteArray.toList_eq]] at h
        have he2 := he
        clear he
        cases d with
        | true =>
          rw [if_pos (.inr rfl)] at hn
          subst hn
          go_enter Try.func64, Try.ntmps64
          go_wp2_with fail
          refine (HN.out _).mono ?_
          rintro e w1 ⟨rfl, rfl⟩
          go_wp2_with fail
          refine HC.out.mono ?_
          rintro e w1 ⟨rfl, hb1⟩
          have B1 := Lib.hid (HB.out.trans (hb1.mono (by simp)))
          clear hb1
          go_wp2_with fail
          go_ret
          exact ⟨rfl, B1.out⟩
        | false =>
          rw [he2, if_neg (by simp)] at hn
          by_cases hr : z < 2 ∨ 1000000 < z
          · rw [if_pos hr] at hn
            subst hn
            have hr' : (decide (2 ≤ z) && decide (z ≤ 1000000)) = false := by simp; omega
            have HR := Lib.hid hr'
            clear hr hr'
            go_enter Try.func64, Try.ntmps64
            go_wp2_with fail
            refine (HN.out _).mono ?_
            rintro e w1 ⟨rfl, rfl⟩
            go_wp2_with fail
            refine HC.out.mono ?_
            rintro e w1 ⟨rfl, hb1⟩
            have hz1 : w1.cell? ⟨w.heap.size, 1, none⟩ = some (.int .i64 z) := (hb1.cell (p := ⟨w.heap.size, 1, none⟩) (by simp)).trans (by simp [go_sem])
            have B1 := Lib.hid (HB.out.trans (hb1.mono (by simp)))
            clear hb1
            go_wp2_with fail
            refine (range_any z 2 1000000 _).mono ?_
            rintro e w2 ⟨rfl, rfl⟩
            rw [HR.out]
            go_wp2_with fail
            go_ret
            exact ⟨rfl, B1.out⟩
          · rw [if_neg hr] at hn
            subst hn
            have hr' : (decide (2 ≤ z) && decide (z ≤ 1000000)) = true := by simp; omega
            have HR := Lib.hid hr'
            clear hr hr'
            go_enter Try.func64, Try.ntmps64
            go_wp2_with fail
            refine (HN.out _).mono ?_
            rintro e w1 ⟨rfl, rfl⟩
            go_wp2_with fail
            refine HC.out.mono ?_
            rintro e w1 ⟨rfl, hb1⟩
            have hz1 : w1.cell? ⟨w.heap.size, 1, none⟩ = some (.int .i64 z) := (hb1.cell (p := ⟨w.heap.size, 1, none⟩) (by simp)).trans (by simp [go_sem])
            have B1 := Lib.hid (HB.out.trans (hb1.mono (by simp)))
            clear hb1
            go_wp2_with fail
            refine (range_any z 2 1000000 _).mono ?_
            rintro e w2 ⟨rfl, rfl⟩
            rw [HR.out]
            go_wp2_with fail
            go_ret
            exact ⟨rfl, B1.out⟩
    · rw [if_pos hm0] at hn
      subst hn
      go_enter Try.func64, Try.ntmps64
      go_wp2_with fail
      refine (HN.out _).mono ?_
      rintro e w1 ⟨rfl, rfl⟩
      go_wp2_with fail
      go_ret
      exact ⟨rfl, HB.out⟩

theorem run_index_arr {P : Program} {h : Nat} {t elem : TypeId} {n : Nat} {agg : Bool} {ks : List CK} (ht : P.underlying t = some (.array n elem)) (e : EqT P h elem agg ks) (vs : List Value) (i : Nat) (hi : i < n) (hl : i * ks.length + ks.length ≤ vs.length) (w : World) :
    (Instr.index t (.agg vs.toArray) (.int .i64 (i : Int))).run P w = .ok (valC agg ((vs.drop (i * ks.length)).take ks.length)) w := by
  have hn : (0 : Int) ≤ i ∧ (i : Int) < n := by omega
  have hp := part_of e vs (i * ks.length) hl w
  simp [Instr.index, run_underlying ht, asIntOf, e.size w, hi, hp]
set_option maxRecDepth 100000 in
theorem run_index_unit (x : It) (i : Nat) (hi : i < 4) (w : World) : (Instr.index 40 (.agg #[.string (x.nm 0), .int .i64 (x.fc 0), .string (x.nm 1), .int .i64 (x.fc 1), .string (x.nm 2), .int .i64 (x.fc 2), .string (x.nm 3), .int .i64 (x.fc 3)]) (.int .i64 (i : Int))).run Try.prog w = .ok (uv (x.nm i) (x.fc i)) w := by
  have h := run_index_arr (P := Try.prog) Try.underlying40 eqUnit x.units i hi (by
    rw [show kUnit.length = 2 from rfl, show x.units.length = 8 from rfl]
    omega) w
  refine h.trans ?_
  match i, hi with
  | 0, _ => rfl
  | 1, _ => rfl
  | 2, _ => rfl
  | 3, _ => rfl
  | i + 4, hi => omega

set_option maxRecDepth 100000 in
set_option maxHeartbeats 800000 in
theorem cus_any (x : It) (hx : x.Ok) (w : World) : Calls Try.prog 53 #[.agg x.units.toArray] w fun e w' => e = .returned (.int .i64 (Pl.unE x)) ∧ Below w.heap.size w w' := by
  have HX := Lib.hid hx
  clear hx
  unfold It.units
  go_enter Try.func53, Try.ntmps53
  go_wp2_with fail
  go_loopw [7] (fun i wr => ∃ k : Nat, k ≤ 4 ∧ i = .int .i64 (k : Int) ∧ Hid (∀ i, i < k → Pl.uE x i = 0) ∧ Hid (Below (w.heap.size + 1) (w.alloc (.cells x.units.toArray 40)) wr)) (fun i _ => 4 - (intOf i).toNat)
  case atStart => exact ⟨0, by omega, rfl, Lib.hid (fun i h => by omega), Lib.hid (Below.refl _ _)⟩
  case round =>
    obtain ⟨k, hk, rfl, hno, hbel⟩ := hrel
    by_cases hlt : k < 4
    · have HC : Hid (∀ W, Below wr.heap.size wr W → W.heap[w.heap.size]? = some (.cells x.units.toArray 40 (0, 0))) := Lib.hid (fun W hW => (hW.block _ (by have := hbel.out.size; simp at this; omega)).trans ((hbel.out.block _ (by omega)).trans (heap_alloc_new _ _)))
      have hs : w.heap.size + 1 ≤ wr.heap.size := by have := hbel.out.size; simpa using this
      have hcu : ∀ (j : Nat) (W : World), j < 4 → Below wr.heap.size wr W → Calls Try.prog 64 #[uv (x.nm j) (x.fc j), .slice (some ⟨w.heap.size, 0, none⟩) j 4] W fun e w' => e = .returned (.int .i64 (Pl.uE x j)) ∧ Below W.heap.size W w' := fun j W hj hW =>
        cu_any x HX.out w.heap.size 4 j W hj (by have := hW.size; omega) (fun i hi => by
          have e := HC.out W hW
          match i, hi with
          | 0, _ => exact ⟨(cell_of_block e).trans rfl, (cell_of_block e).trans rfl⟩
          | 1, _ => exact ⟨(cell_of_block e).trans rfl, (cell_of_block e).trans rfl⟩
          | 2, _ => exact ⟨(cell_of_block e).trans rfl, (cell_of_block e).trans rfl⟩
          | i + 3, hi => omega)
      have HCU := Lib.hid hcu
      clear hcu
      have hi0 : ∀ W, (Instr.index 40 (.agg #[.string (x.nm 0), .int .i64 (x.fc 0), .string (x.nm 1), .int .i64 (x.fc 1), .string (x.nm 2), .int .i64 (x.fc 2), .string (x.nm 3), .int .i64 (x.fc 3)]) (.int .i64 0)).run Try.prog W = .ok (uv (x.nm 0) (x.fc 0)) W := run_index_unit x 0 (by decide)
      have hi1 : ∀ W, (Instr.index 40 (.agg #[.string (x.nm 0), .int .i64 (x.fc 0), .string (x.nm 1), .int .i64 (x.fc 1), .string (x.nm 2), .int .i64 (x.fc 2), .string (x.nm 3), .int .i64 (x.fc 3)]) (.int .i64 1)).run Try.prog W = .ok (uv (x.nm 1) (x.fc 1)) W := run_index_unit x 1 (by decide)
      have hi2 : ∀ W, (Instr.index 40 (.agg #[.string (x.nm 0), .int .i64 (x.fc 0), .string (x.nm 1), .int .i64 (x.fc 1), .string (x.nm 2), .int .i64 (x.fc 2), .string (x.nm 3), .int .i64 (x.fc 3)]) (.int .i64 2)).run Try.prog W = .ok (uv (x.nm 2) (x.fc 2)) W := run_index_unit x 2 (by decide)
      have hi3 : ∀ W, (Instr.index 40 (.agg #[.string (x.nm 0), .int .i64 (x.fc 0), .string (x.nm 1), .int .i64 (x.fc 1), .string (x.nm 2), .int .i64 (x.fc 2), .string (x.nm 3), .int .i64 (x.fc 3)]) (.int .i64 3)).run Try.prog W = .ok (uv (x.nm 3) (x.fc 3)) W := run_index_unit x 3 (by decide)
      have HK : ∀ j, j < 4 → Hid (∀ W, Below (wr.heap.size + 1) (wr.alloc (.cells #[.string (x.nm j), .int .i64 (x.fc j)] 39)) W → W.cell? ⟨wr.heap.size, 0, none⟩ = some (.string (x.nm j)) ∧ W.cell? ⟨wr.heap.size, 1, none⟩ = some (.int .i64 (x.fc j))) := fun j _ => Lib.hid (fun W hW => ⟨(hW.cell (p := ⟨wr.heap.size, 0, none⟩) (by simp)).trans (by simp [go_sem]), (hW.cell (p := ⟨wr.heap.size, 1, none⟩) (by simp)).trans (by simp [go_sem])⟩)
      have HAL : ∀ j W, Hid (Below (wr.heap.size + 1) (wr.alloc (.cells #[.string (x.nm j), .int .i64 (x.fc j)] 39)) W → Below wr.heap.size wr W) := fun j W => Lib.hid (fun h => ((Below.refl _ _).alloc (Nat.le_refl _) _).trans (h.mono (by omega)))
      obtain rfl | rfl | rfl | rfl : k = 0 ∨ k = 1 ∨ k = 2 ∨ k = 3 := by omega
      · have HK0 := HK 0 (by decide)
        have HA0 := HAL 0
        have H : Hid (Below (wr.heap.size + 1) (wr.alloc (.cells #[.string (x.nm 0), .int .i64 (x.fc 0)] 39)) (wr.alloc (.cells #[.string (x.nm 0), .int .i64 (x.fc 0)] 39)).drew) := Lib.hid (Below.refl _ _).drew
        clear HK HAL hi0 hi1 hi2 hi3
        have hi0 : ∀ W, (Instr.index 40 (.agg #[.string (x.nm 0), .int .i64 (x.fc 0), .string (x.nm 1), .int .i64 (x.fc 1), .string (x.nm 2), .int .i64 (x.fc 2), .string (x.nm 3), .int .i64 (x.fc 3)]) (.int .i64 0)).run Try.prog W = .ok (uv (x.nm 0) (x.fc 0)) W := run_index_unit x 0 (by decide)
        obtain ⟨r, hr⟩ : ∃ r, Pl.uE x 0 = r := ⟨_, rfl⟩
        have HCK : Hid (∀ W, Below wr.heap.size wr W → Calls Try.prog 64 #[uv (x.nm 0) (x.fc 0), .slice (some ⟨w.heap.size, 0, none⟩) 0 4] W fun e w' => e = .returned (.int .i64 r) ∧ Below W.heap.size W w') := Lib.hid (fun W hW => by rw [← hr]; exact HCU.out 0 W (by decide) hW)
        have HR := Lib.hid hr
        clear HCU hr
        by_cases h0 : r = 0
        · subst h0
          go_wp2_with fail
          go_region_held3 (fun w' => w'.cell? ⟨wr.heap.size, 0, none⟩ = some (.string (x.nm 0)) ∧ w'.cell? ⟨wr.heap.size, 1, none⟩ = some (.int .i64 (x.fc 0)))
            (first | exact HK0.out _ H.out)
            ((go_at_call 64; refine (HCK.out _ ((HA0 _).out H.out)).mono ?_; rintro e w' ⟨rfl, hb'⟩; have H := Lib.hid (H.out.trans (hb'.mono (by have := H.out.size; simp))); clear hb'))
          go_wp2_with fail
          go_roundw
          case rel => exact ⟨1, by omega, by go_num, Lib.hid (fun i hi => by
            by_cases e : i = 0
            · subst e; exact HR.out
            · exact hno.out i (by omega)), Lib.hid (hbel.out.trans (((HA0 _).out H.out).mono hs))⟩
          case measure => simp [intOf]
        · have HV := Lib.hid (Pl.unE_at (j := 0) (by decide) hno.out (by rw [HR.out]; exact h0))
          go_wp2_with fail
          go_region_held3 (fun w' => w'.cell? ⟨wr.heap.size, 0, none⟩ = some (.string (x.nm 0)) ∧ w'.cell? ⟨wr.heap.size, 1, none⟩ = some (.int .i64 (x.fc 0)))
            (first | exact HK0.out _ H.out)
            ((go_at_call 64; refine (HCK.out _ ((HA0 _).out H.out)).mono ?_; rintro e w' ⟨rfl, hb'⟩; have H := Lib.hid (H.out.trans (hb'.mono (by have := H.out.size; simp))); clear hb'))
          go_wp2_with fail
          go_ret
          exact ⟨by rw [HV.out, HR.out]; rfl, ((Below.refl _ _).alloc (Nat.le_refl _) _).trans ((hbel.out.trans (((HA0 _).out H.out).mono hs)).mono (by omega))⟩
      · have HK1 := HK 1 (by decide)
        have HA1 := HAL 1
        have H : Hid (Below (wr.heap.size + 1) (wr.alloc (.cells #[.string (x.nm 1), .int .i64 (x.fc 1)] 39)) (wr.alloc (.cells #[.string (x.nm 1), .int .i64 (x.fc 1)] 39)).drew) := Lib.hid (Below.refl _ _).drew
        clear HK HAL hi0 hi1 hi2 hi3
        have hi1 : ∀ W, (Instr.index 40 (.agg #[.string (x.nm 0), .int .i64 (x.fc 0), .string (x.nm 1), .int .i64 (x.fc 1), .string (x.nm 2), .int .i64 (x.fc 2), .string (x.nm 3), .int .i64 (x.fc 3)]) (.int .i64 1)).run Try.prog W = .ok (uv (x.nm 1) (x.fc 1)) W := run_index_unit x 1 (by decide)
        obtain ⟨r, hr⟩ : ∃ r, Pl.uE x 1 = r := ⟨_, rfl⟩
        have HCK : Hid (∀ W, Below wr.heap.size wr W → Calls Try.prog 64 #[uv (x.nm 1) (x.fc 1), .slice (some ⟨w.heap.size, 0, none⟩) 1 4] W fun e w' => e = .returned (.int .i64 r) ∧ Below W.heap.size W w') := Lib.hid (fun W hW => by rw [← hr]; exact HCU.out 1 W (by decide) hW)
        have HR := Lib.hid hr
        clear HCU hr
        by_cases h0 : r = 0
        · subst h0
          go_wp2_with fail
          go_region_held3 (fun w' => w'.cell? ⟨wr.heap.size, 0, none⟩ = some (.string (x.nm 1)) ∧ w'.cell? ⟨wr.heap.size, 1, none⟩ = some (.int .i64 (x.fc 1)))
            (first | exact HK1.out _ H.out)
            ((go_at_call 64; refine (HCK.out _ ((HA1 _).out H.out)).mono ?_; rintro e w' ⟨rfl, hb'⟩; have H := Lib.hid (H.out.trans (hb'.mono (by have := H.out.size; simp))); clear hb'))
          go_wp2_with fail
          go_roundw
          case rel => exact ⟨2, by omega, by go_num, Lib.hid (fun i hi => by
            by_cases e : i = 1
            · subst e; exact HR.out
            · exact hno.out i (by omega)), Lib.hid (hbel.out.trans (((HA1 _).out H.out).mono hs))⟩
          case measure => simp [intOf]
        · have HV := Lib.hid (Pl.unE_at (j := 1) (by decide) hno.out (by rw [HR.out]; exact h0))
          go_wp2_with fail
          go_region_held3 (fun w' => w'.cell? ⟨wr.heap.size, 0, none⟩ = some (.string (x.nm 1)) ∧ w'.cell? ⟨wr.heap.size, 1, none⟩ = some (.int .i64 (x.fc 1)))
            (first | exact HK1.out _ H.out)
            ((go_at_call 64; refine (HCK.out _ ((HA1 _).out H.out)).mono ?_; rintro e w' ⟨rfl, hb'⟩; have H := Lib.hid (H.out.trans (hb'.mono (by have := H.out.size; simp))); clear hb'))
          go_wp2_with fail
          go_ret
          exact ⟨by rw [HV.out, HR.out]; rfl, ((Below.refl _ _).alloc (Nat.le_refl _) _).trans ((hbel.out.trans (((HA1 _).out H.out).mono hs)).mono (by omega))⟩
      · have HK2 := HK 2 (by decide)
        have HA2 := HAL 2
        have H : Hid (Below (wr.heap.size + 1) (wr.alloc (.cells #[.string (x.nm 2), .int .i64 (x.fc 2)] 39)) (wr.alloc (.cells #[.string (x.nm 2), .int .i64 (x.fc 2)] 39)).drew) := Lib.hid (Below.refl _ _).drew
        clear HK HAL hi0 hi1 hi2 hi3
        have hi2 : ∀ W, (Instr.index 40 (.agg #[.string (x.nm 0), .int .i64 (x.fc 0), .string (x.nm 1), .int .i64 (x.fc 1), .string (x.nm 2), .int .i64 (x.fc 2), .string (x.nm 3), .int .i64 (x.fc 3)]) (.int .i64 2)).run Try.prog W = .ok (uv (x.nm 2) (x.fc 2)) W := run_index_unit x 2 (by decide)
        obtain ⟨r, hr⟩ : ∃ r, Pl.uE x 2 = r := ⟨_, rfl⟩
        have HCK : Hid (∀ W, Below wr.heap.size wr W → Calls Try.prog 64 #[uv (x.nm 2) (x.fc 2), .slice (some ⟨w.heap.size, 0, none⟩) 2 4] W fun e w' => e = .returned (.int .i64 r) ∧ Below W.heap.size W w') := Lib.hid (fun W hW => by rw [← hr]; exact HCU.out 2 W (by decide) hW)
        have HR := Lib.hid hr
        clear HCU hr
        by_cases h0 : r = 0
        · subst h0
          go_wp2_with fail
          go_region_held3 (fun w' => w'.cell? ⟨wr.heap.size, 0, none⟩ = some (.string (x.nm 2)) ∧ w'.cell? ⟨wr.heap.size, 1, none⟩ = some (.int .i64 (x.fc 2)))
            (first | exact HK2.out _ H.out)
            ((go_at_call 64; refine (HCK.out _ ((HA2 _).out H.out)).mono ?_; rintro e w' ⟨rfl, hb'⟩; have H := Lib.hid (H.out.trans (hb'.mono (by have := H.out.size; simp))); clear hb'))
          go_wp2_with fail
          go_roundw
          case rel => exact ⟨3, by omega, by go_num, Lib.hid (fun i hi => by
            by_cases e : i = 2
            · subst e; exact HR.out
            · exact hno.out i (by omega)), Lib.hid (hbel.out.trans (((HA2 _).out H.out).mono hs))⟩
          case measure => simp [intOf]
        · have HV := Lib.hid (Pl.unE_at (j := 2) (by decide) hno.out (by rw [HR.out]; exact h0))
          go_wp2_with fail
          go_region_held3 (fun w' => w'.cell? ⟨wr.heap.size, 0, none⟩ = some (.string (x.nm 2)) ∧ w'.cell? ⟨wr.heap.size, 1, none⟩ = some (.int .i64 (x.fc 2)))
            (first | exact HK2.out _ H.out)
            ((go_at_call 64; refine (HCK.out _ ((HA2 _).out H.out)).mono ?_; rintro e w' ⟨rfl, hb'⟩; have H := Lib.hid (H.out.trans (hb'.mono (by have := H.out.size; simp))); clear hb'))
          go_wp2_with fail
          go_ret
          exact ⟨by rw [HV.out, HR.out]; rfl, ((Below.refl _ _).alloc (Nat.le_refl _) _).trans ((hbel.out.trans (((HA2 _).out H.out).mono hs)).mono (by omega))⟩
      · have HK3 := HK 3 (by decide)
        have HA3 := HAL 3
        have H : Hid (Below (wr.heap.size + 1) (wr.alloc (.cells #[.string (x.nm 3), .int .i64 (x.fc 3)] 39)) (wr.alloc (.cells #[.string (x.nm 3), .int .i64 (x.fc 3)] 39)).drew) := Lib.hid (Below.refl _ _).drew
        clear HK HAL hi0 hi1 hi2 hi3
        have hi3 : ∀ W, (Instr.index 40 (.agg #[.string (x.nm 0), .int .i64 (x.fc 0), .string (x.nm 1), .int .i64 (x.fc 1), .string (x.nm 2), .int .i64 (x.fc 2), .string (x.nm 3), .int .i64 (x.fc 3)]) (.int .i64 3)).run Try.prog W = .ok (uv (x.nm 3) (x.fc 3)) W := run_index_unit x 3 (by decide)
        obtain ⟨r, hr⟩ : ∃ r, Pl.uE x 3 = r := ⟨_, rfl⟩
        have HCK : Hid (∀ W, Below wr.heap.size wr W → Calls Try.prog 64 #[uv (x.nm 3) (x.fc 3), .slice (some ⟨w.heap.size, 0, none⟩) 3 4] W fun e w' => e = .returned (.int .i64 r) ∧ Below W.heap.size W w') := Lib.hid (fun W hW => by rw [← hr]; exact HCU.out 3 W (by decide) hW)
        have HR := Lib.hid hr
        clear HCU hr
        by_cases h0 : r = 0
        · subst h0
          go_wp2_with fail
          go_region_held3 (fun w' => w'.cell? ⟨wr.heap.size, 0, none⟩ = some (.string (x.nm 3)) ∧ w'.cell? ⟨wr.heap.size, 1, none⟩ = some (.int .i64 (x.fc 3)))
            (first | exact HK3.out _ H.out)
            ((go_at_call 64; refine (HCK.out _ ((HA3 _).out H.out)).mono ?_; rintro e w' ⟨rfl, hb'⟩; have H := Lib.hid (H.out.trans (hb'.mono (by have := H.out.size; simp))); clear hb'))
          go_wp2_with fail
          go_roundw
          case rel => exact ⟨4, by omega, by go_num, Lib.hid (fun i hi => by
            by_cases e : i = 3
            · subst e; exact HR.out
            · exact hno.out i (by omega)), Lib.hid (hbel.out.trans (((HA3 _).out H.out).mono hs))⟩
          case measure => simp [intOf]
        · have HV := Lib.hid (Pl.unE_at (j := 3) (by decide) hno.out (by rw [HR.out]; exact h0))
          go_wp2_with fail
          go_region_held3 (fun w' => w'.cell? ⟨wr.heap.size, 0, none⟩ = some (.string (x.nm 3)) ∧ w'.cell? ⟨wr.heap.size, 1, none⟩ = some (.int .i64 (x.fc 3)))
            (first | exact HK3.out _ H.out)
            ((go_at_call 64; refine (HCK.out _ ((HA3 _).out H.out)).mono ?_; rintro e w' ⟨rfl, hb'⟩; have H := Lib.hid (H.out.trans (hb'.mono (by have := H.out.size; simp))); clear hb'))
          go_wp2_with fail
          go_ret
          exact ⟨by rw [HV.out, HR.out]; rfl, ((Below.refl _ _).alloc (Nat.le_refl _) _).trans ((hbel.out.trans (((HA3 _).out H.out).mono hs)).mono (by omega))⟩
    · have hk' : k = 4 := by omega
      subst hk'
      have HV := Lib.hid (Pl.unE_zero hno.out)
      go_wp2_with fail
      go_ret
      exact ⟨by rw [HV.out]; rfl, ((Below.refl _ _).alloc (Nat.le_refl _) _).trans (hbel.out.mono (by omega))⟩
end Go.Proofs.Ytcihibmapbigdaa
