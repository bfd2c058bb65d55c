/-
  CONTRACT of the code's unitsOf.
-/
import Derived.Test.YtdcnkchhdmppeaaUFind
namespace Go.Proofs.Ytdcnkchhdmppeaa
set_option linter.unusedVariables false
open Go.RowKit
open Pl (It)

theorem infoUn : (Try.prog.info? 23).map (fun i => (i.zero, i.size, i.bytes)) = some (some (.agg #[.string ByteArray.empty, .int .i64 0]), 2, 24) := by kernel_rfl
theorem own_one (W : World) (B : Nat) (a b : Value) (T : TypeId) (hB : B ≤ W.heap.size) : (W.alloc (.cells #[a, b] T)).ownsRow B T 2 (.slice (some ⟨W.heap.size, 0, none⟩) 1 1) 1 [a, b] :=
  ⟨rfl, .inr ⟨W.heap.size, 1, #[a, b], rfl, hB, heap_alloc_new _ _, Nat.le_refl _, by decide, rfl, rfl⟩⟩

theorem range_units {x : It} {W : World} {b : Nat} {T : TypeId} (h : W.heap[b]? = some (.cells x.cells.toArray T (0, 0))) : W.rangeAt b 1 x.units := fun j v hj => by
  rw [cell_of_block h]
  rw [← hj]
  match j, hj with
  | 0, _ => rfl
  | 1, _ => rfl
  | 2, _ => rfl
  | 3, _ => rfl
  | 4, _ => rfl
  | 5, _ => rfl
  | 6, _ => rfl
  | 7, _ => rfl
  | i + 8, hj => simp [It.units] at hj

theorem index_units {x : It} {k : Nat} (hk : k < 4) (W : World) : (Instr.index 24 (.agg x.units.toArray) (.int .i64 (k : Int))).run Try.prog W = .ok (.agg #[.string (x.nm k), .int .i64 (x.fc k)]) W := by
  match k, hk with
  | 0, _ => simp [go_sem, It.units]; rfl
  | 1, _ => simp [go_sem, It.units]; rfl
  | 2, _ => simp [go_sem, It.units]; rfl
  | 3, _ => simp [go_sem, It.units]; rfl
  | i + 4, hi => omega

set_option maxRecDepth 100000 in
set_option maxHeartbeats 1600000 in
theorem unitsOf_any (x : It) (w : World) : Calls Try.prog 14 #[.agg x.cells.toArray] w fun e w' => ∃ A n c, n = (Pl.unitsU x 4).length ∧ e = .returned (.slice A n c) ∧ w'.ownsRow w.heap.size 23 2 (.slice A n c) n (prC (Pl.unitsU x 4)).flatten ∧ Below w.heap.size w w' := by
  obtain ⟨i0, hi0, hz0, hz1, hz2⟩ := info_parts infoUn
  have HRU : Hid (((w.alloc (.cells x.cells.toArray 26)).alloc (.cells #[.string Pl.each, .int .i64 1] 23)).rangeAt w.heap.size 1 x.units) := Lib.hid (range_units ((Below.heap_alloc _ _ _ (by simp)).trans (heap_alloc_new _ _)))
  have HB0 : Hid (Below w.heap.size w ((w.alloc (.cells x.cells.toArray 26)).alloc (.cells #[.string Pl.each, .int .i64 1] 23))) := Lib.hid (((Below.refl _ _).alloc (Nat.le_refl _) _).alloc (by simp) _)
  have HO0 : Hid (((w.alloc (.cells x.cells.toArray 26)).alloc (.cells #[.string Pl.each, .int .i64 1] 23)).ownsRow w.heap.size 23 2 (.slice (some ⟨w.heap.size + 1, 0, none⟩) 1 1) 1 (prC (Pl.unitsU x 0)).flatten) := Lib.hid (by
    have h := own_one (w.alloc (.cells x.cells.toArray 26)) w.heap.size (.string Pl.each) (.int .i64 1) 23 (by simp)
    rw [show (w.alloc (.cells x.cells.toArray 26)).heap.size = w.heap.size + 1 from by simp] at h
    exact h)
  have HI : Hid ((Try.prog.info? 24).map (·.size) = some x.units.length) := Lib.hid (by rw [show (Try.prog.info? 24).map (·.size) = some 8 from by kernel_rfl]; rfl)
  obtain ⟨us, hus⟩ : ∃ us, x.units.toArray = us := ⟨_, rfl⟩
  have HUS := Lib.hid hus
  clear hus
  go_enter Try.func14, Try.ntmps14
  go_wp2_with (first
    | (refine wpList_buildOne rfl _ 23 _ rfl (w.heap.size + 1) (by simp) _ rfl i0 _ 2 Try.underlying40 hi0 hz0 hz1 (by decide) (by decide) [.string Pl.each, .int .i64 1] (by rfl) rfl ?_)
    | (refine wpList_load_mid rfl 24 (.tmp 8) rfl w.heap.size 1 rfl x.units _ HRU.out Try.underlying24 rfl HI.out ?_; rw [HUS.out])
    | fail)
  go_loopw [3, 10] (fun av kv wr => ∃ (k n c : Nat) (A : Option Addr), k ≤ 4 ∧ kv = .int .i64 (k : Int) ∧ av = .slice A n c ∧ 1 ≤ n ∧ n ≤ k + 1 ∧ Hid (n = (Pl.unitsU x k).length) ∧ Hid (wr.ownsRow w.heap.size 23 2 (.slice A n c) n (prC (Pl.unitsU x k)).flatten) ∧ Hid (Below w.heap.size w wr)) (fun _ kv _ => 4 - (intOf kv).toNat)
  case atStart => exact ⟨0, 1, 1, _, by omega, rfl, rfl, by omega, by omega, Lib.hid rfl, HO0, HB0⟩
  case round =>
    obtain ⟨k, n, c, A, hk, rfl, rfl, hn1, hnk, HN, HO, HB⟩ := hrel
    by_cases hlt : k < 4
    · obtain ⟨p, hp⟩ : ∃ p, x.nm k = p := ⟨_, rfl⟩
      obtain ⟨z, hz⟩ : ∃ z, x.fc k = z := ⟨_, rfl⟩
      have hix := index_units (x := x) hlt wr
      rw [HUS.out, hp, hz] at hix
      have HP := Lib.hid hp
      have HZ := Lib.hid hz
      have hE := empty_iff p
      have HSU : Hid (Pl.unitsU x (k + 1) = if decide (p.size ≠ 0) && decide (2 ≤ z) && !Pl.hasU (Pl.unitsU x k) p then Pl.unitsU x k ++ [(p, z)] else Pl.unitsU x k) := Lib.hid (by rw [← hp, ← hz]; rfl)
      have HBA : Hid (Below w.heap.size w (wr.alloc (.cells #[.string p, .int .i64 z] 23))) := Lib.hid (HB.out.alloc HB.out.size _)
      have HOA : Hid ((wr.alloc (.cells #[.string p, .int .i64 z] 23)).ownsRow w.heap.size 23 2 (.slice A n c) n (prC (Pl.unitsU x k)).flatten) := Lib.hid (HO.out.alloc _)
      have HCA : Hid ((wr.alloc (.cells #[.string p, .int .i64 z] 23)).heap[wr.heap.size]? = some (.cells #[.string p, .int .i64 z] 23 (0, 0))) := Lib.hid (heap_alloc_new _ _)
      have HWS := Lib.hid HB.out.size
      clear hp hz
      have hcase : decide (p.size = 0) = true ∨ (decide (p.size = 0) = false ∧ decide (2 ≤ z) = false) ∨ (decide (p.size = 0) = false ∧ decide (2 ≤ z) = true) := by
        by_cases h0 : p.size = 0
        · left; simp [h0]
        · by_cases h2 : 2 ≤ z
          · right; right; simp [h0, h2]
          · right; left; simp [h0]; omega
      rcases hcase with hd | ⟨hd, hd2⟩ | ⟨hd, hd2⟩
      · rw [hd] at hE
        have HSK : Hid (Pl.unitsU x (k + 1) = Pl.unitsU x k) := Lib.hid (by rw [HSU.out, if_neg]; simp only [decide_eq_true_eq] at hd; simp [hd])
        clear hd
        go_wp2_with fail
        go_roundw
        case rel => exact ⟨k + 1, n, c, A, by omega, by go_num, rfl, by omega, by omega, Lib.hid (by rw [HSK.out]; exact HN.out), Lib.hid (by rw [HSK.out]; exact HOA.out), HBA⟩
        case measure => simp [intOf]; omega
      · rw [hd] at hE
        have HSK : Hid (Pl.unitsU x (k + 1) = Pl.unitsU x k) := Lib.hid (by rw [HSU.out, if_neg]; rw [hd2]; simp)
        clear hd
        go_wp2_with fail
        go_roundw
        case rel => exact ⟨k + 1, n, c, A, by omega, by go_num, rfl, by omega, by omega, Lib.hid (by rw [HSK.out]; exact HN.out), Lib.hid (by rw [HSK.out]; exact HOA.out), HBA⟩
        case measure => simp [intOf]; omega
      · rw [hd] at hE
        obtain ⟨g, rfl⟩ := own_some HOA.out (by omega)
        have HGL : Hid (g < (wr.alloc (.cells #[.string p, .int .i64 z] 23)).heap.size) := Lib.hid (by
          obtain ⟨_, h | ⟨g', cap, cur, hv, hg, hh, hr⟩⟩ := HOA.out
          · exact absurd h.1 (by simp)
          · injection hv with h1; injection h1 with h1; injection h1 with h1; subst h1; exact lt_of_block hh)
        obtain ⟨b, hb⟩ : ∃ b, Pl.hasU (Pl.unitsU x k) p = b := ⟨_, rfl⟩
        have HSK : Hid (Pl.unitsU x (k + 1) = if b = false then Pl.unitsU x k ++ [(p, z)] else Pl.unitsU x k) := Lib.hid (by
          have h0 : p.size ≠ 0 := by simpa using hd
          rw [HSU.out, hd2, hb]; cases b <;> simp [h0])
        have HBV := Lib.hid hb
        clear hb hd
        go_wp2_with fail
        refine (named_any p _).mono ?_
        rintro e w1 ⟨rfl, ht1, hb1⟩
        rw [show (wr.alloc (.cells #[.string p, .int .i64 z] 23)).heap.size = wr.heap.size + 1 from by simp] at ht1
        have HT1 := Lib.hid ht1
        have HB1 := Lib.hid hb1
        have HO1 := Lib.hid (own_below HOA.out hb1)
        have HC1 : Hid (w1.heap[wr.heap.size]? = some (.cells #[.string p, .int .i64 z] 23 (0, 0))) := Lib.hid ((hb1.block _ (by simp)).trans HCA.out)
        have HG1 : Hid (g < w1.heap.size) := Lib.hid (Nat.lt_of_lt_of_le HGL.out hb1.size)
        clear ht1 hb1
        go_wp2_with fail
        refine (contains_any g c n _ _ _ (Pl.unitsU x k) _ (by omega) HN.out (UC.of_own HO1.out HG1.out HN.out) HT1.out).mono ?_
        rintro e w2 ⟨rfl, hb2⟩
        rw [show ((Pl.unitsU x k).any fun q => Pl.eqv q.1 p) = b from HBV.out]
        have HO2 := Lib.hid (own_below HO1.out hb2)
        have HC2 : Hid (w2.heap[wr.heap.size]? = some (.cells #[.string p, .int .i64 z] 23 (0, 0))) := Lib.hid ((hb2.block _ (lt_of_block HC1.out)).trans HC1.out)
        have HB2 : Hid (Below w.heap.size w w2) := Lib.hid ((HBA.out.trans (HB1.out.mono HBA.out.size)).trans (hb2.mono (HBA.out.trans (HB1.out.mono HBA.out.size)).size))
        clear hb2
        cases b with
        | true =>
          have HSK2 : Hid (Pl.unitsU x (k + 1) = Pl.unitsU x k) := Lib.hid (by rw [HSK.out]; simp)
          go_wp2_with fail
          go_roundw
          case rel => exact ⟨k + 1, n, c, _, by omega, by go_num, rfl, by omega, by omega, Lib.hid (by rw [HSK2.out]; exact HN.out), Lib.hid (by rw [HSK2.out]; exact HO2.out), HB2⟩
          case measure => simp [intOf]; omega
        | false =>
          have HSK2 : Hid (Pl.unitsU x (k + 1) = Pl.unitsU x k ++ [(p, z)]) := Lib.hid (by rw [HSK.out]; simp)
          have d0 : w2.cell? ⟨wr.heap.size, 0, none⟩ = some (.string p) := by rw [cell_of_block HC2.out]; rfl
          have d1 : w2.cell? ⟨wr.heap.size, 1, none⟩ = some (.int .i64 z) := by rw [cell_of_block HC2.out]; rfl
          go_wp2_with (first
            | (refine wpList_buildOne rfl _ 23 _ rfl w2.heap.size rfl _ rfl i0 _ 2 Try.underlying40 hi0 hz0 hz1 (by decide) (by decide) [.string p, .int .i64 z] (by rfl) rfl ?_)
            | (at_builtin; refine wpList_app rfl (.tmp 29) (.tmp 31) _ rfl w.heap.size 23 i0 _ 2 24 Try.underlying40 hi0 hz0 hz1 hz2 rfl (by decide) _ n _ _ rfl (HO2.out.alloc _) _ _ 1 1 [.string p, .int .i64 z] rfl rfl (rd_pair _ _ _ _) (by intro u hu; simp at hu; rcases hu with rfl | rfl <;> rfl) (by simp only [maxLen]; omega) (by omega) (by have := HB2.out.size; simp; omega) ?_; intro A9 c9 w9 hown9 hb9; have HO9 := Lib.hid hown9; have HB9 := Lib.hid ((HB2.out.alloc HB2.out.size _).trans hb9); clear hown9 hb9)
            | fail)
          go_roundw
          case rel => exact ⟨k + 1, n + 1, c9, A9, by omega, by go_num, rfl, by omega, by omega, Lib.hid (by rw [HSK2.out, List.length_append, ← HN.out]; rfl), Lib.hid (by rw [HSK2.out, ← prC_push]; exact HO9.out), HB9⟩
          case measure => simp [intOf]; omega
    · obtain rfl : k = 4 := by omega
      go_wp2_with fail
      go_ret
      exact ⟨A, n, c, HN.out, rfl, HO.out, HB.out⟩
end Go.Proofs.Ytdcnkchhdmppeaa
