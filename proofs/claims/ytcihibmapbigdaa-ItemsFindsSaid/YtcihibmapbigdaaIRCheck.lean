/-
  CONTRACT of the reference's Check.
-/
import Derived.Test.YtcihibmapbigdaaICheck2
namespace Go.Proofs.Ytcihibmapbigdaa
set_option linter.unusedVariables false
open Go.RowKit
open Pl (It)

/-- An item's box: its units' cells. -/
theorem box_units {x : It} {w : World} {b : Nat} {T : TypeId} (h : w.heap[b]? = some (.cells x.cells.toArray T (0, 0))) (j : Nat) (hj : j < 4) : w.cell? ⟨b, 1 + j * 2, none⟩ = some (.string (x.nm j)) ∧ w.cell? ⟨b, 1 + j * 2 + 1, none⟩ = some (.int .i64 (x.fc j)) := by
  match j, hj with
  | 0, _ => exact ⟨(cell_of_block h).trans rfl, (cell_of_block h).trans rfl⟩
  | 1, _ => exact ⟨(cell_of_block h).trans rfl, (cell_of_block h).trans rfl⟩
  | 2, _ => exact ⟨(cell_of_block h).trans rfl, (cell_of_block h).trans rfl⟩
  | 3, _ => exact ⟨(cell_of_block h).trans rfl, (cell_of_block h).trans rfl⟩
  | i + 4, hi => omega

set_option maxRecDepth 100000 in
set_option maxHeartbeats 1600000 in
theorem rcheck_any (x : It) (hx : x.Ok) (w : World) : Calls Try.prog 17 #[.agg x.cells.toArray] w fun e w' => e = .returned (.int .i64 (Pl.chE x)) ∧ Below w.heap.size w w' := by
  obtain ⟨n, hn⟩ : ∃ n, Pl.chE x = n := ⟨_, rfl⟩
  obtain ⟨m, hm⟩ : ∃ m, Pl.nmE x.code = m := ⟨_, rfl⟩
  have HN : Hid (∀ W, Calls Try.prog 55 #[.string x.code] W fun e w' => e = .returned (.int .i64 m) ∧ W = w') := Lib.hid (fun W => by rw [← hm]; exact rname_any x.code W (by simpa [maxLen] using hx.code))
  have HNU : Hid (∀ j W, j < 4 → Calls Try.prog 55 #[.string (x.nm j)] W fun e w' => e = .returned (.int .i64 (Pl.nmE (x.nm j))) ∧ W = w') := Lib.hid (fun j W hj => rname_any (x.nm j) W (by simpa [maxLen] using hx.nm j hj))
  rw [hn]
  unfold Pl.chE at hn
  rw [hm] at hn
  clear hm hx
  have HB : Hid (Below w.heap.size w (w.alloc (.cells x.cells.toArray 42))) := Lib.hid ((Below.refl _ w).alloc (Nat.le_refl _) _)
  have HC : Hid (∀ W, Below (w.heap.size + 1) (w.alloc (.cells x.cells.toArray 42)) W → W.heap[w.heap.size]? = some (.cells x.cells.toArray 42 (0, 0))) := Lib.hid (fun W hW => (hW.block _ (by omega)).trans (heap_alloc_new _ _))
  unfold It.cells
  by_cases hm0 : m = 0
  · subst hm0
    rw [if_neg (by simp)] at hn
    have HV := Lib.hid hn
    clear hn
    go_enter Try.func17, Try.ntmps17
    go_wp2_with fail
    refine (HN.out _).mono ?_
    rintro e w1 ⟨rfl, rfl⟩
    go_wp2_with fail
    go_loopw [4] (fun i wr => ∃ k : Nat, k ≤ 4 ∧ i = .int .i64 (k : Int) ∧ Hid (∀ i, i < k → Pl.uE x i = 0) ∧ Hid (Below (w.heap.size + 1) (w.alloc (.cells x.cells.toArray 42)) wr)) (fun i _ => 4 - (intOf i).toNat)
    case atStart => exact ⟨0, by omega, rfl, Lib.hid (fun i h => by omega), Lib.hid (Below.refl _ _)⟩
    case round =>
      obtain ⟨k, hk, rfl, hno, hbel⟩ := hrel
      by_cases hlt : k < 4
      · have hs : w.heap.size + 1 ≤ wr.heap.size := by have := hbel.out.size; simpa using this
        obtain ⟨c0, c1⟩ := box_units (HC.out wr hbel.out) k hlt
        obtain ⟨s, hs'⟩ : ∃ s, x.nm k = s := ⟨_, rfl⟩
        obtain ⟨z, hz'⟩ : ∃ z, x.fc k = z := ⟨_, rfl⟩
        obtain ⟨m, hm'⟩ : ∃ m, Pl.nmE s = m := ⟨_, rfl⟩
        obtain ⟨d, hd'⟩ : ∃ d, Pl.dup x k = d := ⟨_, rfl⟩
        have hnk := fun W => HNU.out k W hlt
        rw [hs', hm'] at hnk
        have HNK := Lib.hid hnk
        obtain ⟨r, hr⟩ : ∃ r, Pl.uE x k = r := ⟨_, rfl⟩
        have hr2 := hr
        unfold Pl.uE at hr2
        rw [hs', hz', hm', hd'] at hr2
        rw [hs'] at c0
        rw [hz'] at c1
        have HR := Lib.hid hr
        have HS := Lib.hid hs'
        have HD := Lib.hid hd'
        have hBA : Hid (Below wr.heap.size wr (wr.alloc (.cells #[.string s, .int .i64 z] 39))) := Lib.hid ((Below.refl _ wr).alloc (Nat.le_refl _) _)
        have HNO : r = 0 → Hid (∀ i, i < k + 1 → Pl.uE x i = 0) := fun h0 => Lib.hid (fun i hi => by
          by_cases e : i = k
          · subst e; rw [HR.out]; exact h0
          · exact hno.out i (by omega))
        have HVK : r ≠ 0 → Hid (n = r) := fun h0 => Lib.hid (by
          have h1 := Pl.unE_at hlt hno.out (by rw [HR.out]; exact h0)
          have h2 := HV.out
          rw [h1, HR.out, if_pos h0] at h2
          exact h2.symm)
        have HBB : Hid (∀ W, Below wr.heap.size wr W → Below w.heap.size w W) := Lib.hid (fun W h => HB.out.trans ((hbel.out.trans (h.mono hs)).mono (by omega)))
        have HBC : Hid (∀ W, Below wr.heap.size wr W → Below (w.heap.size + 1) (w.alloc (.cells x.cells.toArray 42)) W) := Lib.hid (fun W h => hbel.out.trans (h.mono hs))
        clear hr hs' hz' hm' hd' hnk HNU
        by_cases h0 : s.size = 0
        · have hE := empty_yes h0
          rw [if_pos h0] at hr2
          clear h0
          by_cases hz0 : z = 0
          · rw [if_pos hz0] at hr2
            subst hz0
            have HNO := HNO hr2.symm
            clear hr2 HVK
            go_wp2_with fail
            go_roundw
            case rel => exact ⟨k + 1, by omega, by go_num, HNO, Lib.hid (HBC.out _ hBA.out)⟩
            case measure => simp [intOf]; omega
          · rw [if_neg hz0] at hr2
            subst hr2
            have HVK := HVK (by decide)
            go_wp2_with fail
            go_ret
            exact ⟨by rw [HVK.out]; rfl, HBB.out _ hBA.out⟩
        · have hE := empty_no h0
          rw [if_neg h0] at hr2
          clear h0
          by_cases hm0 : m = 0
          · subst hm0
            rw [if_neg (by simp)] at hr2
            cases he : Pl.eqv s Pl.each with
            | true =>
              rw [if_pos (.inl he)] at hr2
              subst hr2
              have he' : (s.toList == [101, 97, 99, 104]) = true := by have h := he; unfold Pl.eqv at h; rwa [show Pl.each.toList = [101, 97, 99, 104] from by rw [ByteArray.toList_eq]] at h
              clear he
              have HVK := HVK (by decide)
              go_wp2_with fail
              refine (HNK.out _).mono ?_
              rintro e w1 ⟨rfl, rfl⟩
              go_wp2_with fail
              go_ret
              exact ⟨by rw [HVK.out]; rfl, HBB.out _ hBA.out⟩
            | false =>
              have he' : (s.toList == [101, 97, 99, 104]) = false := by have h := he; unfold Pl.eqv at h; rwa [show Pl.each.toList = [101, 97, 99, 104] from by rw [ByteArray.toList_eq]] at h
              rw [he] at hr2
              clear he
              have HR2 := Lib.hid hr2
              have HNO := Lib.hid HNO
              have HVK := Lib.hid HVK
              clear hr2
              go_wp2_with fail
              refine (HNK.out _).mono ?_
              rintro e w1 ⟨rfl, rfl⟩
              go_wp2_with fail
              have HKU : Hid (∀ W, Below (wr.heap.size + 1) (wr.alloc (.cells #[.string s, .int .i64 z] 39)) W → W.cell? ⟨wr.heap.size, 0, none⟩ = some (.string s) ∧ W.cell? ⟨wr.heap.size, 1, none⟩ = some (.int .i64 z)) := Lib.hid (fun W hW => ⟨(hW.cell (p := ⟨wr.heap.size, 0, none⟩) (by simp)).trans (by simp [go_sem]), (hW.cell (p := ⟨wr.heap.size, 1, none⟩) (by simp)).trans (by simp [go_sem])⟩)
              have HAL : Hid (∀ W, Below (wr.heap.size + 1) (wr.alloc (.cells #[.string s, .int .i64 z] 39)) W → Below wr.heap.size wr W) := Lib.hid (fun W h => hBA.out.trans (h.mono (by omega)))
              go_loopw [6] (fun g wi => ∃ j : Nat, j ≤ k ∧ g = .int .i64 (j : Int) ∧ Hid (∀ i, i < j → Pl.eqv (x.nm i) s = false) ∧ Hid (Below (wr.heap.size + 1) (wr.alloc (.cells #[.string s, .int .i64 z] 39)) wi)) (fun g _ => k - (intOf g).toNat)
              case atStart => exact ⟨0, by omega, rfl, Lib.hid (fun i h => by omega), Lib.hid (Below.refl _ _)⟩
              case round =>
                obtain ⟨j, hj, rfl, hnj, hbj⟩ := hrel
                obtain ⟨u0, u1⟩ := HKU.out _ hbj.out
                by_cases hjk : j < k
                · obtain ⟨a0, a1⟩ := box_units (HC.out _ (HBC.out _ (HAL.out _ hbj.out))) j (by omega)
                  obtain ⟨q, hq⟩ : ∃ q, x.nm j = q := ⟨_, rfl⟩
                  rw [hq] at a0
                  have HQ := Lib.hid hq
                  have hj4 : j < 4 := by omega
                  clear hq a1 u1
                  cases hqe : Pl.eqv q s with
                  | true =>
                    have hq' : (q.toList == s.toList) = true := hqe
                    have HRR : Hid (n = 11) := Lib.hid (by
                      have hd : d = true := by rw [← HD.out]; exact any_at hjk (by rw [HQ.out, HS.out]; exact hqe)
                      have := HR2.out
                      rw [if_pos (.inr hd)] at this
                      subst this
                      exact (HVK.out (by decide)).out)
                    clear hqe
                    go_wp2_with fail
                    go_quiet (fail)
                    go_wp2_with fail
                    go_ret
                    exact ⟨by rw [HRR.out]; rfl, HBB.out _ (HAL.out _ (below_drewN hbj.out _))⟩
                  | false =>
                    have hq' : (q.toList == s.toList) = false := hqe
                    have HNJ : Hid (∀ i, i < j + 1 → Pl.eqv (x.nm i) s = false) := Lib.hid (fun i hi => by
                      by_cases e : i = j
                      · subst e; rw [HQ.out]; exact hqe
                      · exact hnj.out i (by omega))
                    clear hqe
                    go_wp2_with fail
                    go_quiet (fail)
                    go_wp2_with fail
                    go_roundw
                    case rel => exact ⟨j + 1, by omega, by go_num, HNJ, Lib.hid (below_drewN hbj.out _)⟩
                    case measure => simp [intOf]; omega
                · have hjk' : j = k := by omega
                  subst hjk'
                  have hd : d = false := by
                    rw [← HD.out]
                    exact any_lt (fun i hi => by rw [HS.out]; exact hnj.out i hi)
                  have hr3 := HR2.out
                  rw [if_neg (by rw [hd]; simp)] at hr3
                  by_cases z1 : z < 2
                  · rw [if_pos (.inl z1)] at hr3
                    subst hr3
                    have HV5 := HVK.out (by decide)
                    go_wp2_with fail
                    go_ret
                    exact ⟨by rw [HV5.out]; rfl, HBB.out _ (HAL.out _ hbj.out)⟩
                  by_cases z2 : 1000000 < z
                  · rw [if_pos (.inr z2)] at hr3
                    subst hr3
                    have HV5 := HVK.out (by decide)
                    go_wp2_with fail
                    go_ret
                    exact ⟨by rw [HV5.out]; rfl, HBB.out _ (HAL.out _ hbj.out)⟩
                  rw [if_neg (by omega)] at hr3
                  have HN5 := HNO.out hr3.symm
                  clear hr3
                  go_wp2_with fail
                  go_roundw
                  case rel => exact ⟨j + 1, by omega, by go_num, HN5, Lib.hid (HBC.out _ (HAL.out _ hbj.out))⟩
                  case measure => simp [intOf]; omega
          · rw [if_pos hm0] at hr2
            subst hr2
            have HVK := HVK hm0
            go_wp2_with fail
            refine (HNK.out _).mono ?_
            rintro e w1 ⟨rfl, rfl⟩
            go_wp2_with fail
            go_ret
            exact ⟨by rw [HVK.out]; rfl, HBB.out _ hBA.out⟩
      · have hk' : k = 4 := by omega
        subst hk'
        have hu := Pl.unE_zero hno.out
        have hme := HV.out
        rw [hu, if_neg (by simp)] at hme
        have hb := HC.out wr hbel.out
        have c9 : wr.cell? ⟨w.heap.size, 9, none⟩ = some (.int .i64 x.vol) := (cell_of_block hb).trans rfl
        have c10 : wr.cell? ⟨w.heap.size, 10, none⟩ = some (.int .i64 x.wei) := (cell_of_block hb).trans rfl
        have c11 : wr.cell? ⟨w.heap.size, 11, none⟩ = some (.bool x.lots) := (cell_of_block hb).trans rfl
        have c12 : wr.cell? ⟨w.heap.size, 12, none⟩ = some (.bool x.serial) := (cell_of_block hb).trans rfl
        obtain ⟨v, hv⟩ : ∃ v, x.vol = v := ⟨_, rfl⟩
        obtain ⟨g, hg⟩ : ∃ v, x.wei = v := ⟨_, rfl⟩
        obtain ⟨sb, hsb⟩ : ∃ v, x.serial = v := ⟨_, rfl⟩
        obtain ⟨lb, hlb⟩ : ∃ v, x.lots = v := ⟨_, rfl⟩
        rw [hv] at c9
        rw [hg] at c10
        rw [hlb] at c11
        rw [hsb] at c12
        unfold Pl.meE at hme
        rw [hv, hg, hsb, hlb] at hme
        have HB2 := Lib.hid (HB.out.trans (hbel.out.mono (by omega)))
        clear hb hu hv hg hsb hlb hno HNU HN HV
        by_cases v1 : v < 0
        · rw [if_pos (.inl v1)] at hme
          subst hme
          go_wp2_with fail
          go_ret
          exact ⟨rfl, HB2.out⟩
        by_cases v2 : 1000000 < v
        · rw [if_pos (.inr (.inl v2))] at hme
          subst hme
          go_wp2_with fail
          go_ret
          exact ⟨rfl, HB2.out⟩
        by_cases v3 : g < 0
        · rw [if_pos (.inr (.inr (.inl v3)))] at hme
          subst hme
          go_wp2_with fail
          go_ret
          exact ⟨rfl, HB2.out⟩
        by_cases v4 : 1000000 < g
        · rw [if_pos (.inr (.inr (.inr v4)))] at hme
          subst hme
          go_wp2_with fail
          go_ret
          exact ⟨rfl, HB2.out⟩
        rw [if_neg (by omega)] at hme
        cases sb <;> cases lb
        all_goals
          simp only [Bool.and_false, Bool.and_true, Bool.not_true, Bool.not_false, if_true, Bool.false_eq_true, if_false] at hme
          subst hme
          go_wp2_with fail
          go_ret
          exact ⟨rfl, HB2.out⟩
  · rw [if_pos hm0] at hn
    subst hn
    go_enter Try.func17, Try.ntmps17
    go_wp2_with fail
    refine (HN.out _).mono ?_
    rintro e w1 ⟨rfl, rfl⟩
    go_wp2_with fail
    go_ret
    exact ⟨rfl, HB.out⟩
end Go.Proofs.Ytcihibmapbigdaa
