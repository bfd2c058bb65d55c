/-
  CONTRACTS of the rows' Texts, items.
-/
import Derived.Test.YtcihibmapbigdaaIFind
import Derived.Test.YtcihibmapbigdaaHLents
import Derived.BigQuiet
namespace Go.Proofs.Ytcihibmapbigdaa
set_option linter.unusedVariables false
open Go.RowKit

/-- Texts held against one another, the first ones first. -/
def cmps : List ByteArray → List ByteArray → Int
  | a :: l, b :: m => if Pl.lt a b = true then -1 else if Pl.lt b a = true then 1 else cmps l m
  | _, _ => 0
theorem cmps_one (a b : ByteArray) : cmps [a] [b] = Pl.cmp a b := by
  unfold cmps Pl.cmp
  by_cases h : Pl.lt a b = true
  · rw [if_pos h, if_pos h]
  · rw [if_neg h, if_neg h]
    by_cases k : Pl.eqv a b = true
    · have := (Pl.eqv_iff a b).1 k
      subst this
      rw [if_neg (by rw [Pl.lt_irrefl]; simp), if_pos k]; rfl
    · have : Pl.lt b a = true := by
        rcases Pl.lt_tri a b with h' | h' | h'
        · exact absurd h' h
        · exact absurd ((Pl.eqv_iff a b).2 h') k
        · exact h'
      rw [if_pos this, if_neg k]
theorem cmps_drop {l r : List ByteArray} {k : Nat} (h : cmps l r = cmps (l.drop k) (r.drop k)) (hl : k < l.length) (hr : k < r.length) : cmps l r = if Pl.lt l[k] r[k] = true then -1 else if Pl.lt r[k] l[k] = true then 1 else cmps (l.drop (k + 1)) (r.drop (k + 1)) := by
  rw [h, List.drop_eq_getElem_cons hl, List.drop_eq_getElem_cons hr]; rfl

set_option maxRecDepth 100000 in
set_option maxHeartbeats 800000 in
theorem texts_any (A B : Option Addr) (n c m d : Nat) (l r : List ByteArray) (w : World) (hn : n = l.length) (hm : m = r.length) (hlr : l.length = r.length) (hn6 : n ≤ 1000) (hA : Rd w w.heap.size A (sc l)) (hB : Rd w w.heap.size B (sc r)) :
    Calls Try.prog 67 #[.slice A n c, .slice B m d] w fun e w' => e = .returned (.int .i64 (cmps l r)) ∧ Below w.heap.size w w' := by
  obtain rfl : m = n := by omega
  have HN := Lib.hid hn
  have HM := Lib.hid hm
  have HA := Lib.hid hA
  have HB := Lib.hid hB
  clear hn hm hlr hA hB
  go_enter Try.func67, Try.ntmps67
  go_wp2_with fail
  go_loopw [5] (fun i wr => ∃ k : Nat, k ≤ m ∧ i = .int .i64 (k : Int) ∧ Hid (cmps l r = cmps (l.drop k) (r.drop k)) ∧ Hid (∃ q, wr = w.drewN q)) (fun i _ => m - (intOf i).toNat)
  case atStart => exact ⟨0, by omega, rfl, Lib.hid rfl, Lib.hid ⟨0, rfl⟩⟩
  case round =>
    obtain ⟨k, hk, rfl, hE, hq⟩ := hrel
    have HBW : Hid (Below w.heap.size w wr) := Lib.hid (by obtain ⟨q0, hq0⟩ := hq.out; rw [hq0]; exact below_drewN (Below.refl _ _) _)
    by_cases hlt : k < m
    · have hl : k < l.length := by rw [← HN.out]; exact hlt
      have hr : k < r.length := by rw [← HM.out]; exact hlt
      obtain ⟨b, off, rfl, hb, hc⟩ := HA.out.str_at hl
      obtain ⟨b2, off2, rfl, hb2, hc2⟩ := HB.out.str_at hr
      have hE2 := cmps_drop hE.out hl hr
      have c0 : wr.cell? ⟨b, off + k, none⟩ = some (.string l[k]) := (HBW.out.cell (p := ⟨b, off + k, none⟩) hb).trans (hc k hl)
      have c1 : wr.cell? ⟨b2, off2 + k, none⟩ = some (.string r[k]) := (HBW.out.cell (p := ⟨b2, off2 + k, none⟩) hb2).trans (hc2 k hr)
      generalize l[k] = p at hE2 c0
      generalize r[k] = q at hE2 c1
      have h1 : (0 : Int) ≤ (k : Int) := by omega
      have h2 : (k : Int) < (m : Int) := by omega
      clear hc hc2
      rcases Pl.lt_tri p q with hpq | rfl | hpq
      · have HV : Hid (cmps l r = -1) := Lib.hid (by rw [hE2, if_pos hpq])
        have g1 : Op.bytesLess p.toList q.toList = true := hpq
        clear hE2 hpq
        go_wp2_with fail
        go_quiet (fail)
        go_wp2_with fail
        go_ret
        exact ⟨by rw [HV.out]; rfl, below_drewN HBW.out _⟩
      · have HV : Hid (cmps l r = cmps (l.drop (k + 1)) (r.drop (k + 1))) := Lib.hid (by rw [hE2, if_neg (by rw [Pl.lt_irrefl]; simp), if_neg (by rw [Pl.lt_irrefl]; simp)])
        have g1 : Op.bytesLess p.toList p.toList = false := Pl.lt_irrefl p
        have g2 : (p.toList == p.toList) = true := by simp
        clear hE2
        go_wp2_with fail
        go_quiet (fail)
        go_wp2_with fail
        go_quiet (fail)
        go_wp2_with fail
        go_roundw
        case rel => exact ⟨k + 1, by omega, by go_num, HV, Lib.hid (by obtain ⟨q0, hq0⟩ := hq.out; rw [hq0]; exact ⟨_, by simp only [World.drewN_drewN]; rfl⟩)⟩
        case measure => simp [intOf]; omega
      · have HV : Hid (cmps l r = 1) := Lib.hid (by rw [hE2, if_neg (by rw [Pl.lt_asymm hpq]; simp), if_pos hpq])
        have g1 : Op.bytesLess p.toList q.toList = false := Pl.lt_asymm hpq
        have g3 : Op.bytesLess q.toList p.toList = true := hpq
        have g2 : (p.toList == q.toList) = false := by
          rw [Bool.eq_false_iff]; intro e
          have := (Pl.eqv_iff p q).1 e
          subst this
          rw [Pl.lt_irrefl] at hpq; cases hpq
        clear hE2 hpq
        go_wp2_with fail
        go_quiet (fail)
        go_wp2_with fail
        go_quiet (fail)
        go_wp2_with fail
        go_ret
        exact ⟨by rw [HV.out]; rfl, below_drewN (below_drewN HBW.out _) _⟩
    · have HV : Hid (cmps l r = 0) := Lib.hid (by rw [hE.out, List.drop_eq_nil_of_le (by have := HN.out; omega)]; rfl)
      go_wp2_with fail
      go_ret
      exact ⟨by rw [HV.out]; rfl, HBW.out⟩

theorem rd_str {w : World} {b : Nat} {s : ByteArray} {t : TypeId} (h : w.heap[b]? = some (.cells #[.string s] t (0, 0))) : Rd w w.heap.size (some ⟨b, 0, none⟩) (sc [s]) := fun _ => ⟨b, 0, rfl, lt_of_block h, fun j u hu => by
  have hj : j < 1 := by have := (List.getElem?_eq_some_iff.1 hu).1; simpa [sc] using this
  obtain rfl : j = 0 := by omega
  rw [cell_of_block h, ← hu]; rfl⟩
set_option maxRecDepth 100000 in
theorem ritems_any (x y : List Value) (w : World) (hx : Fits kItem x) (hy : Fits kItem y) : Calls Try.prog 62 #[.agg x.toArray, .agg y.toArray] w fun e w' => e = .returned (.int .i64 (ordI x y)) ∧ Below w.heap.size w w' := by
  obtain ⟨r, hxr⟩ := item_code hx
  obtain ⟨q, hyr⟩ := item_code hy
  obtain ⟨W0, hW0⟩ : ∃ W0, W0 = (w.alloc (.cells x.toArray 42)).alloc (.cells y.toArray 42) := ⟨_, rfl⟩
  have HB : Hid (Below w.heap.size w W0) := Lib.hid (by rw [hW0]; exact ((Below.refl _ _).alloc (Nat.le_refl _) _).alloc (by simp) _)
  have HS : Hid (W0.heap.size = w.heap.size + 2) := Lib.hid (by rw [hW0]; simp)
  have c0 : W0.cell? ⟨w.heap.size, 0, none⟩ = some (.string (codeOf x)) := by
    rw [hW0, cell_of_row _ w.heap.size 0 x.toArray 42 (0, 0) ((Below.heap_alloc _ _ _ (by simp)).trans (heap_alloc_new _ _))]
    rw [List.getElem?_toArray]
    rw [hxr]; rfl
  have c1 : W0.cell? ⟨w.heap.size + 1, 0, none⟩ = some (.string (codeOf y)) := by
    have hh := heap_alloc_new (w.alloc (.cells x.toArray 42)) (.cells y.toArray 42)
    rw [hW0, cell_of_row _ (w.heap.size + 1) 0 y.toArray 42 (0, 0) (by simpa using hh)]
    rw [List.getElem?_toArray]
    rw [hyr]; rfl
  obtain ⟨s, hs⟩ : ∃ s, codeOf x = s := ⟨_, rfl⟩
  obtain ⟨t, ht⟩ : ∃ s, codeOf y = s := ⟨_, rfl⟩
  have HV : Hid (ordI x y = Pl.cmp s t) := Lib.hid (by unfold ordI; rw [hs, ht])
  rw [hs] at c0
  rw [ht] at c1
  clear hs ht hxr hyr hx hy
  have c2 : (W0.alloc (.cells #[.string s] 9)).cell? ⟨w.heap.size + 1, 0, none⟩ = some (.string t) := by
    rw [World.cell?_alloc_lt _ _ _ (by rw [HS.out]; simp)]; exact c1
  go_enter Try.func62, Try.ntmps62
  subst hW0
  go_wp2_with fail
  obtain ⟨W1, hW1⟩ : ∃ W1, W1 = (((w.alloc (.cells x.toArray 42)).alloc (.cells y.toArray 42)).alloc (.cells #[.string s] 9)).alloc (.cells #[.string t] 9) := ⟨_, rfl⟩
  have HB1 : Hid (Below w.heap.size w W1) := Lib.hid (by rw [hW1]; exact ((HB.out).alloc (by rw [HS.out]; omega) _).alloc (by simp; omega) _)
  have HR1 : Hid (Rd W1 W1.heap.size (some ⟨w.heap.size + 1 + 1, 0, none⟩) (sc [s])) := Lib.hid (rd_str (by
    rw [hW1]
    have := heap_alloc_new ((w.alloc (.cells x.toArray 42)).alloc (.cells y.toArray 42)) (.cells #[.string s] 9)
    exact (Below.heap_alloc _ _ _ (by simp)).trans (by simpa using this)))
  have HR2 : Hid (Rd W1 W1.heap.size (some ⟨w.heap.size + 1 + 1 + 1, 0, none⟩) (sc [t])) := Lib.hid (rd_str (by
    rw [hW1]
    have := heap_alloc_new (((w.alloc (.cells x.toArray 42)).alloc (.cells y.toArray 42)).alloc (.cells #[.string s] 9)) (.cells #[.string t] 9)
    simpa using this))
  rw [← hW1]
  clear hW1
  refine (texts_any _ _ 1 1 1 1 [s] [t] W1 rfl rfl rfl (by omega) HR1.out HR2.out).mono ?_
  rintro e w' ⟨rfl, hb⟩
  rw [cmps_one]
  have HB2 := Lib.hid (HB1.out.trans (hb.mono HB1.out.size))
  clear hb
  go_wp2_with fail
  go_ret
  exact ⟨by rw [HV.out]; rfl, HB2.out⟩
theorem tellsR (w : World) : TellsO kItem w 62 #[] ordI := ⟨fun args W => by kernel_rfl, fun W _ a b ha hb => ritems_any a b W ha hb⟩
end Go.Proofs.Ytcihibmapbigdaa
