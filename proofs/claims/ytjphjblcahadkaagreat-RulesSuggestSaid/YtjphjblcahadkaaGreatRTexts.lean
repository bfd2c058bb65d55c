/-
  CONTRACT of the rows' Texts.
-/
import Derived.Test.YtjphjblcahadkaaGreatHHouse
import Derived.Test.YtjphjblcahadkaaGreatGPlain
import Derived.BigQuiet
namespace Go.Proofs.YtjphjblcahadkaaGreat
set_option linter.unusedVariables false
open Go.RowKit

/-- Texts held against one another, the first ones first. -/
def cmps : List ByteArray → List ByteArray → Int
  | a :: l, b :: m => if Pl.lt a b = true then -1 else if Pl.lt b a = true then 1 else cmps l m
  | _, _ => 0
theorem cmps_one (a b : ByteArray) : cmps [a] [b] = Pl.cmp a b := by
  unfold cmps Pl.cmp
  by_cases h : Pl.lt a b = true
  · rw [if_pos h, if_pos h]
  · rw [if_neg h, if_neg h]
    by_cases k : Pl.eqv a b = true
    · have := (Pl.eqv_iff a b).1 k
      subst this
      rw [if_neg (by rw [Pl.lt_irrefl]; simp), if_pos k]; rfl
    · have : Pl.lt b a = true := by
        rcases Pl.lt_tri a b with h' | h' | h'
        · exact absurd h' h
        · exact absurd ((Pl.eqv_iff a b).2 h') k
        · exact h'
      rw [if_pos this, if_neg k]
theorem cmps_drop {l r : List ByteArray} {k : Nat} (h : cmps l r = cmps (l.drop k) (r.drop k)) (hl : k < l.length) (hr : k < r.length) : cmps l r = if Pl.lt l[k] r[k] = true then -1 else if Pl.lt r[k] l[k] = true then 1 else cmps (l.drop (k + 1)) (r.drop (k + 1)) := by
  rw [h, List.drop_eq_getElem_cons hl, List.drop_eq_getElem_cons hr]; rfl

set_option maxRecDepth 100000 in
set_option maxHeartbeats 800000 in
theorem texts_any (A B : Option Addr) (n c m d : Nat) (l r : List ByteArray) (w : World) (hn : n = l.length) (hm : m = r.length) (hlr : l.length = r.length) (hn6 : n ≤ 1000) (hA : Rd w w.heap.size A (sc l)) (hB : Rd w w.heap.size B (sc r)) :
    Calls Tryz.prog 90 #[.slice A n c, .slice B m d] w fun e w' => e = .returned (.int .i64 (cmps l r)) ∧ Below w.heap.size w w' := by
  obtain rfl : m = n := by omega
  have HN := Lib.hid hn
  have HM := Lib.hid hm
  have HA := Lib.hid hA
  have HB := Lib.hid hB
  clear hn hm hlr hA hB
  go_enter Tryz.func90, Tryz.ntmps90
  go_wp2_with fail
  go_loopw [5] (fun i wr => ∃ k : Nat, k ≤ m ∧ i = .int .i64 (k : Int) ∧ Hid (cmps l r = cmps (l.drop k) (r.drop k)) ∧ Hid (∃ q, wr = w.drewN q)) (fun i _ => m - (intOf i).toNat)
  case atStart => exact ⟨0, by omega, rfl, Lib.hid rfl, Lib.hid ⟨0, rfl⟩⟩
  case round =>
    obtain ⟨k, hk, rfl, hE, hq⟩ := hrel
    have HBW : Hid (Below w.heap.size w wr) := Lib.hid (by obtain ⟨q0, hq0⟩ := hq.out; rw [hq0]; exact below_drewN (Below.refl _ _) _)
    by_cases hlt : k < m
    · have hl : k < l.length := by rw [← HN.out]; exact hlt
      have hr : k < r.length := by rw [← HM.out]; exact hlt
      obtain ⟨b, off, rfl, hb, hc⟩ := HA.out.str_at hl
      obtain ⟨b2, off2, rfl, hb2, hc2⟩ := HB.out.str_at hr
      have hE2 := cmps_drop hE.out hl hr
      have c0 : wr.cell? ⟨b, off + k, none⟩ = some (.string l[k]) := (HBW.out.cell (p := ⟨b, off + k, none⟩) hb).trans (hc k hl)
      have c1 : wr.cell? ⟨b2, off2 + k, none⟩ = some (.string r[k]) := (HBW.out.cell (p := ⟨b2, off2 + k, none⟩) hb2).trans (hc2 k hr)
      generalize l[k] = p at hE2 c0
      generalize r[k] = q at hE2 c1
      have h1 : (0 : Int) ≤ (k : Int) := by omega
      have h2 : (k : Int) < (m : Int) := by omega
      clear hc hc2
      rcases Pl.lt_tri p q with hpq | rfl | hpq
      · have HV : Hid (cmps l r = -1) := Lib.hid (by rw [hE2, if_pos hpq])
        have g1 : Op.bytesLess p.toList q.toList = true := hpq
        clear hE2 hpq
        go_wp2_with fail
        go_quiet (fail)
        go_wp2_with fail
        go_ret
        exact ⟨by rw [HV.out]; rfl, below_drewN HBW.out _⟩
      · have HV : Hid (cmps l r = cmps (l.drop (k + 1)) (r.drop (k + 1))) := Lib.hid (by rw [hE2, if_neg (by rw [Pl.lt_irrefl]; simp), if_neg (by rw [Pl.lt_irrefl]; simp)])
        have g1 : Op.bytesLess p.toList p.toList = false := Pl.lt_irrefl p
        have g2 : (p.toList == p.toList) = true := by simp
        clear hE2
        go_wp2_with fail
        go_quiet (fail)
        go_wp2_with fail
        go_quiet (fail)
        go_wp2_with fail
        go_roundw
        case rel => exact ⟨k + 1, by omega, by go_num, HV, Lib.hid (by obtain ⟨q0, hq0⟩ := hq.out; rw [hq0]; exact ⟨_, by simp only [World.drewN_drewN]; rfl⟩)⟩
        case measure => simp [intOf]; omega
      · have HV : Hid (cmps l r = 1) := Lib.hid (by rw [hE2, if_neg (by rw [Pl.lt_asymm hpq]; simp), if_pos hpq])
        have g1 : Op.bytesLess p.toList q.toList = false := Pl.lt_asymm hpq
        have g3 : Op.bytesLess q.toList p.toList = true := hpq
        have g2 : (p.toList == q.toList) = false := by
          rw [Bool.eq_false_iff]; intro e
          have := (Pl.eqv_iff p q).1 e
          subst this
          rw [Pl.lt_irrefl] at hpq; cases hpq
        clear hE2 hpq
        go_wp2_with fail
        go_quiet (fail)
        go_wp2_with fail
        go_quiet (fail)
        go_wp2_with fail
        go_ret
        exact ⟨by rw [HV.out]; rfl, below_drewN (below_drewN HBW.out _) _⟩
    · have HV : Hid (cmps l r = 0) := Lib.hid (by rw [hE.out, List.drop_eq_nil_of_le (by have := HN.out; omega)]; rfl)
      go_wp2_with fail
      go_ret
      exact ⟨by rw [HV.out]; rfl, HBW.out⟩

theorem rd_str {w : World} {b : Nat} {s : ByteArray} {t : TypeId} (h : w.heap[b]? = some (.cells #[.string s] t (0, 0))) : Rd w w.heap.size (some ⟨b, 0, none⟩) (sc [s]) := fun _ => ⟨b, 0, rfl, lt_of_block h, fun j u hu => by
  have hj : j < 1 := by have := (List.getElem?_eq_some_iff.1 hu).1; simpa [sc] using this
  obtain rfl : j = 0 := by omega
  rw [cell_of_block h, ← hu]; rfl⟩
theorem cmps_two (a b c d : ByteArray) : cmps [a, b] [c, d] = if Pl.cmp a c = 0 then Pl.cmp b d else Pl.cmp a c := by
  have h1 : cmps [a, b] [c, d] = if Pl.lt a c = true then -1 else if Pl.lt c a = true then 1 else cmps [b] [d] := rfl
  have h2 : cmps [a] [c] = if Pl.lt a c = true then -1 else if Pl.lt c a = true then 1 else 0 := rfl
  rw [cmps_one] at h1 h2
  rw [h1, h2]
  by_cases x : Pl.lt a c = true
  · simp [x]
  · by_cases y : Pl.lt c a = true
    · simp [x, y]
    · simp [x, y]
theorem rd_str2 {w : World} {b : Nat} {s s2 : ByteArray} {t : TypeId} (h : w.heap[b]? = some (.cells #[.string s, .string s2] t (0, 0))) : Rd w w.heap.size (some ⟨b, 0, none⟩) (sc [s, s2]) := fun _ => ⟨b, 0, rfl, lt_of_block h, fun j u hu => by
  have hj : j < 2 := by have := (List.getElem?_eq_some_iff.1 hu).1; simpa [sc] using this
  rw [cell_of_block h, ← hu, Nat.zero_add]
  match j, hj with
  | 0, _ => rfl
  | 1, _ => rfl⟩
end Go.Proofs.YtjphjblcahadkaaGreat
