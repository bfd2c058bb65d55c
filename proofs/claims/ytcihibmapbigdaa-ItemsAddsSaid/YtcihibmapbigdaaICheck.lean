/-
  CONTRACTS of items' inRange, checkUnit, checkUnits, Check.
-/
import Derived.Test.YtcihibmapbigdaaIName
import Derived.BigQuiet
import Derived.Deep.RegionHeld3
namespace Go.Proofs.Ytcihibmapbigdaa
set_option linter.unusedVariables false
open Go.RowKit
open Pl (It)

theorem range_any (n lo hi : Int) (w : World) : Calls Try.prog 54 #[.int .i64 n, .int .i64 lo, .int .i64 hi] w fun e w' => e = .returned (.bool (decide (lo ≤ n) && decide (n ≤ hi))) ∧ w' = w := by
  by_cases h1 : lo ≤ n
  · by_cases h2 : n ≤ hi
    · go_enter Try.func54, Try.ntmps54
      go_wp2
      go_ret
      simp [h2]; omega
    · go_enter Try.func54, Try.ntmps54
      go_wp2
      go_ret
      simp; omega
  · go_enter Try.func54, Try.ntmps54
    go_wp2
    go_ret
    simp
    intro h; omega

/-- A unit by value. -/
abbrev uv (s : ByteArray) (z : Int) : Value := .agg #[.string s, .int .i64 z]

theorem cu1_any (bq : Nat) (s t : ByteArray) (z : Int) (w : World) (hq : w.cell? ⟨bq, 0, none⟩ = some (.string t)) (lq : bq < w.heap.size) :
    Calls Try.prog 69 #[uv s z, .pointer (some ⟨bq, 0, none⟩)] w fun e w' => e = .returned (.bool (Pl.eqv s t)) ∧ Below w.heap.size w w' := by
  go_enter Try.func69, Try.ntmps69
  go_wp2_with fail
  go_ret
  exact ⟨rfl, ((Below.refl _ w).alloc (Nat.le_refl _) _)⟩

/-- A function value of units that answers f, in every world behind w. -/
def TellsU (w : World) (K : Nat) (cap : Array Value) (f : ByteArray → Bool) : Prop :=
  (∀ (args : Array Value) (W : World), (callFunc K args).run Try.prog W = .ok (.enter K args) W) ∧
  ∀ W, Below w.heap.size w W → ∀ s n, Calls Try.prog K (#[uv s n] ++ cap) W fun e W' => e = .returned (.bool (f s)) ∧ Below W.heap.size W W'
theorem TellsU.later {w w' : World} {K : Nat} {cap : Array Value} {f : ByteArray → Bool} (h : TellsU w K cap f) (hb : Below w.heap.size w w') : TellsU w' K cap f :=
  ⟨h.1, fun W hW s n => h.2 W (hb.trans (hW.mono hb.size)) s n⟩

theorem any_lt {f : Nat → Bool} {n : Nat} (h : ∀ i, i < n → f i = false) : (List.range n).any f = false := by
  rw [List.any_eq_false]
  intro i hi
  rw [h i (List.mem_range.1 hi)]; simp
theorem any_at {f : Nat → Bool} {n i : Nat} (hi : i < n) (h : f i = true) : (List.range n).any f = true := List.any_eq_true.2 ⟨i, List.mem_range.2 hi, h⟩

set_option maxRecDepth 100000 in
set_option maxHeartbeats 800000 in
theorem index_any (b c j K : Nat) (cap : Array Value) (f : ByteArray → Bool) (nm : Nat → ByteArray) (fc : Nat → Int) (w : World) (hj : j ≤ 1000) (hb : b < w.heap.size)
    (hc : ∀ i, i < j → w.cell? ⟨b, i * 2, none⟩ = some (.string (nm i)) ∧ w.cell? ⟨b, i * 2 + 1, none⟩ = some (.int .i64 (fc i))) (hT : TellsU w K cap f) :
    Calls Try.prog 72 #[.slice (some ⟨b, 0, none⟩) j c, .func (.func K) #[] cap] w fun e w' => (∃ r : Int, e = .returned (.int .i64 r) ∧ decide (0 ≤ r) = (List.range j).any fun i => f (nm i)) ∧ Below w.heap.size w w' := by
  have HC := Lib.hid hc
  have HT := Lib.hid hT
  have hent := hT.1
  clear hc hT
  go_enter Try.func72, Try.ntmps72
  go_wp2_with fail
  go_loopw [8] (fun i wr => ∃ k : Nat, k ≤ j ∧ i = .int .i64 (k : Int) ∧ Hid (∀ i, i < k → f (nm i) = false) ∧ Hid (Below w.heap.size w wr)) (fun i _ => j - (intOf i).toNat)
  case atStart => exact ⟨0, by omega, rfl, Lib.hid (fun i h => by omega), Lib.hid (Below.refl _ _)⟩
  case round =>
    obtain ⟨k, hk, rfl, hno, hbel⟩ := hrel
    by_cases hlt : k < j
    · have hc0 := (hbel.out.cell (p := ⟨b, k * 2, none⟩) hb).trans (HC.out k hlt).1
      have hc1 := (hbel.out.cell (p := ⟨b, k * 2 + 1, none⟩) hb).trans (HC.out k hlt).2
      have hlb : b < wr.heap.size := Nat.lt_of_lt_of_le hb hbel.out.size
      obtain ⟨s, hs⟩ : ∃ s, nm k = s := ⟨_, rfl⟩
      obtain ⟨z, hz⟩ : ∃ z, fc k = z := ⟨_, rfl⟩
      rw [hs] at hc0
      rw [hz] at hc1
      have HS := Lib.hid hs
      clear hs hz
      cases hf : f s with
      | true =>
        have HF := Lib.hid hf
        clear hf
        go_wp2_with fail
        refine (HT.out.2 _ hbel.out s z).mono ?_
        rintro e w1 ⟨rfl, hb1⟩
        have B1 := Lib.hid (hbel.out.trans (hb1.mono hbel.out.size))
        clear hb1
        have hf := HF.out
        go_wp2_with fail
        go_ret
        exact ⟨⟨(k : Int), rfl, by rw [any_at hlt (by rw [HS.out]; exact HF.out)]; simp⟩, B1.out⟩
      | false =>
        have HF := Lib.hid hf
        clear hf
        have HNO : Hid (∀ i, i < k + 1 → f (nm i) = false) := Lib.hid (fun i hi => by
          by_cases e : i = k
          · subst e; rw [HS.out]; exact HF.out
          · exact hno.out i (by omega))
        go_wp2_with fail
        refine (HT.out.2 _ hbel.out s z).mono ?_
        rintro e w1 ⟨rfl, hb1⟩
        have B1 := Lib.hid (hbel.out.trans (hb1.mono hbel.out.size))
        clear hb1
        have hf := HF.out
        go_wp2_with fail
        go_roundw
        case rel => exact ⟨k + 1, by omega, by go_num, HNO, B1⟩
        case measure => simp [intOf]; omega
    · have hk' : k = j := by omega
      subst hk'
      go_wp2_with fail
      go_ret
      exact ⟨⟨-1, rfl, by rw [any_lt hno.out]; decide⟩, hbel.out⟩

theorem contains_any (b c j K : Nat) (cap : Array Value) (f : ByteArray → Bool) (nm : Nat → ByteArray) (fc : Nat → Int) (w : World) (hj : j ≤ 1000) (hb : b < w.heap.size)
    (hc : ∀ i, i < j → w.cell? ⟨b, i * 2, none⟩ = some (.string (nm i)) ∧ w.cell? ⟨b, i * 2 + 1, none⟩ = some (.int .i64 (fc i))) (hT : TellsU w K cap f) :
    Calls Try.prog 68 #[.slice (some ⟨b, 0, none⟩) j c, .func (.func K) #[] cap] w fun e w' => e = .returned (.bool ((List.range j).any fun i => f (nm i))) ∧ Below w.heap.size w w' := by
  have H := Lib.hid (index_any b c j K cap f nm fc w hj hb hc hT)
  clear hc hT hb
  go_enter Try.func68, Try.ntmps68
  go_wp2_with fail
  refine H.out.mono ?_
  rintro e w1 ⟨⟨r, rfl, hr⟩, hb1⟩
  have HR := Lib.hid hr
  have B1 := Lib.hid hb1
  clear hr hb1
  go_wp2_with fail
  go_ret
  exact ⟨by rw [← HR.out]; rfl, B1.out⟩
end Go.Proofs.Ytcihibmapbigdaa
