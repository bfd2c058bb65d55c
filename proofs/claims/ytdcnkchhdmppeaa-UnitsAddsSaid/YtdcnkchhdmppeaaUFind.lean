/-
  CONTRACTS of the code's named, of slices.IndexFunc and slices.ContainsFunc over units.
-/
import Derived.Test.YtdcnkchhdmppeaaURSplit
import Derived.Test.YtdcnkchhdmppeaaUSort
namespace Go.Proofs.Ytdcnkchhdmppeaa
set_option linter.unusedVariables false
open Go.RowKit
open Pl (It)

/-- A unit by value. -/
abbrev uv (s : ByteArray) (z : Int) : Value := .agg #[.string s, .int .i64 z]

theorem named1_any (bq : Nat) (s t : ByteArray) (z : Int) (w : World) (hq : w.cell? ⟨bq, 0, none⟩ = some (.string t)) (lq : bq < w.heap.size) :
    Calls Try.prog 21 #[uv s z, .pointer (some ⟨bq, 0, none⟩)] w fun e w' => e = .returned (.bool (Pl.eqv s t)) ∧ Below w.heap.size w w' := by
  go_enter Try.func21, Try.ntmps21
  go_wp2_with fail
  go_ret
  exact ⟨rfl, ((Below.refl _ w).alloc (Nat.le_refl _) _)⟩

/-- A function value of units that answers f, in every world behind w. -/
def TellsU (w : World) (K : Nat) (cap : Array Value) (f : ByteArray → Bool) : Prop :=
  (∀ (args : Array Value) (W : World), (callFunc K args).run Try.prog W = .ok (.enter K args) W) ∧
  ∀ W, Below w.heap.size w W → ∀ s n, Calls Try.prog K (#[uv s n] ++ cap) W fun e W' => e = .returned (.bool (f s)) ∧ Below W.heap.size W W'
theorem TellsU.later {w w' : World} {K : Nat} {cap : Array Value} {f : ByteArray → Bool} (h : TellsU w K cap f) (hb : Below w.heap.size w w') : TellsU w' K cap f :=
  ⟨h.1, fun W hW s n => h.2 W (hb.trans (hW.mono hb.size)) s n⟩

theorem makef {P : Program} (fn : Fn) (first cap : Array Value) (w : World) : (Instr.makeFunc fn first cap).run P w = .ok (.func fn first cap) w := rfl
/-- named hands back a function that knows the name. -/
theorem named_any (t : ByteArray) (w : World) : Calls Try.prog 16 #[.string t] w fun e w' =>
    e = .returned (.func (.func 21) #[] #[.pointer (some ⟨w.heap.size, 0, none⟩)]) ∧ TellsU w' 21 #[.pointer (some ⟨w.heap.size, 0, none⟩)] (fun s => Pl.eqv s t) ∧ Below w.heap.size w w' := by
  have hmf : ∀ (fn : Fn) (first cap : Array Value) (w : World), (Instr.makeFunc fn first cap).run Try.prog w = .ok (.func fn first cap) w := fun _ _ _ _ => rfl
  go_enter Try.func16, Try.ntmps16
  go_wp2_with fail
  go_ret
  refine ⟨rfl, ⟨enters_of Try.func21 (by kernel_rfl) rfl, fun W hW s n => named1_any _ s t n W ?_ ?_⟩, (Below.refl _ w).alloc (Nat.le_refl _) _⟩
  · exact (hW.cell (p := ⟨w.heap.size, 0, none⟩) (by simp)).trans (by simp [go_sem])
  · have := hW.size; simp at this; omega

/-- The row at b holds these units. -/
def UC (w : World) (b : Nat) (l : List (ByteArray × Int)) : Prop := b < w.heap.size ∧ ∀ i (hi : i < l.length), w.cell? ⟨b, i * 2, none⟩ = some (.string l[i].1) ∧ w.cell? ⟨b, i * 2 + 1, none⟩ = some (.int .i64 l[i].2)
theorem prC_at : ∀ (l : List (ByteArray × Int)) (i : Nat) (hi : i < l.length), (prC l).flatten[i * 2]? = some (.string l[i].1) ∧ (prC l).flatten[i * 2 + 1]? = some (.int .i64 l[i].2)
  | p :: l, 0, _ => ⟨rfl, rfl⟩
  | p :: l, i + 1, hi => by
    have := prC_at l i (by simpa using hi)
    rw [show (i + 1) * 2 = i * 2 + 2 from by omega, show i * 2 + 2 + 1 = i * 2 + 1 + 2 from by omega]
    exact this
theorem UC.of_own {w : World} {B b n c T : Nat} {l : List (ByteArray × Int)} (h : w.ownsRow B T 2 (.slice (some ⟨b, 0, none⟩) n c) n (prC l).flatten) (hb : b < w.heap.size) (hn : n = l.length) : UC w b l :=
  ⟨hb, fun i hi => ⟨by rw [h.cellAt (i * 2) (by omega)]; exact (prC_at l i hi).1, by rw [h.cellAt (i * 2 + 1) (by omega)]; exact (prC_at l i hi).2⟩⟩
theorem UC.below {w w' : World} {b : Nat} {l : List (ByteArray × Int)} (h : UC w b l) (hb : Below w.heap.size w w') : UC w' b l :=
  ⟨Nat.lt_of_lt_of_le h.1 hb.size, fun i hi => ⟨(hb.cell (p := ⟨b, i * 2, none⟩) h.1).trans (h.2 i hi).1, (hb.cell (p := ⟨b, i * 2 + 1, none⟩) h.1).trans (h.2 i hi).2⟩⟩

theorem own_lt {w : World} {B n c g T : Nat} {xs : List Value} (h : w.ownsRow B T 2 (.slice (some ⟨g, 0, none⟩) n c) n xs) : g < w.heap.size := by
  obtain ⟨_, h | ⟨g', cap, cur, hv, hg, hh, hr⟩⟩ := h
  · exact absurd h.1 (by simp)
  · injection hv with h1; injection h1 with h1; injection h1 with h1; subst h1; exact lt_of_block hh

/-- Where the first unit stands whose name passes. -/
def firstU (f : ByteArray → Bool) (l : List (ByteArray × Int)) : Int := match l.findIdx? (fun p => f p.1) with
  | some i => (i : Int)
  | none => -1

set_option maxRecDepth 100000 in
set_option maxHeartbeats 800000 in
theorem index_any (b c j K : Nat) (cap : Array Value) (f : ByteArray → Bool) (l : List (ByteArray × Int)) (w : World) (hj : j ≤ 1000) (hjl : j = l.length) (hc : UC w b l) (hT : TellsU w K cap f) :
    Calls Try.prog 15 #[.slice (some ⟨b, 0, none⟩) j c, .func (.func K) #[] cap] w fun e w' => e = .returned (.int .i64 (firstU f l)) ∧ Below w.heap.size w w' := by
  have HC := Lib.hid hc
  have HT := Lib.hid hT
  have HJ := Lib.hid hjl
  have hent := hT.1
  clear hc hT hjl
  go_enter Try.func15, Try.ntmps15
  go_wp2_with fail
  go_loopw [8] (fun i wr => ∃ k : Nat, k ≤ j ∧ i = .int .i64 (k : Int) ∧ Hid (∀ i (hi : i < l.length), i < k → f l[i].1 = false) ∧ Hid (Below w.heap.size w wr)) (fun i _ => j - (intOf i).toNat)
  case atStart => exact ⟨0, by omega, rfl, Lib.hid (fun i hi h => by omega), Lib.hid (Below.refl _ _)⟩
  case round =>
    obtain ⟨k, hk, rfl, hno, hbel⟩ := hrel
    by_cases hlt : k < j
    · have hkl : k < l.length := by rw [← HJ.out]; exact hlt
      have hc0 := (HC.out.below hbel.out).2 k hkl |>.1
      have hc1 := (HC.out.below hbel.out).2 k hkl |>.2
      have hlb : b < wr.heap.size := (HC.out.below hbel.out).1
      obtain ⟨s, hs⟩ : ∃ s, l[k].1 = s := ⟨_, rfl⟩
      obtain ⟨z, hz⟩ : ∃ z, l[k].2 = z := ⟨_, rfl⟩
      rw [hs] at hc0
      rw [hz] at hc1
      have HS := Lib.hid hs
      clear hs hz
      cases hf : f s with
      | true =>
        have HF := Lib.hid hf
        clear hf
        have HKL := Lib.hid hkl
        go_wp2_with fail
        refine (HT.out.2 _ hbel.out s z).mono ?_
        rintro e w1 ⟨rfl, hb1⟩
        have B1 := Lib.hid (hbel.out.trans (hb1.mono hbel.out.size))
        clear hb1
        have hf := HF.out
        go_wp2_with fail
        go_ret
        refine ⟨?_, B1.out⟩
        have : l.findIdx? (fun p => f p.1) = some k := by
          rw [List.findIdx?_eq_some_iff_getElem]
          exact ⟨HKL.out, by rw [HS.out]; exact HF.out, fun i hi => by rw [hno.out i (by have := HKL.out; omega) hi]; simp⟩
        unfold firstU; rw [this]; rfl
      | false =>
        have HF := Lib.hid hf
        clear hf
        have HNO : Hid (∀ i (hi : i < l.length), i < k + 1 → f l[i].1 = false) := Lib.hid (fun i hl hi => by
          by_cases e : i = k
          · subst e; rw [HS.out]; exact HF.out
          · exact hno.out i hl (by omega))
        go_wp2_with fail
        refine (HT.out.2 _ hbel.out s z).mono ?_
        rintro e w1 ⟨rfl, hb1⟩
        have B1 := Lib.hid (hbel.out.trans (hb1.mono hbel.out.size))
        clear hb1
        have hf := HF.out
        go_wp2_with fail
        go_roundw
        case rel => exact ⟨k + 1, by omega, by go_num, HNO, B1⟩
        case measure => simp [intOf]; omega
    · have hk' : k = j := by omega
      subst hk'
      go_wp2_with fail
      go_ret
      refine ⟨?_, hbel.out⟩
      have : l.findIdx? (fun p => f p.1) = none := by
        rw [List.findIdx?_eq_none_iff]
        intro p hp
        obtain ⟨i, hi, rfl⟩ := List.mem_iff_getElem.1 hp
        exact hno.out i hi (by rw [HJ.out]; exact hi)
      unfold firstU; rw [this]; rfl

theorem first_any (f : ByteArray → Bool) (l : List (ByteArray × Int)) : decide (0 ≤ firstU f l) = l.any fun p => f p.1 := by
  unfold firstU
  cases h : l.findIdx? (fun p => f p.1) with
  | none =>
    rw [List.findIdx?_eq_none_iff] at h
    rw [show (l.any fun p => f p.1) = false from List.any_eq_false.2 (fun p hp => by rw [h p hp]; simp)]
    rfl
  | some i =>
    obtain ⟨hi, h1, _⟩ := List.findIdx?_eq_some_iff_getElem.1 h
    rw [show (l.any fun p => f p.1) = true from List.any_eq_true.2 ⟨l[i], List.getElem_mem hi, h1⟩]
    simp
theorem contains_any (b c j K : Nat) (cap : Array Value) (f : ByteArray → Bool) (l : List (ByteArray × Int)) (w : World) (hj : j ≤ 1000) (hjl : j = l.length) (hc : UC w b l) (hT : TellsU w K cap f) :
    Calls Try.prog 20 #[.slice (some ⟨b, 0, none⟩) j c, .func (.func K) #[] cap] w fun e w' => e = .returned (.bool (l.any fun p => f p.1)) ∧ Below w.heap.size w w' := by
  have H := Lib.hid (index_any b c j K cap f l w hj hjl hc hT)
  have HA := Lib.hid (first_any f l)
  clear hc hT hjl
  go_enter Try.func20, Try.ntmps20
  go_wp2_with fail
  refine H.out.mono ?_
  rintro e w1 ⟨rfl, hb1⟩
  have B1 := Lib.hid hb1
  clear hb1
  obtain ⟨r, hr⟩ : ∃ r, firstU f l = r := ⟨_, rfl⟩
  rw [hr]
  have HR := Lib.hid hr
  clear hr
  go_wp2_with fail
  go_ret
  exact ⟨by rw [← HA.out, HR.out]; rfl, B1.out⟩
end Go.Proofs.Ytdcnkchhdmppeaa
