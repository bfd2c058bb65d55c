/-
  CONTRACT of Rises.
-/
import Derived.Test.YtcpfhmipjpbhnaaTSame
import Derived.Deep.RegionHeld3
import Derived.IntWalk
import Derived.Deep.LoopGhost
namespace Go.Proofs.Ytcpfhmipjpbhnaa
open Go.RowKit
open Pl (risesL risesL_true risesL_false)

set_option maxRecDepth 100000 in
set_option maxHeartbeats 800000 in
theorem rises1_any (bp bl bi b off n c k : Nat) (s1 s : ByteArray) (z1 z : Int) (w : World) (hp : w.cell? ⟨bp, 0, none⟩ = some tf) (hl : w.cell? ⟨bl, 0, none⟩ = some (.slice (some ⟨b, off, none⟩) n c)) (hi : w.cell? ⟨bi, 0, none⟩ = some (.int .i64 ((k : Int) + 1)))
    (hc0 : w.cell? ⟨b, off + k * 2, none⟩ = some (.string s1)) (hc1 : w.cell? ⟨b, off + k * 2 + 1, none⟩ = some (.int .i64 z1)) (hkn : k < n) (hn : n ≤ 140737488355328) :
    Calls Try.prog 28 #[pv s z, .pointer (some ⟨bp, 0, none⟩), .pointer (some ⟨bl, 0, none⟩), .pointer (some ⟨bi, 0, none⟩)] w fun e w' => e = .returned (.bool (Pl.lt s1 s)) ∧ Below w.heap.size w w' := by
  have hcm := Lib.hid (Pl.cmp_neg s1 s)
  have lp := World.block_lt_of_cell? w _ hp
  have ll := World.block_lt_of_cell? w _ hl
  have li := World.block_lt_of_cell? w _ hi
  have lb := World.block_lt_of_cell? w _ hc0
  have h1 : (0 : Int) ≤ (k : Int) := by omega
  have h2 : (k : Int) < (n : Int) := by omega
  have h3 : (k : Int) + 1 ≤ 140737488355328 := by omega
  have hw2 : IntKind.i64.wrap (k : Int) = (k : Int) := IntWalk.i64_in _ (by omega)
  have hw1 : IntKind.i64.wrap ((k : Int) + 1 - 1) = (k : Int) := by rw [show (k : Int) + 1 - 1 = (k : Int) from by omega]; exact hw2
  have htn : ((k : Int)).toNat = k := by omega
  go_enter Try.func28, Try.ntmps28
  go_wp2_with fail
  go_region_held3 (fun w' => w'.cell? ⟨bp, 0, none⟩ = some tf ∧ w'.cell? ⟨bl, 0, none⟩ = some (.slice (some ⟨b, off, none⟩) n c) ∧ w'.cell? ⟨bi, 0, none⟩ = some (.int .i64 ((k : Int) + 1)) ∧
      w'.cell? ⟨b, off + k * 2, none⟩ = some (.string s1) ∧ w'.cell? ⟨b, off + k * 2 + 1, none⟩ = some (.int .i64 z1) ∧ w'.cell? ⟨w.heap.size, 0, none⟩ = some (.string s) ∧ w'.cell? ⟨w.heap.size, 1, none⟩ = some (.int .i64 z))
    (first
      | go_keep
      | (go_split_ands
         refine ⟨(hb.cell (by simp; omega)).trans (by assumption), (hb.cell (by simp; omega)).trans (by assumption), (hb.cell (by simp; omega)).trans (by assumption), (hb.cell (by simp; omega)).trans (by assumption), (hb.cell (by simp; omega)).trans (by assumption), (hb.cell (by simp)).trans (by assumption), (hb.cell (by simp)).trans (by assumption)⟩))
    ((go_at_call 22; refine (order_any _ _ _ _ _).mono ?_; rintro e w' ⟨rfl, hb⟩))
  clear hw1 hw2 htn
  have B1 := Lib.hid (((Below.refl _ w).alloc (Nat.le_refl _) (.cells #[.string s, .int .i64 z] 24)).drew.trans (hb.mono (show w.heap.size ≤ _ by simp)))
  clear hb
  go_wp2_with fail
  go_ret
  exact ⟨by rw [← hcm.out]; rfl, B1.out⟩

theorem tells_rises (bp bl bi b off n c k : Nat) (s1 : ByteArray) (z1 : Int) (w : World) (hp : w.cell? ⟨bp, 0, none⟩ = some tf) (hl : w.cell? ⟨bl, 0, none⟩ = some (.slice (some ⟨b, off, none⟩) n c)) (hi : w.cell? ⟨bi, 0, none⟩ = some (.int .i64 ((k : Int) + 1)))
    (hc0 : w.cell? ⟨b, off + k * 2, none⟩ = some (.string s1)) (hc1 : w.cell? ⟨b, off + k * 2 + 1, none⟩ = some (.int .i64 z1)) (hkn : k < n) (hn : n ≤ 140737488355328) :
    Tells w 28 #[.pointer (some ⟨bp, 0, none⟩), .pointer (some ⟨bl, 0, none⟩), .pointer (some ⟨bi, 0, none⟩)] (fun s _ => Pl.lt s1 s) := by
  have lp := World.block_lt_of_cell? w _ hp
  have ll := World.block_lt_of_cell? w _ hl
  have li := World.block_lt_of_cell? w _ hi
  have lb := World.block_lt_of_cell? w _ hc0
  refine ⟨fun args W => by kernel_rfl, fun W hW s z => ?_⟩
  exact rises1_any bp bl bi b off n c k s1 s z1 z W ((hW.cell lp).trans hp) ((hW.cell ll).trans hl) ((hW.cell li).trans hi) ((hW.cell (p := ⟨b, off + k * 2, none⟩) lb).trans hc0) ((hW.cell (p := ⟨b, off + k * 2 + 1, none⟩) lb).trans hc1) hkn hn

set_option maxRecDepth 100000 in
set_option maxHeartbeats 1600000 in
theorem rises_any (A : Option Addr) (n c : Nat) (l : List Pl.Pr) (w : World) (hn : n = l.length) (hn63 : n ≤ 140737488355328) (hr : Rd w w.heap.size A (pc l)) :
    Calls Try.prog 19 #[.agg #[tf], .slice A n c] w fun e w' => e = .returned (.bool (risesL l)) ∧ Below w.heap.size w w' := by
  have hmf : ∀ (fn : Fn) (first cap : Array Value) (w : World), (Instr.makeFunc fn first cap).run Try.prog w = .ok (.func fn first cap) w := fun _ _ _ _ => rfl
  have HN := Lib.hid hn
  have HR := Lib.hid hr
  have hW0 : ∃ W0, W0 = (w.alloc (.cells #[tf] 28)).alloc (.cells #[.slice A n c] 22) := ⟨_, rfl⟩
  obtain ⟨W0, hW0⟩ := hW0
  have hB0 : Below w.heap.size w W0 := by rw [hW0]; exact ((Below.refl _ _).alloc (Nat.le_refl _) _).alloc (by simp) _
  have hs0 : W0.heap.size = w.heap.size + 2 := by rw [hW0]; simp
  have hcp : W0.cell? ⟨w.heap.size, 0, none⟩ = some tf := by rw [hW0]; simp [go_sem]
  have hcl : W0.cell? ⟨w.heap.size + 1, 0, none⟩ = some (.slice A n c) := by rw [hW0]; simp [go_sem]
  have HB0 := Lib.hid hB0
  have HS0 := Lib.hid hs0
  have HCP := Lib.hid hcp
  have HCL := Lib.hid hcl
  have HW0 := Lib.hid hW0
  clear hn hr hB0 hs0 hcp hcl hW0
  go_enter Try.func19, Try.ntmps19
  go_wp2_with fail
  go_loopg [5] n (fun g p wr => ∃ k gb : Nat, k ≤ n ∧ g = n - k ∧ p = .pointer (some ⟨gb, 0, none⟩) ∧ wr.cell? ⟨gb, 0, none⟩ = some (.int .i64 ((k : Int) + 1)) ∧ wr.frozen? ⟨gb, 0, none⟩ = false ∧ w.heap.size + 2 ≤ gb ∧ Hid (∀ j, (hj : j + 1 < l.length) → j < k → Pl.lt l[j].1 l[j + 1].1 = true) ∧ Hid (Below (w.heap.size + 2) W0 wr))
  case atStart => 
    refine ⟨0, w.heap.size + 2, by omega, by omega, by simp, by simp [go_sem], by simp [go_sem], by omega, Lib.hid (fun j hj h => by omega), Lib.hid ?_⟩
    rw [← HW0.out]
    exact (Below.refl _ _).alloc (by rw [HS0.out]; omega) _
  case round =>
    obtain ⟨k, gb, hk, rfl, rfl, hci, hfi, hgb, hno, hbel⟩ := hrel
    have hcp := (hbel.out.cell (p := ⟨w.heap.size, 0, none⟩) (by simp)).trans HCP.out
    have hcl := (hbel.out.cell (p := ⟨w.heap.size + 1, 0, none⟩) (by simp)).trans HCL.out
    by_cases hlt : k + 1 < n
    · have hl1 : k + 1 < l.length := by rw [← HN.out]; exact hlt
      have hl : k < l.length := by omega
      obtain ⟨b, off, rfl, hb, hc⟩ := HR.out.pair hl
      have hbb := HB0.out.trans (hbel.out.mono (by omega))
      have hc0 := (hbb.cell (p := ⟨b, off + k * 2, none⟩) hb).trans (hc k hl).1
      have hc1 := (hbb.cell (p := ⟨b, off + k * 2 + 1, none⟩) hb).trans (hc k hl).2
      have hd0 := (hbb.cell (p := ⟨b, off + (k + 1) * 2, none⟩) hb).trans (hc (k + 1) hl1).1
      have hd1 := (hbb.cell (p := ⟨b, off + (k + 1) * 2 + 1, none⟩) hb).trans (hc (k + 1) hl1).2
      clear hc hbb
      have hno1 := hno.out
      have hstep : Pl.lt l[k].1 l[k + 1].1 = true → ∀ j, (hj : j + 1 < l.length) → j < k + 1 → Pl.lt l[j].1 l[j + 1].1 = true := fun h j hj hjk => by
        by_cases e : j = k
        · subst e; exact h
        · exact hno1 j hj (by omega)
      have hbad : Pl.lt l[k].1 l[k + 1].1 = false → risesL l = false := risesL_false hl1
      generalize l[k] = p1 at hc0 hc1 hstep hbad
      generalize l[k + 1] = p2 at hd0 hd1 hstep hbad
      obtain ⟨s1, z1⟩ := p1
      obtain ⟨s2, z2⟩ := p2
      have hT := tells_rises w.heap.size (w.heap.size + 1) gb b off n c k s1 z1 wr hcp hcl hci hc0 hc1 (by omega) hn63
      have h1 : (0 : Int) ≤ (k : Int) + 1 := by omega
      have h2 : (k : Int) + 1 < (n : Int) := by omega
      have HH := Lib.hid (holds_any _ _ _ s2 z2 wr hT)
      have lg := World.block_lt_of_cell? wr _ hci
      clear hT hno1
      by_cases hf : Pl.lt s1 s2 = true
      · have HS := Lib.hid (hstep hf)
        rw [hf] at HH
        clear hstep hbad hf
        go_wp2_with fail
        refine HH.out.mono ?_
        rintro e w1 ⟨rfl, hb1⟩
        have hci1 := (hb1.cell (p := ⟨gb, 0, none⟩) lg).trans hci
        have HB1 := Lib.hid (hbel.out.trans (hb1.mono (by have := hbel.out.size; have := HS0.out; omega)))
        clear hb1 hci hfi hcp hcl hc0 hc1 hd0 hd1
        have hsz := HB1.out.size
        have hs0 := HS0.out
        have hgw : w.heap.size + 2 ≤ w1.heap.size := by omega
        clear hs0
        go_wp2_with fail
        go_roundg (n - (k + 1))
        case measure => omega
        case rel =>
          refine ⟨k + 1, w1.heap.size, by omega, rfl, rfl, by simp [go_sem], by simp [go_sem], hgw, HS, Lib.hid ?_⟩
          exact HB1.out.alloc hgw _
      · have hf' : Pl.lt s1 s2 = false := by simpa using hf
        have HS := Lib.hid (hbad hf')
        rw [hf'] at HH
        clear hstep hbad hf hf'
        go_wp2_with fail
        refine HH.out.mono ?_
        rintro e w1 ⟨rfl, hb1⟩
        have HB1 := Lib.hid (HB0.out.trans ((hbel.out.trans (hb1.mono (by have := hbel.out.size; have := HS0.out; omega))).mono (by omega)))
        clear hb1 hci hfi hcp hcl hc0 hc1 hd0 hd1
        go_wp2_with fail
        go_ret
        exact ⟨by rw [HS.out]; rfl, HB1.out⟩
    · have HS := Lib.hid (show risesL l = true from risesL_true fun j hj => hno.out j hj (by have := HN.out; omega))
      have HB1 := Lib.hid (HB0.out.trans (hbel.out.mono (by omega)))
      go_wp2_with fail
      go_ret
      exact ⟨by rw [HS.out]; rfl, HB1.out⟩
end Go.Proofs.Ytcpfhmipjpbhnaa
