/-
  THE CHAPTER'S EXAMPLES HOLD, over the contracts of index's functions.
-/
import Derived.Test.YtnkhnbpopdmkhaaGreatWCon
import Derived.Test.YtnkhnbpopdmkhaaGreatWSame
import Derived.Test.YtnkhnbpopdmkhaaGreatHSmall
import Derived.Test.YtnkhnbpopdmkhaaGreatHA
namespace Go.Proofs.YtnkhnbpopdmkhaaGreat
set_option linter.unusedVariables false
open Go.RowKit
open Pl (firstG findG putG It)

def mildV : Value → Bool
  | .string s => decide (s.size ≤ 9223372036854775807)
  | .int k z => (Lit.int k z).wf
  | _ => true
theorem mild_of {v : Value} (h : mildV v = true) : Mild v := by
  cases v with
  | string s =>
    have h2 : decide (s.size ≤ 9223372036854775807) = true := h
    have h3 := of_decide_eq_true h2
    exact h3
  | int k z => exact h
  | _ => trivial
theorem mild_ex : MildL exL := fun i hi e he u hu => mild_of (by
  have h : ((List.range 14).all fun i => (exL i).all fun e => e.all mildV) = true := by kernel_rfl
  have h1 := List.all_eq_true.1 (List.all_eq_true.1 (List.all_eq_true.1 h i (List.mem_range.2 hi)) e he) u hu
  exact h1)
set_option maxRecDepth 100000 in
set_option maxHeartbeats 6400000 in
theorem awake_any {IX : World → Nat → (Nat → Prop) → (Nat → List (List Value)) → Prop} (C : ConsX IX) (w : World) : Calls Tryz.prog 6 #[] w fun e w' => e = .returned (.bool true) ∧ Below w.heap.size w w' := by
  have hwf4 : Wf 4 := by unfold Wf; omega
  have hwf20 : Wf 20 := by unfold Wf; omega
  have HCO := Lib.hid C
  have P4 : Hid (∀ W b X, IX W b X exL → Calls Tryz.prog 16 #[.pointer (some ⟨b, 0, none⟩), .string ⟨#[115]⟩, .string ⟨#[110, 117, 116]⟩, .int .i64 4] W fun e w' => Below W.heap.size W w' ∧ ∃ g o c, e = .returned (.slice (some ⟨g, o, none⟩) 2 c) ∧ Rd w' w'.heap.size (some ⟨g, o, none⟩) exP4.flatten) := Lib.hid (fun W b X hX => (C.pick exL b X _ _ 4 W hX (by decide) hwf4).mono (fun e w' ⟨hb, A, c, he, ho⟩ => by
    rw [ex4] at he ho
    obtain ⟨g, o, rfl, hg, hc⟩ := ho (by decide)
    exact ⟨hb, g, o, c, he, ho⟩))
  have P20 : Hid (∀ W b X, IX W b X exL → Calls Tryz.prog 16 #[.pointer (some ⟨b, 0, none⟩), .string ⟨#[115]⟩, .string ⟨#[110, 117, 116]⟩, .int .i64 20] W fun e w' => Below W.heap.size W w' ∧ ∃ g o c, e = .returned (.slice (some ⟨g, o, none⟩) 3 c) ∧ Rd w' w'.heap.size (some ⟨g, o, none⟩) exP20.flatten) := Lib.hid (fun W b X hX => (C.pick exL b X _ _ 20 W hX (by decide) hwf20).mono (fun e w' ⟨hb, A, c, he, ho⟩ => by
    rw [ex20] at he ho
    obtain ⟨g, o, rfl, hg, hc⟩ := ho (by decide)
    exact ⟨hb, g, o, c, he, ho⟩))
  have NV : Hid (∀ (a : Hs) W, HT a exL W → (∀ i, i < 14 → a.n i ≤ 1000) → Calls Tryz.prog 9 #[.agg a.cells, .string ⟨#[115]⟩, .string ⟨#[110, 117, 116]⟩, .int .i64 4] W fun e w' => Below W.heap.size W w' ∧ ∃ A c, e = .returned (.slice A 2 c) ∧ Rd w' w'.heap.size A exP4.flatten) := Lib.hid (fun a W hW hn => (C.naive a exL _ _ 4 W hW hn hwf4).mono (fun e w' ⟨hb, A, c, he, ho⟩ => by
    rw [ex4] at he ho
    exact ⟨hb, A, c, he, ho⟩))
  have OP : Hid (∀ (a : Hs) W, HT a exL W → (∀ i, i < 14 → a.n i ≤ 1000) → Calls Tryz.prog 11 #[.agg a.cells, .string ⟨#[115]⟩, .string ⟨#[110, 117, 116]⟩] W fun e w' => e = .returned (.int .i64 10) ∧ Below W.heap.size W w') := Lib.hid (fun a W hW hn => (C.opens a exL _ _ W hW hn).mono (fun e w' ⟨he, hb⟩ => by
    rw [exO] at he
    exact ⟨he, hb⟩))
  have HTH : Hid (Things kTake exP4) := Lib.hid (by rw [← ex4]; exact things_pick _ _ _ _)
  clear hwf4 hwf20 C
  go_enter Tryz.func6, Tryz.ntmps6
  go_wp2_with fail
  refine (HCO.out.new _).mono ?_
  rintro e w1 ⟨hb1, b, X, rfl, hix, hge⟩
  go_wp2_with fail
  refine (small_any _).mono ?_
  rintro e w2 ⟨a, rfl, hta, hca, hn, hb2, hof⟩
  go_wp2_with fail
  refine (HCO.out.follow a exL (fun _ => []) b X w2 (HCO.out.keep _ _ _ _ _ hix (fun k hk => hb2.block k (HCO.out.lt _ _ _ _ hix k hk))) hta hn mild_ex (fun k hk => hof k (HCO.out.lt _ _ _ _ hix k hk))).mono ?_
  rintro e w3 ⟨rfl, hbf, _, X', hix', hx'⟩
  have B3 := Lib.hid ((hb1.trans (hb2.mono hb1.size)).trans (hbf w.heap.size (Nat.le_trans hb1.size hb2.size) hge))
  have IX3 := Lib.hid hix'
  clear hb1 hix hge hta hca hn hb2 hof hbf hix' hx'
  go_wp2_with fail
  refine (P4.out _ _ _ IX3.out).mono ?_
  rintro e w4 ⟨hb4, g1, o1, c1, rfl, hr4⟩
  have B4 := Lib.hid (B3.out.trans (hb4.mono B3.out.size))
  have IX4 := Lib.hid (HCO.out.keep _ w4 _ _ _ IX3.out (fun k hk => hb4.block k (HCO.out.lt _ _ _ _ IX3.out k hk)))
  have RA4 := Lib.hid hr4
  clear hb4 hr4
  go_wp2_with fail
  refine (P20.out _ _ _ IX4.out).mono ?_
  rintro e w5 ⟨hb5, g2, o2, c2, rfl, hr5⟩
  have B5 := Lib.hid (B4.out.trans (hb5.mono B4.out.size))
  have RA5 := Lib.hid ((RA4.out.below hb5).mono hb5.size)
  have RB5 := Lib.hid hr5
  clear hb5 hr5
  have q0 : w5.cell? ⟨g1, o1, none⟩ = some (.string ⟨#[98, 51]⟩) := by
    obtain ⟨g, o, he, _, hc⟩ := RA5.out (by decide)
    cases he; exact hc 0 _ rfl
  have q1 : w5.cell? ⟨g1, o1 + 4, none⟩ = some (.int .i64 1) := by
    obtain ⟨g, o, he, _, hc⟩ := RA5.out (by decide)
    cases he; exact hc 4 _ rfl
  have q2 : w5.cell? ⟨g1, o1 + 5, none⟩ = some (.string ⟨#[98, 50]⟩) := by
    obtain ⟨g, o, he, _, hc⟩ := RA5.out (by decide)
    cases he; exact hc 5 _ rfl
  have q3 : w5.cell? ⟨g1, o1 + 9, none⟩ = some (.int .i64 3) := by
    obtain ⟨g, o, he, _, hc⟩ := RA5.out (by decide)
    cases he; exact hc 9 _ rfl
  have q4 : w5.cell? ⟨g2, o2 + 10, none⟩ = some (.string ⟨#[98, 49]⟩) := by
    obtain ⟨g, o, he, _, hc⟩ := RB5.out (by decide)
    cases he; exact hc 10 _ rfl
  have q5 : w5.cell? ⟨g2, o2 + 14, none⟩ = some (.int .i64 4) := by
    obtain ⟨g, o, he, _, hc⟩ := RB5.out (by decide)
    cases he; exact hc 14 _ rfl
  go_wp2_with fail
  clear q0 q1 q2 q3 q4 q5 RB5
  refine (small_any _).mono ?_
  rintro e w6 ⟨a6, rfl, ht6, hca, hn6, hb6, hof⟩
  have B6 := Lib.hid (B5.out.trans (hb6.mono B5.out.size))
  have RA6 := Lib.hid ((RA5.out.below hb6).mono hb6.size)
  have HT6 := Lib.hid ht6
  have HN6 := Lib.hid hn6
  clear ht6 hca hn6 hb6 hof
  go_wp2_with fail
  refine (NV.out a6 _ HT6.out HN6.out).mono ?_
  rintro e w7 ⟨hb7, A7, c7, rfl, hr7⟩
  have B7 := Lib.hid (B6.out.trans (hb7.mono B6.out.size))
  have RA7 := Lib.hid ((RA6.out.below hb7).mono hb7.size)
  have RN7 := Lib.hid hr7
  clear hb7 hr7 HT6 HN6
  go_wp2_with fail
  refine (same_any A7 (some ⟨g1, o1, none⟩) 2 c7 c1 exP4 _ rfl (by decide) HTH.out RN7.out RA7.out).mono ?_
  rintro e w8 ⟨rfl, hb8⟩
  have B8 := Lib.hid (B7.out.trans (hb8.mono B7.out.size))
  clear hb8
  go_wp2_with fail
  refine (small_any _).mono ?_
  rintro e w9 ⟨a9, rfl, ht9, hca, hn9, hb9, hof⟩
  have B9 := Lib.hid (B8.out.trans (hb9.mono B8.out.size))
  have HT9 := Lib.hid ht9
  have HN9 := Lib.hid hn9
  clear ht9 hca hn9 hb9 hof
  go_wp2_with fail
  refine (OP.out a9 _ HT9.out HN9.out).mono ?_
  rintro e wx ⟨rfl, hbx⟩
  have BX := Lib.hid (B9.out.trans (hbx.mono B9.out.size))
  clear hbx
  go_wp2_with fail
  go_ret
  exact ⟨rfl, BX.out⟩
end Go.Proofs.YtnkhnbpopdmkhaaGreat
