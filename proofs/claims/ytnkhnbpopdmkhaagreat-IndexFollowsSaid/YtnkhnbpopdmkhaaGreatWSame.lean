/-
  CONTRACT of the law's same: two lists of takes that read alike are the same.
-/
import Derived.Test.YtnkhnbpopdmkhaaGreatWPl
import Derived.Test.YtnkhnbpopdmkhaaGreatGT
import Derived.BigQuiet
namespace Go.Proofs.YtnkhnbpopdmkhaaGreat
set_option linter.unusedVariables false
open Go.RowKit

theorem eqTake : EqT Tryz.prog 3 62 true kTake := by
  refine struct_eq (h := 2) (ks := kTake) Tryz.underlying62 (by kernel_rfl) (by kernel_rfl) ?_
  unfold kTake
  refine FieldsOk.cons (agg := true) (ks := kKey) (ks' := ([.i] ++ ([] : List CK))) ?_ ?_ ?_ ?_ ?_
  · rfl
  · decide
  · decide
  · exact eqKey.mono (by decide)
  refine FieldsOk.cons (agg := false) (ks := [.i]) (ks' := ([] : List CK)) ?_ ?_ ?_ ?_ ?_
  · rfl
  · decide
  · decide
  · exact eqI.mono (by decide)
  exact FieldsOk.nil _
set_option maxRecDepth 100000 in
set_option maxHeartbeats 1600000 in
theorem same_any (A A2 : Option Addr) (n c c2 : Nat) (L : List (List Value)) (w : World) (hn : n = L.length) (hn6 : n ≤ 1000000) (hL : Things kTake L) (hr : Rd w w.heap.size A L.flatten) (hr2 : Rd w w.heap.size A2 L.flatten) :
    Calls Tryz.prog 8 #[.slice A n c, .slice A2 n c2] w fun e w' => e = .returned (.bool true) ∧ Below w.heap.size w w' := by
  have HN := Lib.hid hn
  have HR := Lib.hid hr
  have HR2 := Lib.hid hr2
  have HL := Lib.hid hL
  have hk : kTake.length = 5 := by decide
  have hu := Tryz.underlying62
  have HSZ : Hid (∀ y, Fits kTake y → (Tryz.prog.info? 62).map (·.size) = some y.length) := Lib.hid (fun y hy => by rw [show (Tryz.prog.info? 62).map (·.size) = some 5 from by kernel_rfl, hy.length]; rfl)
  clear hn hr hr2 hL
  go_enter Tryz.func8, Tryz.ntmps8
  go_wp2_with fail
  go_loopw [5] (fun i wr => ∃ k : Nat, k ≤ n ∧ i = .int .i64 (k : Int) ∧ Hid (Below w.heap.size w wr)) (fun i _ => n - (intOf i).toNat)
  case atStart => exact ⟨0, by omega, rfl, Lib.hid (Below.refl _ _)⟩
  case round =>
    obtain ⟨k, hkn, rfl, hbel⟩ := hrel
    by_cases hlt : k < n
    · have hl : k < L.length := by rw [← HN.out]; exact hlt
      obtain ⟨b, off, rfl, hb, hc⟩ := HR.out.thing HL.out (by rw [hk]; decide) hl
      obtain ⟨b2, off2, rfl, hb2, hc2⟩ := HR2.out.thing HL.out (by rw [hk]; decide) hl
      have fx := HL.out _ (List.getElem_mem hl)
      have r1 := rangeAt_below (hc k hl) hb hbel.out
      have r2 := rangeAt_below (hc2 k hl) hb2 hbel.out
      rw [hk] at r1 r2
      have hbl : b < wr.heap.size := Nat.lt_of_lt_of_le hb hbel.out.size
      have hbl2 : b2 < wr.heap.size := Nat.lt_of_lt_of_le hb2 hbel.out.size
      have h1 : (0 : Int) ≤ (k : Int) := by omega
      have h2 : (k : Int) < (n : Int) := by omega
      obtain ⟨x, hx⟩ : ∃ x, L[k] = x := ⟨_, rfl⟩
      rw [hx] at fx r1 r2
      have hne : ∀ W, (binOp .neq 62 (.agg x.toArray) (.agg x.toArray)).run Tryz.prog W = .ok (.bool false) W := fun W => by
        obtain ⟨v, e1, e2⟩ := neq_struct (P := Tryz.prog) eqTake (by decide) x x W fx fx
        rw [e1, e2.2 rfl]
      have RX : Hid (∀ X : BW wr, X.W.rangeAt b (off + k * 5) x) := Lib.hid (fun X => rangeAt_below r1 hbl X.h)
      have RY : Hid (∀ X : BW wr, X.W.rangeAt b2 (off2 + k * 5) x) := Lib.hid (fun X => rangeAt_below r2 hbl2 X.h)
      have HIX := Lib.hid (HSZ.out x fx)
      clear hc hc2 r1 r2 hx fx hb hb2 hbl hbl2
      go_wp2_with fail
      refine wp_grow wr (by kernel_rfl) (by kernel_rfl) (Below.refl _ _) ?_
      simp only []
      iterate 3 go_big_quiet_step (fail)
      refine BigFrame.wpQuiet_want (by kernel_rfl) (fun K hK => quiet_load_mid 62 (.tmp 19) rfl b (off + k * 5) rfl x _ (fun W ⟨X, hX⟩ => by rw [hX]; exact RX.out X) hu rfl HIX.out (hK _ ?_))
      simp only [ax]
      iterate 3 go_big_quiet_step (fail)
      refine BigFrame.wpQuiet_want (by kernel_rfl) (fun K hK => quiet_load_mid 62 (.tmp 23) rfl b2 (off2 + k * 5) rfl x _ (fun W ⟨X, hX⟩ => by rw [hX]; exact RY.out X) hu rfl HIX.out (hK _ ?_))
      simp only [ax]
      go_big_quiet_step (fail)
      refine wpQuiet_nil ?_
      intro X
      obtain ⟨w1, hb1⟩ := X
      simp only []
      have B1 := Lib.hid (hbel.out.trans (hb1.mono hbel.out.size))
      clear hb1 RX RY hne
      go_wp2_with fail
      go_roundw
      case rel => exact ⟨k + 1, by omega, by go_num, B1⟩
      case measure => simp [intOf]; omega
    · go_wp2_with fail
      go_ret
      exact ⟨rfl, hbel.out⟩
end Go.Proofs.YtnkhnbpopdmkhaaGreat
