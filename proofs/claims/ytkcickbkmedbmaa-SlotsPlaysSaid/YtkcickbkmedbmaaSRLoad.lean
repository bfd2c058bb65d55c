/-
  CONTRACT of the reference's Load.
-/
import Derived.Test.YtkcickbkmedbmaaSRSlot
namespace Go.Proofs.Ytkcickbkmedbmaa
open Go.RowKit Go.Maps

set_option maxRecDepth 100000 in
set_option maxHeartbeats 1600000 in
theorem rload_any (Y : Nat → Prop) (br n : Nat) (s : St) (w : World) (h : RM w Y br n s) (hn : n ≤ 1000000) (hoff : s.off = false) :
    Calls Try.prog 17 #[.pointer (some ⟨br, 0, none⟩)] w fun e w' => e = .returned (loadV (Ps.loadF (mdT s))) ∧ Below w.heap.size w w' := by
  have HS := Lib.hid (fun (W : World) (hb : Below w.heap.size w W) (f : Nat) (hf : f < 2) => rslot_any Y br n s f W (h.below hb) hn hoff hf)
  have HE := Lib.hid (Ps.load_eq (mdT s))
  have hne : Ps.numO (Ps.slotF (mdT s) 0) = Ps.numO (Ps.slotF (mdT s) 1) → Ps.numO (Ps.slotF (mdT s) 0) = 0 := fun e => by
    rcases Ps.slot_num (T := mdT s) (f := 0) with ⟨_, a0, _⟩ | ⟨_, _, c0, _⟩
    · exact a0
    · rcases Ps.slot_num (T := mdT s) (f := 1) with ⟨_, a1, _⟩ | ⟨_, _, c1, _⟩
      · omega
      · omega
  have H0 := Lib.hid (HS.out w (Below.refl _ _) 0 (by omega))
  have H1 := Lib.hid (fun W hb => HS.out W hb 1 (by omega))
  unfold SlotPost SlotV at H0 H1
  clear h hn hoff HS
  generalize Ps.numO (Ps.slotF (mdT s) 0) = n0 at H0 HE hne
  generalize Ps.datO (Ps.slotF (mdT s) 0) = x0 at H0 HE
  generalize Ps.numO (Ps.slotF (mdT s) 1) = n1 at H1 HE hne
  generalize Ps.datO (Ps.slotF (mdT s) 1) = x1 at H1 HE
  generalize Ps.loadF (mdT s) = r at HE ⊢
  have HNE := Lib.hid hne
  clear hne
  go_enter Try.func17, Try.ntmps17
  go_wp2_with fail
  refine H0.out.mono ?_
  rintro e w1 ⟨rfl, hb1⟩
  have HB1 := Lib.hid hb1
  have HC1 := Lib.hid (H1.out w1 hb1)
  clear hb1 H0 H1
  go_wp2_with fail
  refine HC1.out.mono ?_
  rintro e w2 ⟨rfl, hb2⟩
  have HB2 := Lib.hid (HB1.out.trans (hb2.mono HB1.out.size))
  clear hb2 HC1
  by_cases k0 : n0 = 0
  · by_cases k1 : n1 = 0
    · have HR : Hid (r = none) := Lib.hid (by rw [HE.out, if_pos ⟨k0, k1⟩])
      subst k0 k1
      clear HE
      go_wp2_with fail
      go_ret3
      exact ⟨by rw [HR.out]; rfl, HB2.out⟩
    · have HR : Hid (r = some (n1, x1)) := Lib.hid (by rw [HE.out, if_neg (fun h => k1 h.2), if_pos (by omega)])
      have g0 : ((n0 : Int) == 0) = true := by simp [k0]
      have g1 : ((n1 : Int) == 0) = false := by simp; omega
      have g2 : decide ((n1 : Int) < (n0 : Int)) = false := decide_eq_false (by omega)
      have g2' : decide (n1 < n0) = false := decide_eq_false (by omega)
      clear HE k0 k1
      go_wp2_with fail
      go_ret3
      exact ⟨by rw [HR.out]; rfl, HB2.out⟩
  · have g0 : ((n0 : Int) == 0) = false := by simp; omega
    by_cases k2 : n1 < n0
    · have HR : Hid (r = some (n0, x0)) := Lib.hid (by rw [HE.out, if_neg (fun h => k0 h.1), if_neg (by omega)])
      have g2 : decide ((n1 : Int) < (n0 : Int)) = true := decide_eq_true (by omega)
      have g2' : decide (n1 < n0) = true := decide_eq_true (by omega)
      clear HE k0 k2
      go_wp2_with fail
      go_ret3
      exact ⟨by rw [HR.out]; rfl, HB2.out⟩
    · have HR : Hid (r = some (n1, x1)) := Lib.hid (by
        have hlt : n0 < n1 := by
          rcases Nat.lt_or_ge n0 n1 with h | h
          · exact h
          · exact absurd (HNE.out (by omega)) k0
        rw [HE.out, if_neg (fun h => k0 h.1), if_pos hlt])
      have g2 : decide ((n1 : Int) < (n0 : Int)) = false := decide_eq_false (by omega)
      have g2' : decide (n1 < n0) = false := decide_eq_false (by omega)
      clear HE k0 k2
      go_wp2_with fail
      go_ret3
      exact ⟨by rw [HR.out]; rfl, HB2.out⟩
end Go.Proofs.Ytkcickbkmedbmaa
