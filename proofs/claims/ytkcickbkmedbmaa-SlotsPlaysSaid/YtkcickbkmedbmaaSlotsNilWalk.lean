/-
  The walk of SlotsNil, over the contracts.
-/
import Derived.Test.YtkcickbkmedbmaaSAwake
namespace Go.Proofs.Ytkcickbkmedbmaa
open Go.RowKit Go.Maps
open slotsLasts (load_none)

theorem writes_any (b bo : Nat) (off armed : Bool) (left writes : Int) (w : World) (h : MS w b bo off armed left writes) :
    Calls Try.prog 21 #[.pointer (some ⟨b, 0, none⟩)] w fun e w' => e = .returned (.int .i64 writes) ∧ w = w' := by
  obtain ⟨c0, c1, c2, c3, c4, f0, f1, f2, f3, f4⟩ := h.cl
  clear h
  go_enter Try.func21, Try.ntmps21
  go_wp2
  go_ret
  exact ⟨rfl, rfl⟩
theorem writesX (X : Nat → Prop) (b n : Nat) (s : St) (w : World) (h : M w X b n s) :
    Calls Try.prog 21 #[.pointer (some ⟨b, 0, none⟩)] w fun e w' => e = .returned (.int .i64 s.writes) ∧ w = w' := by
  obtain ⟨bo, F, hm, hg, hX⟩ := h
  exact writes_any b bo s.off s.armed s.left s.writes w hm.ms

theorem load_one {n : Nat} {d : ByteArray} (hn1 : 1 ≤ n) (hn2 : n ≤ 2147483647) (hd : d.size ≤ 1000000) : loadV (Ps.loadF (Ps.puts (mdT St.new) (n % 2) (Ps.secs n d))) = .tuple #[.int .i64 (n : Int), .string d, .int .i64 0] := by
  have hme := Ps.slot_secs (Ps.At.puts (mdT St.new) (n % 2) (Ps.secs n d)) hn1 hn2 hd rfl
  have hot : ∀ f, f ≠ n % 2 → Ps.slotF (Ps.puts (mdT St.new) (n % 2) (Ps.secs n d)) f = none := fun f hf => by
    cases hx : Ps.slotF (Ps.puts (mdT St.new) (n % 2) (Ps.secs n d)) f with
    | none => rfl
    | some q =>
      obtain ⟨m, x⟩ := q
      obtain ⟨_, _, k, s, e, _, h3, _⟩ := Ps.slot_last hx
      rw [Ps.puts_other hf] at h3
      cases h3
  have hl : Ps.loadF (Ps.puts (mdT St.new) (n % 2) (Ps.secs n d)) = some (n, d.data.toList) := by
    rcases Nat.mod_two_eq_zero_or_one n with e | e
    · rw [e] at hme hot ⊢
      unfold Ps.loadF
      rw [hme, hot 1 (by omega)]
    · rw [e] at hme hot ⊢
      unfold Ps.loadF
      rw [hme, hot 0 (by omega)]
  rw [hl]
  show Value.tuple #[.int .i64 (n : Int), .string ⟨d.data.toList.toArray⟩, .int .i64 0] = _
  rw [Ps.ba_mk]

namespace slotsNil
set_option maxRecDepth 100000 in
set_option maxHeartbeats 3200000 in
theorem walk_of (C : Cons) (awk : ∀ w, Calls Try.prog 25 #[] w fun e w' => e = .returned (.bool true) ∧ Below w.heap.size w w')
    (z : Int) (d : ByteArray) (w : World) (hz : Wf z) (hd9 : d.size ≤ 9223372036854775807) : Calls Try.prog 5 #[.int .i64 z, .string d] w fun e w' => e = .returned (.bool true) ∧ Below w.heap.size w w' := by
  have HZ := Lib.hid hz
  clear hz
  by_cases hgood : (1 ≤ z ∧ z ≤ 2147483647) ∧ d.size ≤ 1000000
  · obtain ⟨⟨h1, h2⟩, hd⟩ := hgood
    obtain ⟨n, rfl⟩ := Int.eq_ofNat_of_zero_le (show 0 ≤ z by omega)
    have g1 : decide ((n : Int) < 1) = false := decide_eq_false (by omega)
    have g1' : decide (n < 1) = false := decide_eq_false (by omega)
    have g2 : decide ((2147483647 : Int) < (n : Int)) = false := decide_eq_false (by omega)
    have g2' : decide (2147483647 < n) = false := decide_eq_false (by omega)
    have g3 : decide ((1000000 : Int) < (d.size : Int)) = false := decide_eq_false (by omega)
    have g3' : decide (1000000 < d.size) = false := decide_eq_false (by omega)
    have g4 : ((n : Int) == (n : Int)) = true := beq_self_eq_true _
    have g5 : (d.toList == d.toList) = true := beq_self_eq_true _
    have HLO := Lib.hid (load_one (n := n) (d := d) (by omega) (by omega) hd)
    have HN1 := Lib.hid (show 1 ≤ n by omega)
    have HN2 := Lib.hid (show n ≤ 2147483647 by omega)
    have HD := Lib.hid hd
    clear h1 h2 hd
    go_enter Try.func5, Try.ntmps5
    go_wp2_with fail
    refine (C.loadNil _).mono ?_
    rintro e w1 ⟨rfl, hb1⟩
    have HB1 := Lib.hid hb1
    clear hb1
    go_wp2_with fail
    refine (newX w1).mono ?_
    rintro e w2 ⟨X0, rfl, hm, hX0, hb2⟩
    have HM := Lib.hid hm
    have HX := Lib.hid hX0
    have HB2 := Lib.hid hb2
    clear hm hX0 hb2
    go_wp2_with fail
    refine (C.save HM.out rfl (by omega) n d HN1.out HN2.out HD.out).mono ?_
    rintro e w3 ⟨X3, s3, hv⟩
    have hb3 : Below w.heap.size w w3 := (HB1.out.trans (HB2.out.mono HB1.out.size)).trans ((hv.only.to_below HB2.out.size (fun i hi _ => HX.out i hi)).mono HB1.out.size)
    rcases hv.case_ with ⟨rfl, hoff, hmd, _⟩ | ⟨_, ha, _⟩
    · have HLD := Lib.hid (C.load hv.m hoff)
      rw [hmd, HLO.out] at HLD
      have HB3 := Lib.hid hb3
      clear hb3 hv hoff hmd HM HX HB1 HB2
      go_wp2_with fail
      refine HLD.out.mono ?_
      rintro e w4 ⟨rfl, hb4⟩
      have H := Lib.hid (HB3.out.trans (hb4.mono HB3.out.size))
      clear hb4 HLD HB3
      go_wp2_with (first
        | (go_at_call 9; refine (C.saveNil _ _ _).mono ?_; rintro e w' ⟨rfl, hb'⟩; have H := Lib.hid (H.out.trans (hb'.mono H.out.size)); clear hb')
        | (go_at_call 25; refine (awk _).mono ?_; rintro e w' ⟨rfl, hb'⟩; have H := Lib.hid (H.out.trans (hb'.mono H.out.size)); clear hb')
        | fail)
      go_ret
      exact ⟨rfl, H.out⟩
    · cases ha
  · have HW : Hid (¬ (1 ≤ z ∧ z ≤ 2147483647) ∨ 1000000 < d.size) := Lib.hid (by
      by_cases h : 1 ≤ z ∧ z ≤ 2147483647
      · right
        rcases Nat.lt_or_ge 1000000 d.size with h' | h'
        · exact h'
        · exact absurd ⟨h, h'⟩ hgood
      · exact .inl h)
    have HE := Lib.hid (load_none (T := mdT St.new) (Ps.Inv.empty ⟨#[]⟩))
    rcases (show z < 1 ∨ (1 ≤ z ∧ 2147483647 < z) ∨ ((1 ≤ z ∧ z ≤ 2147483647) ∧ 1000000 < d.size) from by have := HW.out; omega) with h1 | ⟨h1, h2⟩ | ⟨⟨h1, h2⟩, h3⟩
    all_goals
      clear hgood
      go_enter Try.func5, Try.ntmps5
      go_wp2_with fail
      refine (C.loadNil _).mono ?_
      rintro e w1 ⟨rfl, hb1⟩
      have HB1 := Lib.hid hb1
      clear hb1
      go_wp2_with fail
      refine (newX w1).mono ?_
      rintro e w2 ⟨X0, rfl, hm, hX0, hb2⟩
      have HM := Lib.hid hm
      have HB2 := Lib.hid (HB1.out.trans (hb2.mono HB1.out.size))
      clear hm hX0 hb2
      go_wp2_with fail
      refine (C.wrong HM.out z d HZ.out HW.out).mono ?_
      rintro e w3 ⟨rfl, hb3⟩
      have HM3 := Lib.hid (HM.out.below hb3)
      have H := Lib.hid (HB2.out.trans (hb3.mono HB2.out.size))
      have HLD := Lib.hid (C.load HM3.out rfl)
      rw [HE.out] at HLD
      clear hb3 HM HB2 HB1
      go_wp2_with fail
      refine (writesX X0 _ 0 St.new w3 HM3.out).mono ?_
      rintro e w4 ⟨rfl, rfl⟩
      have hw0 : St.new.writes = 0 := rfl
      rw [hw0]
      clear hw0
      go_wp2_with fail
      refine HLD.out.mono ?_
      rintro e w5 ⟨rfl, hb5⟩
      have H := Lib.hid (H.out.trans (hb5.mono H.out.size))
      clear hb5 HLD
      go_wp2_with (first
        | (go_at_call 9; refine (C.saveNil _ _ _).mono ?_; rintro e w' ⟨rfl, hb'⟩; have H := Lib.hid (H.out.trans (hb'.mono H.out.size)); clear hb')
        | (go_at_call 25; refine (awk _).mono ?_; rintro e w' ⟨rfl, hb'⟩; have H := Lib.hid (H.out.trans (hb'.mono H.out.size)); clear hb')
        | fail)
      go_ret
      exact ⟨rfl, H.out⟩
end slotsNil
end Go.Proofs.Ytkcickbkmedbmaa
