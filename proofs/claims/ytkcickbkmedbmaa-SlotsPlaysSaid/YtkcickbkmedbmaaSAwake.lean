/-
  THE CHAPTER's EXAMPLE, over the contracts.
-/
import Derived.Test.YtkcickbkmedbmaaSlotsLastsWalk
namespace Go.Proofs.Ytkcickbkmedbmaa
open Go.RowKit Go.Maps
open slotsLasts (JS load_some load_none partsN_5000)

/-- A Save whose power stays on. -/
theorem save_on (C : Cons) {w wr : World} {X : Nat → Prop} {b nw : Nat} {s : St} {i sure : Nat} {was : ByteArray} (h : JS w wr X b nw s i sure was) (hsi : sure ≤ i) (hi : i < 60) (d : ByteArray) (hd : d.size ≤ 5000) :
    Calls Try.prog 9 #[.pointer (some ⟨b, 0, none⟩), .int .i64 ((sure : Int) + 1), .string d] wr fun e w' => e = .returned (.int .i64 0) ∧ Hid (∃ X' s', JS w w' X' b (nw + 95) s' (i + 1) (sure + 1) d) := by
  have hcap := h.cap
  have hp := partsN_5000 hd
  refine (C.save h.m h.off (by omega) (sure + 1) d (by omega) (by omega) (by omega)).mono ?_
  rintro e w' ⟨X2, s2, hv⟩
  rcases h.saved (s1 := s) rfl hsi hi hd hv with ⟨h1, h2, h3, h4⟩ | ⟨_, ha, _⟩
  · exact ⟨h1, Lib.hid ⟨X2, s2, h3.mono (by omega), h2, hv.armed.trans h.armed, h4, fun k hk => (hv.new k hk).elim (h.above k) (fun h' => Nat.le_trans h.bel.size h'), h.bel.trans (hv.only.to_below h.bel.size (fun i hi _ => h.above i hi)), by omega⟩⟩
  · rw [h.armed] at ha; cases ha

set_option maxRecDepth 100000 in
set_option maxHeartbeats 3200000 in
theorem awake_of (C : Cons) (w : World) : Calls Try.prog 25 #[] w fun e w' => e = .returned (.bool true) ∧ Below w.heap.size w w' := by
  go_enter Try.func25, Try.ntmps25
  go_wp2_with fail
  refine (newX w).mono ?_
  rintro e w1 ⟨X0, rfl, hm, hX0, hb0⟩
  have HJ : Hid (JS w w1 X0 (w.heap.size + 1) 0 St.new 0 0 ⟨#[]⟩) := Lib.hid ⟨hm, rfl, rfl, Ps.Inv.empty _, hX0, hb0, by omega⟩
  clear hm hX0 hb0
  have HLD := Lib.hid (C.load HJ.out.m rfl)
  rw [show loadV (Ps.loadF (mdT St.new)) = .tuple #[.int .i64 0, .string ⟨#[]⟩, .int .i64 41] from load_none HJ.out.inv] at HLD
  go_wp2_with fail
  refine HLD.out.mono ?_
  rintro e w2 ⟨rfl, hb2⟩
  have HJ2 : Hid (JS w w2 X0 (w.heap.size + 1) 0 St.new 0 0 ⟨#[]⟩) := Lib.hid (by
    have h := HJ.out
    exact ⟨h.m.below hb2, h.off, h.armed, h.inv, h.above, h.bel.trans (hb2.mono h.bel.size), h.cap⟩)
  clear hb2 HLD HJ
  have HS1 : Hid (Calls Try.prog 9 #[.pointer (some ⟨w.heap.size + 1, 0, none⟩), .int .i64 1, .string ⟨#[97]⟩] w2 fun e w' => e = .returned (.int .i64 0) ∧ Hid (∃ X' s', JS w w' X' (w.heap.size + 1) 95 s' 1 1 ⟨#[97]⟩)) := Lib.hid (save_on C HJ2.out (by omega) (by omega) ⟨#[97]⟩ (by decide))
  go_wp2_with fail
  refine HS1.out.mono ?_
  rintro e w3 ⟨rfl, HH⟩
  obtain ⟨X3, s3, hJ3⟩ := HH.out
  have HS2 : Hid (Calls Try.prog 9 #[.pointer (some ⟨w.heap.size + 1, 0, none⟩), .int .i64 2, .string ⟨#[98]⟩] w3 fun e w' => e = .returned (.int .i64 0) ∧ Hid (∃ X' s', JS w w' X' (w.heap.size + 1) 190 s' 2 2 ⟨#[98]⟩)) := Lib.hid (save_on C hJ3 (by omega) (by omega) ⟨#[98]⟩ (by decide))
  clear HH hJ3 HS1 HJ2
  go_wp2_with fail
  refine HS2.out.mono ?_
  rintro e w4 ⟨rfl, HH⟩
  obtain ⟨X4, s4, hJ4⟩ := HH.out
  have HJ4 := Lib.hid hJ4
  clear HH hJ4 HS2
  go_wp2_with fail
  refine (armX X4 _ 190 s4 1 w4 HJ4.out.m (by constructor <;> decide)).mono ?_
  rintro e w5 ⟨rfl, hm5, ho5⟩
  have HM5 := Lib.hid hm5
  have HB5 := Lib.hid (HJ4.out.bel.trans (ho5.to_below HJ4.out.bel.size (fun i hi _ => HJ4.out.above i hi)))
  clear hm5 ho5
  go_wp2_with fail
  refine (fill_any _ _ _).mono ?_
  rintro e w6 ⟨d, hd, hds, rfl, hb6⟩
  have hd1 : d.size = 100 := by omega
  have HM6 := Lib.hid (HM5.out.below hb6)
  have HB6 := Lib.hid (HB5.out.trans (hb6.mono HB5.out.size))
  have HS3 : Hid (Calls Try.prog 9 #[.pointer (some ⟨w.heap.size + 1, 0, none⟩), .int .i64 3, .string d] w6 fun e w' => e = .returned (.int .i64 40) ∧ Hid (∃ X' s', M w' X' (w.heap.size + 1) 400 s' ∧ Ps.Inv (mdT s') 2 ⟨#[98]⟩ ∧ (∀ k, X' k → w.heap.size ≤ k) ∧ Below w.heap.size w w')) := Lib.hid (by
    refine (C.save HM6.out (show (armF s4 1).off = false from HJ4.out.off) (by omega) 3 d (by omega) (by omega) (by omega)).mono ?_
    rintro e w7 ⟨X7, s7, hv⟩
    have h2 : Ps.partsN d.size = 2 := by rw [hd1]; decide
    have hx : ∀ k, X7 k → w.heap.size ≤ k := fun k hk => (hv.new k hk).elim (HJ4.out.above k) (fun h => Nat.le_trans HB6.out.size h)
    have hb : Below w.heap.size w w7 := HB6.out.trans (hv.only.to_below HB6.out.size (fun i hi _ => HJ4.out.above i hi))
    rcases hv.case_ with ⟨_, _, _, hl⟩ | ⟨he, _, j, hj, _, hmd⟩
    · have := hl rfl
      have hleft : (armF s4 1).left = 1 := rfl
      rw [hleft, h2] at this
      omega
    · refine ⟨he, Lib.hid ⟨X7, s7, hv.m.mono (by omega), ?_, hx, hb⟩⟩
      rw [hmd]
      exact HJ4.out.inv.torn d (by omega) j hj)
  clear hb6 hds hd1 HM5 HB5 HM6 HB6 HJ4
  go_wp2_with fail
  refine HS3.out.mono ?_
  rintro e w7 ⟨rfl, HH⟩
  obtain ⟨X7, s7, hm7, hi7, hx7, hb7⟩ := HH.out
  have HM7 := Lib.hid hm7
  have HI7 := Lib.hid hi7
  have HX7 := Lib.hid hx7
  have HB7 := Lib.hid hb7
  clear HH hm7 hi7 hx7 hb7 HS3
  go_wp2_with fail
  refine (onX X7 _ 400 s7 w7 HM7.out).mono ?_
  rintro e w8 ⟨rfl, hm8, ho8⟩
  have HB8 := Lib.hid (HB7.out.trans (ho8.to_below HB7.out.size (fun i hi _ => HX7.out i hi)))
  have HLD := Lib.hid (C.load hm8 rfl)
  rw [show loadV (Ps.loadF (mdT (onF s7))) = .tuple #[.int .i64 2, .string ⟨#[98]⟩, .int .i64 0] from load_some (n := 2) HI7.out (by omega)] at HLD
  clear hm8 ho8 HM7 HI7 HX7 HB7
  go_wp2_with fail
  refine HLD.out.mono ?_
  rintro e w9 ⟨rfl, hb9⟩
  have H : Hid (Below w.heap.size w w9) := Lib.hid (HB8.out.trans (hb9.mono HB8.out.size))
  have qs : ((⟨#[98]⟩ : ByteArray).toList == (⟨#[98]⟩ : ByteArray).toList) = true := beq_self_eq_true _
  have HC0 := Lib.hid (fun W => C.sectors W 0 (by omega))
  have HC5 := Lib.hid (fun W => C.sectors W 54 (by omega))
  clear hb9 HLD HB8
  go_wp2_with (first
    | (go_at_call_of 23 (Value.int .i64 0); refine (HC0.out _).mono ?_; rintro e w' ⟨rfl, hb'⟩; have H := Lib.hid (H.out.trans (hb'.mono H.out.size)); clear hb'; rw [show ((Ps.partsN 0 : Nat) : Int) = 1 from rfl])
    | (go_at_call_of 23 (Value.int .i64 54); refine (HC5.out _).mono ?_; rintro e w' ⟨rfl, hb'⟩; have H := Lib.hid (H.out.trans (hb'.mono H.out.size)); clear hb'; rw [show ((Ps.partsN 54 : Nat) : Int) = 2 from rfl])
    | fail)
  go_ret
  exact ⟨rfl, H.out⟩
end Go.Proofs.Ytkcickbkmedbmaa
