/-
  CONTRACT of the law's examples ('awake').
-/
import Derived.Test.YtcpfhmipjpbhnaaTKeep
import Derived.Test.YtcpfhmipjpbhnaaTRises
import Derived.Deep.RegionWith
import Derived.Deep.RegionHeld3
namespace Go.Proofs.Ytcpfhmipjpbhnaa
open Go.RowKit

abbrev sa : ByteArray := ⟨#[97]⟩
abbrev sb : ByteArray := ⟨#[98]⟩
abbrev sc : ByteArray := ⟨#[99]⟩
abbrev sd : ByteArray := ⟨#[100]⟩
def l0 : List Pl.Pr := [(sa, 1), (sd, 1)]
def l1 : List Pl.Pr := [(sa, 1), (sc, 1), (sd, 1)]
def l2 : List Pl.Pr := [(sa, 2), (sc, 1), (sd, 1)]
theorem ex1 : Pl.putL l0 (sc, 1) = l1 := by decide +kernel
theorem ex2 : Pl.putL l1 (sa, 2) = l2 := by decide +kernel
theorem ex3 : Pl.findO l2 sb = none := by decide +kernel
theorem ex4 : Pl.dropL l2 sa = l2.drop 1 := by decide +kernel
theorem ex5 : Pl.risesL l2 = true := by decide +kernel
theorem ex6 : (keepL (fun _ n => n == 1) l2).length = 2 := by decide +kernel

theorem tells_awake (w : World) : Tells w 29 #[] (fun _ n => n == 1) :=
  ⟨fun args W => by kernel_rfl, fun W _ s n => awakef_any s n W⟩

/-- Pairs in a block of their own. -/
theorem Rd.lit (w : World) (cs : Array Value) (t : TypeId) (l : List Pl.Pr) (h : cs.toList = pc l) : Rd (w.alloc (.cells cs t)) (w.heap.size + 1) (some ⟨w.heap.size, 0, none⟩) (pc l) := fun _ => by
  refine ⟨w.heap.size, 0, rfl, by omega, fun j u hu => ?_⟩
  rw [← h, Array.getElem?_toList] at hu
  rw [Nat.zero_add, cell_of_row _ w.heap.size j cs t (0, 0) (heap_alloc_new w _)]
  exact hu

theorem same_ex (A A2 : Option Addr) (n c c2 : Nat) (l : List Pl.Pr) (w : World) (hn : n = l.length) (hn63 : n ≤ 140737488355328) (hr : Rd w w.heap.size A (pc l)) (hr2 : Rd w w.heap.size A2 (pc l)) :
    Calls Try.prog 17 #[.slice A n c, .slice A2 n c2] w fun e w' => e = .returned (.bool true) ∧ Below w.heap.size w w' := by
  refine (same_any A A2 n c n c2 l l w hn hn hn63 hn63 hr hr2).mono ?_
  rintro e w' ⟨rfl, k, rfl⟩
  exact ⟨by rw [decide_eq_true rfl], below_drewN (Below.refl _ _) k⟩
theorem drop_ex (A : Option Addr) (c : Nat) (w : World) (hc : 3 ≤ c) (hc63 : c ≤ 9223372036854775807) (hr : Rd w w.heap.size A (pc l2)) :
    Calls Try.prog 14 #[.agg #[tf], .slice A 3 c, pv sa 0] w fun e w' => ∃ A' c', e = .returned (.slice A' 2 c') ∧ Rd w' w'.heap.size A' (pc (l2.drop 1)) ∧ Below w.heap.size w w' := by
  refine (drop_any A 3 c sa 0 l2 w rfl hc hc63 (by omega) hr).mono ?_
  rintro e w' ⟨A', n', c', hn, rfl, hown, hb⟩
  rw [ex4] at hn hown
  have : n' = 2 := hn
  subst this
  exact ⟨A', c', rfl, Rd.of_own hown, hb⟩
theorem rises_ex (A : Option Addr) (c : Nat) (w : World) (hr : Rd w w.heap.size A (pc l2)) :
    Calls Try.prog 19 #[.agg #[tf], .slice A 3 c] w fun e w' => e = .returned (.bool true) ∧ Below w.heap.size w w' := by
  have := rises_any A 3 c l2 w rfl (by omega) hr
  rw [ex5] at this
  exact this
theorem keep_ex (A : Option Addr) (c : Nat) (w : World) (hr : Rd w w.heap.size A (pc l2)) :
    Calls Try.prog 15 #[.slice A 3 c, .func (.func 29) #[] #[]] w fun e w' => ∃ A' c', e = .returned (.slice A' 2 c') ∧ Below w.heap.size w w' := by
  refine (keep_any A 3 c _ #[] _ l2 w rfl (by omega) hr (tells_awake w)).mono ?_
  rintro e w' ⟨A', n', c', hn, rfl, hown, hb⟩
  rw [ex6] at hn
  subst hn
  exact ⟨A', c', rfl, hb⟩

set_option maxRecDepth 100000 in
set_option maxHeartbeats 1600000 in
theorem awake_any (w : World) : Calls Try.prog 21 #[] w fun e w' => e = .returned (.bool true) ∧ Below w.heap.size w w' := by
  go_enter Try.func21, Try.ntmps21
  go_wp2_with fail
  refine (pairs_any _).mono ?_
  rintro e w1 ⟨rfl, hb1⟩
  have B1 := Lib.hid hb1
  have hs1 := hb1.size
  clear hb1
  go_wp2_with fail
  have HB2 := Lib.hid (B1.out.alloc hs1 (.cells #[.string sa, .int .i64 1, .string sd, .int .i64 1] 24))
  refine (put_any (some ⟨w1.heap.size, 0, none⟩) 2 2 sc 1 l0 _ rfl (by omega) (by omega) (by omega) ?_).mono ?_
  · exact (Rd.lit w1 _ _ l0 rfl).mono (by simp)
  rintro e w2 ⟨A2, n2, c2, hn2, rfl, hown2, hb2⟩
  rw [ex1] at hn2 hown2
  have hn2' : n2 = 3 := hn2
  subst hn2'
  have HO2 := Lib.hid hown2
  have B2 := Lib.hid (HB2.out.trans (hb2.mono (by simp; omega)))
  have hs2 := B2.out.size
  have hc2 := own_cap hown2
  have hm2 := own_max hown2
  clear hb2 hown2 hn2
  go_wp2_with fail
  refine (pairs_any _).mono ?_
  rintro e w3 ⟨rfl, hb3⟩
  have B3 := Lib.hid (B2.out.trans (hb3.mono hs2))
  have hs3 := B3.out.size
  have R2 := Lib.hid ((Rd.of_own HO2.out).below hb3)
  have hs23 := hb3.size
  clear hb3
  go_wp2_with fail
  refine (put_any A2 3 c2 sa 2 l1 _ rfl hc2 hm2 (by omega) (R2.out.mono hs23)).mono ?_
  rintro e w4 ⟨A4, n4, c4, hn4, rfl, hown4, hb4⟩
  rw [ex2] at hn4 hown4
  have hn4' : n4 = 3 := hn4
  subst hn4'
  have HO4 := Lib.hid hown4
  have B4 := Lib.hid (B3.out.trans (hb4.mono hs3))
  have hs4 := B4.out.size
  have hc4 := own_cap hown4
  have hm4 := own_max hown4
  clear hb4 hown4 hn4
  go_wp2_with fail
  refine (pairs_any _).mono ?_
  rintro e w5 ⟨rfl, hb5⟩
  have B5 := Lib.hid (B4.out.trans (hb5.mono hs4))
  have hs5 := B5.out.size
  have R5 := Lib.hid (((Rd.of_own HO4.out).below hb5).mono hb5.size)
  clear hb5
  go_wp2_with fail
  refine (find_any A4 3 c4 sb 0 l2 _ rfl (by omega) R5.out).mono ?_
  rw [ex3, firstV_none]
  rintro e w6 ⟨rfl, hb6⟩
  have B6 := Lib.hid (B5.out.trans (hb6.mono hs5))
  have hs6 := B6.out.size
  have R6 := Lib.hid ((R5.out.below hb6).mono hb6.size)
  clear hb6
  go_wp2_with fail
  obtain ⟨i0, hi0, hz0, hz1, hz2⟩ := info_parts infoP
  have hcut := run_cut (P := Try.prog) 22 24 2 i0 Try.underlying22 hi0 hz1 A4 3 c4 1 (by omega)
  rw [show ((1 : Nat) : Int) = 1 from rfl, show 3 - 1 = 2 from rfl] at hcut
  have hK6 := Lib.hid (((Below.refl w6.heap.size w6).alloc (Nat.le_refl _) (.cells #[.string sa, .int .i64 2, .string sc, .int .i64 1, .string sd, .int .i64 1] 24)).drew)
  have hL6 := Lib.hid (Rd.lit w6 #[.string sa, .int .i64 2, .string sc, .int .i64 1, .string sd, .int .i64 1] 24 l2 rfl)
  have hRC : ∀ W, Below w6.heap.size w6 W → Rd W W.heap.size A4 (pc l2) := fun W h => (R6.out.below h).mono h.size
  have hRD : ∀ W, Below w6.heap.size w6 W → Rd W W.heap.size (cutA A4 c4 1 2) (pc (l2.drop 1)) := fun W h => by
    rw [pc_drop]
    exact (hRC W h).cut 2 1 c4 (fun e => by omega)
  have HRC := Lib.hid hRC
  have HRD := Lib.hid hRD
  clear hRC hRD
  have H := hK6
  clear hK6
  go_region_held3 (fun w' => True) (trivial) (first
    | (go_at_call 9; (with_reducible refine (pairs_any _).mono ?_); rintro e wp ⟨rfl, hbp⟩; have H := Lib.hid (show Below w6.heap.size w6 wp from by first | exact H.out.trans (hbp.mono H.out.size) | exact H.out.drew.trans (hbp.mono H.out.size) | exact H.out.drew.drew.trans (hbp.mono H.out.size)); clear hbp)
    | (go_at_call 17; (with_reducible refine (same_ex A4 (some ⟨w6.heap.size, 0, none⟩) 3 c4 3 l2 _ rfl (by omega) (by exact HRC.out _ (by first | exact H.out | exact H.out.drew | exact H.out.drew.drew)) (by exact (hL6.out.below (World.drew_below _)).mono (by simp))).mono ?_); rintro e w7 ⟨rfl, hb7⟩; have H := Lib.hid (show Below w6.heap.size w6 w7 from by first | exact H.out.trans (hb7.mono H.out.size) | exact H.out.drew.trans (hb7.mono H.out.size) | exact H.out.drew.drew.trans (hb7.mono H.out.size)); clear hb7)
    | (go_at_call 14; (with_reducible refine (drop_ex A4 c4 _ hc4 hm4 (by exact HRC.out _ (by first | exact H.out | exact H.out.drew | exact H.out.drew.drew))).mono ?_); rintro e w8 ⟨A8, c8, rfl, hr8, hb8⟩; have H := Lib.hid (show Below w6.heap.size w6 w8 from by first | exact H.out.trans (hb8.mono H.out.size) | exact H.out.drew.trans (hb8.mono H.out.size) | exact H.out.drew.drew.trans (hb8.mono H.out.size)); clear hb8; have R8 := Lib.hid hr8; clear hr8)
    | (go_at_call 17; (with_reducible refine (same_ex A8 (cutA A4 c4 1 2) 2 c8 (c4 - 1) (l2.drop 1) _ rfl (by omega) (by first | exact R8.out | exact (R8.out.below (World.drew_below _))) (by exact HRD.out _ (by first | exact H.out | exact H.out.drew | exact H.out.drew.drew))).mono ?_); rintro e w9 ⟨rfl, hb9⟩; have H := Lib.hid (show Below w6.heap.size w6 w9 from by first | exact H.out.trans (hb9.mono H.out.size) | exact H.out.drew.trans (hb9.mono H.out.size) | exact H.out.drew.drew.trans (hb9.mono H.out.size)); clear hb9)
    | (go_at_call 19; (with_reducible refine (rises_ex A4 c4 _ (by exact HRC.out _ (by first | exact H.out | exact H.out.drew | exact H.out.drew.drew))).mono ?_); rintro e w10 ⟨rfl, hb10⟩; have H := Lib.hid (show Below w6.heap.size w6 w10 from by first | exact H.out.trans (hb10.mono H.out.size) | exact H.out.drew.trans (hb10.mono H.out.size) | exact H.out.drew.drew.trans (hb10.mono H.out.size)); clear hb10)
    | (go_at_call 15; (with_reducible refine (keep_ex A4 c4 _ (by exact HRC.out _ (by first | exact H.out | exact H.out.drew | exact H.out.drew.drew))).mono ?_); rintro e w11 ⟨A11, c11, rfl, hb11⟩; have H := Lib.hid (show Below w6.heap.size w6 w11 from by first | exact H.out.trans (hb11.mono H.out.size) | exact H.out.drew.trans (hb11.mono H.out.size) | exact H.out.drew.drew.trans (hb11.mono H.out.size)); clear hb11))
  go_wp2_with fail
  go_ret
  exact ⟨rfl, B6.out.trans (H.out.mono hs6)⟩
end Go.Proofs.Ytcpfhmipjpbhnaa
