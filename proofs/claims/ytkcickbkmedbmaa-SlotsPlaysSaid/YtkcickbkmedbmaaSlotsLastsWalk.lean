/-
  The walk of SlotsLasts, over the contracts.
-/
import Derived.Test.YtkcickbkmedbmaaSFill
namespace Go.Proofs.Ytkcickbkmedbmaa.slotsLasts
open Go.RowKit Go.Maps

/-- What is so behind i snapshots. -/
structure JS (w wr : World) (X : Nat → Prop) (b nw : Nat) (s : St) (i sure : Nat) (was : ByteArray) : Prop where
  m : M wr X b nw s
  off : s.off = false
  armed : s.armed = false
  inv : Ps.Inv (mdT s) sure was
  above : ∀ k, X k → w.heap.size ≤ k
  bel : Below w.heap.size w wr
  cap : nw ≤ 100 * i

theorem tmod100 (c : Int) : -100 < c.tmod 100 ∧ c.tmod 100 < 100 := by
  cases c with
  | ofNat n =>
    have : (Int.ofNat n).tmod 100 = ((n % 100 : Nat) : Int) := rfl
    rw [this]
    omega
  | negSucc n =>
    have : (Int.negSucc n).tmod 100 = -(((n + 1) % 100 : Nat) : Int) := rfl
    rw [this]
    omega
theorem partsN_5000 {k : Nat} (h : k ≤ 5000) : Ps.partsN k ≤ 95 := by unfold Ps.partsN; omega

/-- What a Save within the law leaves, and what is loaded behind it. -/
theorem JS.saved {w wr w2 : World} {X X2 : Nat → Prop} {b nw i sure : Nat} {s s1 s2 : St} {was d : ByteArray} {e : Ending} (h : JS w wr X b nw s i sure was) (hs1 : mdT s1 = mdT s) (hi : sure ≤ i) (hi2 : i < 60) (hd : d.size ≤ 5000) {wa : World}
    (hv : Saved wa X b nw s1 (sure + 1) d e w2 X2 s2) :
    (e = .returned (.int .i64 0) ∧ s2.off = false ∧ M w2 X2 b (nw + Ps.partsN d.size) s2 ∧ Ps.Inv (mdT s2) (sure + 1) d) ∨
    (e = .returned (.int .i64 40) ∧ s1.armed = true ∧ (∃ j : Nat, j < Ps.partsN d.size ∧ (j : Int) = s1.left) ∧ M w2 X2 b (nw + Ps.partsN d.size) s2 ∧ Ps.Inv (mdT s2) sure was) := by
  rcases hv.case_ with ⟨he, hoff, hmd, _⟩ | ⟨he, ha, j, hj, hl, hmd⟩
  · refine .inl ⟨he, hoff, hv.m, ?_⟩
    rw [hmd, hs1]
    exact h.inv.put d (by omega) (by omega)
  · refine .inr ⟨he, ha, ⟨j, hj, hl⟩, hv.m, ?_⟩
    rw [hmd, hs1]
    exact h.inv.torn d (by omega) j hj
theorem load_some {T : Ps.Md} {n : Nat} {d : ByteArray} (h : Ps.Inv T n d) (hn : 0 < n) : loadV (Ps.loadF T) = .tuple #[.int .i64 (n : Int), .string d, .int .i64 0] := by
  rw [h.load, if_neg (by omega)]
  show Value.tuple #[.int .i64 (n : Int), .string ⟨d.data.toList.toArray⟩, .int .i64 0] = _
  rw [Ps.ba_mk]
theorem load_none {T : Ps.Md} {d : ByteArray} (h : Ps.Inv T 0 d) : loadV (Ps.loadF T) = .tuple #[.int .i64 0, .string ⟨#[]⟩, .int .i64 41] := by
  rw [h.load, if_pos rfl]; rfl

set_option maxRecDepth 100000 in
set_option maxHeartbeats 6400000 in
theorem walk_of (C : Cons) (awk : ∀ w, Calls Try.prog 25 #[] w fun e w' => e = .returned (.bool true) ∧ Below w.heap.size w w')
    (A : Option Addr) (n c : Nat) (zs : List Int) (A2 : Option Addr) (n2 c2 : Nat) (cuts : List Int) (w : World) (hn : n = zs.length) (hu : n ≤ 140737488351232) (hr : Rd w w.heap.size A (zs.map (Value.int .i64))) (hn2 : n2 = cuts.length) (hu2 : n2 ≤ 140737488351232) (hr2 : Rd w w.heap.size A2 (cuts.map (Value.int .i64))) :
    Calls Try.prog 4 #[.slice A n c, .slice A2 n2 c2] w fun e w' => e = .returned (.bool true) ∧ Below w.heap.size w w' := by
  have HN := Lib.hid hn
  have HR := Lib.hid hr
  have HN2 := Lib.hid hn2
  have HR2 := Lib.hid hr2
  clear hn hr hn2 hr2
  go_enter Try.func4, Try.ntmps4
  go_wp2_with fail
  refine (newX w).mono ?_
  rintro e w1 ⟨X0, rfl, hm, hX0, hb0⟩
  have HJ0 : Hid (JS w w1 X0 (w.heap.size + 1) 0 St.new 0 0 ⟨#[]⟩) := Lib.hid ⟨hm, rfl, rfl, Ps.Inv.empty _, hX0, hb0, by omega⟩
  clear hm hX0 hb0
  go_wp2_with fail
  go_loopw [6, 7, 8] (fun v6 v7 v8 wr => ∃ (i sure : Nat) (was : ByteArray), i ≤ n ∧ i ≤ 60 ∧ sure ≤ i ∧ v6 = .int .i64 (sure : Int) ∧ v7 = .string was ∧ v8 = .int .i64 (i : Int) ∧ Hid (∃ X nw s, JS w wr X (w.heap.size + 1) nw s i sure was)) (fun _ _ v8 _ => 60 - (RowKit.intOf v8).toNat)
  case atStart => exact ⟨0, 0, _, by omega, by omega, by omega, rfl, rfl, rfl, Lib.hid ⟨_, _, _, HJ0.out⟩⟩
  case round =>
    obtain ⟨i, sure, was, hi, hi60, hsi, rfl, rfl, rfl, HH⟩ := hrel
    obtain ⟨X, nw, s, hJ⟩ := HH.out
    have HJ := Lib.hid hJ
    clear hJ HH HJ0
    by_cases hlt : i < n ∧ i < 60
    · obtain ⟨hlt, hlt2⟩ := hlt
      have hil : i < zs.length := by rw [← HN.out]; exact hlt
      obtain ⟨ba, oa, rfl, hba, hcs⟩ := HR.out.int_at hil
      have hc0 := (HJ.out.bel.cell (p := ⟨ba, oa + i, none⟩) hba).trans (hcs i hil)
      generalize zs[i] = v at hc0
      clear hcs hil
      by_cases hnc : 0 < n2
      · by_cases h2 : i % 2 = 1
        · have f1 : ((i : Int) % 2 == 1) = true := by rw [beq_iff_eq]; omega
          have hjc : i % n2 < cuts.length := by rw [← HN2.out]; exact Nat.mod_lt _ hnc
          obtain ⟨bc, oc, rfl, hbc, hcc⟩ := HR2.out.int_at hjc
          have hcv := fun W (hb : Below w.heap.size w W) => (hb.cell (p := ⟨bc, oc + i % n2, none⟩) hbc).trans (hcc (i % n2) hjc)
          generalize cuts[i % n2] = c0 at hcv
          have HCV := Lib.hid hcv
          clear hcc hjc hcv
          have t1 := tmod100 c0
          have hb1 : (0 : Int) ≤ (i : Int) % (n2 : Int) := Int.emod_nonneg _ (by omega)
          have hb2 : (i : Int) % (n2 : Int) < (n2 : Int) := Int.emod_lt_of_pos _ (by omega)
          go_wp2_with fail
          refine (fill_any _ _ _).mono ?_
          rintro e w2 ⟨d, hd, hds, rfl, hb2'⟩
          clear hds
          have HB2 := Lib.hid (HJ.out.bel.trans (hb2'.mono HJ.out.bel.size))
          have HM2 := Lib.hid (HJ.out.m.below hb2')
          have hcv := HCV.out w2 HB2.out
          clear hb2' hc0
          obtain ⟨L, hL⟩ := Int.eq_ofNat_of_zero_le (show 0 ≤ max (c0.tmod 100) 0 by omega)
          have hL99 : L ≤ 99 := by omega
          go_wp2_with fail
          refine (armX X _ nw s (L : Int) w2 HM2.out (by constructor <;> omega)).mono ?_
          rintro e w3 ⟨rfl, hm3, ho3⟩
          have HM3 := Lib.hid hm3
          have HB3 := Lib.hid (HB2.out.trans (ho3.to_below HB2.out.size (fun i hi _ => HJ.out.above i hi)))
          have HOFF3 : Hid ((armF s (L : Int)).off = false) := Lib.hid HJ.out.off
          have HMD3 : Hid (mdT (armF s (L : Int)) = mdT s) := Lib.hid rfl
          have hl : (armF s (L : Int)).left = (L : Int) := by show max (L : Int) 0 = _; omega
          have HLF := Lib.hid hl
          clear hm3 ho3 HM2 HB2 hcv t1 hb1 hb2 hL hl HCV
          have HSV : Hid (Calls Try.prog 9 #[.pointer (some ⟨w.heap.size + 1, 0, none⟩), .int .i64 ((sure : Int) + 1), .string d] w3 fun e w4 =>
              (e = .returned (.int .i64 0) ∧ Hid (∃ X2 s2, M w4 X2 (w.heap.size + 1) (nw + 95) s2 ∧ s2.off = false ∧ Ps.Inv (mdT s2) (sure + 1) d ∧ (∀ k, X2 k → w.heap.size ≤ k) ∧ Below w.heap.size w w4)) ∨
              (e = .returned (.int .i64 40) ∧ L < Ps.partsN d.size ∧ Hid (∃ X2 s2, M w4 X2 (w.heap.size + 1) (nw + 95) s2 ∧ Ps.Inv (mdT s2) sure was ∧ (∀ k, X2 k → w.heap.size ≤ k) ∧ Below w.heap.size w w4))) := Lib.hid (by
            have hcap := HJ.out.cap
            refine (C.save HM3.out HOFF3.out (by omega) (sure + 1) d (by omega) (by omega) (by omega)).mono ?_
            rintro e w4 ⟨X2, s2, hv⟩
            have hp := partsN_5000 hd
            have hx : ∀ k, X2 k → w.heap.size ≤ k := fun k hk => (hv.new k hk).elim (HJ.out.above k) (fun h => Nat.le_trans HB3.out.size h)
            have hbw : Below w.heap.size w w4 := HB3.out.trans (hv.only.to_below HB3.out.size (fun i hi _ => HJ.out.above i hi))
            rcases HJ.out.saved HMD3.out hsi hlt2 hd hv with ⟨h1, h2, h3, h4⟩ | ⟨h1, ha, ⟨j, hj, hl⟩, h3, h4⟩
            · exact .inl ⟨h1, Lib.hid ⟨X2, s2, h3.mono (by omega), h2, h4, hx, hbw⟩⟩
            · exact .inr ⟨h1, by have := HLF.out; omega, Lib.hid ⟨X2, s2, h3.mono (by omega), h4, hx, hbw⟩⟩)
          go_wp2_with fail
          refine HSV.out.mono ?_
          rintro e w4 (⟨rfl, HH⟩ | ⟨rfl, hLp, HH⟩)
          · clear HSV HM3 HB3 HOFF3 HMD3 HLF
            obtain ⟨X2, s2, hm2, ho2, hi2, hx2, hbw2⟩ := HH.out
            have HM4 := Lib.hid hm2
            have HI4 := Lib.hid hi2
            have HX4 := Lib.hid hx2
            have HB4 := Lib.hid hbw2
            have hcap := HJ.out.cap
            have HCAP := Lib.hid hcap
            clear HH hm2 ho2 hi2 hx2 hbw2 hcap
            go_wp2_with fail
            refine (onX X2 _ (nw + 95) s2 w4 HM4.out).mono ?_
            rintro e w5 ⟨rfl, hm5, ho5⟩
            have HM5 := Lib.hid hm5
            have HB5 := Lib.hid (HB4.out.trans (ho5.to_below HB4.out.size (fun i hi _ => HX4.out i hi)))
            clear hm5 ho5
            have HLD := Lib.hid (C.load HM5.out rfl)
            rw [show loadV (Ps.loadF (mdT (onF s2))) = .tuple #[.int .i64 ((sure : Int) + 1), .string d, .int .i64 0] from load_some (n := sure + 1) HI4.out (by omega)] at HLD
            go_wp2_with fail
            refine HLD.out.mono ?_
            rintro e w6 ⟨rfl, hb6⟩
            have HJ6 : Hid (JS w w6 X2 (w.heap.size + 1) (nw + 95) (onF s2) (i + 1) (sure + 1) d) := Lib.hid ⟨HM5.out.below hb6, rfl, rfl, HI4.out, HX4.out, HB5.out.trans (hb6.mono HB5.out.size), by have := HCAP.out; omega⟩
            have qs : (d.toList == d.toList) = true := beq_self_eq_true _
            have qn : (d.toList != d.toList) = false := bne_self_eq_false _
            have qk : ((sure : Int) + 1 != (sure : Int) + 1) = false := bne_self_eq_false _
            clear hb6 HLD HM5 HM4 HI4 HX4 HB4 HB5 HJ
            go_wp2_with fail
            go_roundw
            case rel => exact ⟨i + 1, sure + 1, d, by omega, by omega, by omega, by go_num, rfl, by go_num, Lib.hid ⟨_, _, _, HJ6.out⟩⟩
            case measure => simp [RowKit.intOf]; omega
          · clear HSV HM3 HB3 HOFF3 HMD3 HLF
            obtain ⟨X2, s2, hm2, hi2, hx2, hbw2⟩ := HH.out
            have HM4 := Lib.hid hm2
            have HI4 := Lib.hid hi2
            have HX4 := Lib.hid hx2
            have HB4 := Lib.hid hbw2
            have hcap := HJ.out.cap
            have HCAP := Lib.hid hcap
            have HSC := Lib.hid (C.sectors w4 d.size (by omega))
            have hp95 := partsN_5000 hd
            have l1 : decide ((L : Int) < 0) = false := decide_eq_false (by omega)
            have l2 : decide (((Ps.partsN d.size : Nat) : Int) ≤ (L : Int)) = false := decide_eq_false (by omega)
            have l3 : decide (Ps.partsN d.size ≤ L) = false := decide_eq_false (by omega)
            clear HH hm2 hi2 hx2 hbw2 hcap
            go_wp2_with fail
            refine HSC.out.mono ?_
            rintro e w5 ⟨rfl, hb5⟩
            have HM5 := Lib.hid (HM4.out.below hb5)
            have HB5 := Lib.hid (HB4.out.trans (hb5.mono HB4.out.size))
            clear hb5 HSC HM4 HB4
            go_wp2_with fail
            refine (onX X2 _ (nw + 95) s2 w5 HM5.out).mono ?_
            rintro e w6 ⟨rfl, hm6, ho6⟩
            have HM6 := Lib.hid hm6
            have HB6 := Lib.hid (HB5.out.trans (ho6.to_below HB5.out.size (fun i hi _ => HX4.out i hi)))
            clear hm6 ho6 HM5 HB5
            have HLD := Lib.hid (C.load HM6.out rfl)
            have HJF : Hid (∀ w7, Below w6.heap.size w6 w7 → JS w w7 X2 (w.heap.size + 1) (nw + 95) (onF s2) (i + 1) sure was) := Lib.hid (fun w7 hb7 => ⟨HM6.out.below hb7, rfl, rfl, HI4.out, HX4.out, HB6.out.trans (hb7.mono HB6.out.size), by have := HCAP.out; omega⟩)
            have qs : (was.toList == was.toList) = true := beq_self_eq_true _
            have qn : (was.toList != was.toList) = false := bne_self_eq_false _
            have qk : ((sure : Int) != (sure : Int)) = false := bne_self_eq_false _
            by_cases hs0 : sure = 0
            · subst hs0
              rw [show loadV (Ps.loadF (mdT (onF s2))) = .tuple #[.int .i64 0, .string ⟨#[]⟩, .int .i64 41] from load_none HI4.out] at HLD
              go_wp2_with fail
              refine HLD.out.mono ?_
              rintro e w7 ⟨rfl, hb7⟩
              have HJ7 := Lib.hid (HJF.out w7 hb7)
              clear hb7 HLD HJF HM6 HB6 HI4 HX4 HJ
              go_wp2_with fail
              go_roundw
              case rel => exact ⟨i + 1, 0, was, by omega, by omega, by omega, by go_num, rfl, by go_num, Lib.hid ⟨_, _, _, HJ7.out⟩⟩
              case measure => simp [RowKit.intOf]; omega
            · rw [show loadV (Ps.loadF (mdT (onF s2))) = .tuple #[.int .i64 (sure : Int), .string was, .int .i64 0] from load_some HI4.out (by omega)] at HLD
              have qz : ((sure : Int) == 0) = false := by rw [beq_eq_false_iff_ne]; omega
              go_wp2_with fail
              refine HLD.out.mono ?_
              rintro e w7 ⟨rfl, hb7⟩
              have HJ7 := Lib.hid (HJF.out w7 hb7)
              clear hb7 HLD HJF HM6 HB6 HI4 HX4 HJ
              go_wp2_with fail
              go_roundw
              case rel => exact ⟨i + 1, sure, was, by omega, by omega, by omega, by go_num, rfl, by go_num, Lib.hid ⟨_, _, _, HJ7.out⟩⟩
              case measure => simp [RowKit.intOf]; omega
        · have f1 : ((i : Int) % 2 == 1) = false := by rw [beq_eq_false_iff_ne]; omega
          go_wp2_with fail
          refine (fill_any _ _ _).mono ?_
          rintro e w2 ⟨d, hd, hds, rfl, hb2'⟩
          clear hds
          have HB3 := Lib.hid (HJ.out.bel.trans (hb2'.mono HJ.out.bel.size))
          have HM3 := Lib.hid (HJ.out.m.below hb2')
          have HOFF3 := Lib.hid HJ.out.off
          have HMD3 : Hid (mdT s = mdT s) := Lib.hid rfl
          clear hb2' hc0
          have HSV : Hid (Calls Try.prog 9 #[.pointer (some ⟨w.heap.size + 1, 0, none⟩), .int .i64 ((sure : Int) + 1), .string d] w2 fun e w4 =>
              (e = .returned (.int .i64 0) ∧ Hid (∃ X2 s2, M w4 X2 (w.heap.size + 1) (nw + 95) s2 ∧ s2.off = false ∧ Ps.Inv (mdT s2) (sure + 1) d ∧ (∀ k, X2 k → w.heap.size ≤ k) ∧ Below w.heap.size w w4)) ∨
              (e = .returned (.int .i64 40) ∧ False ∧ Hid (∃ X2 s2, M w4 X2 (w.heap.size + 1) (nw + 95) s2 ∧ Ps.Inv (mdT s2) sure was ∧ (∀ k, X2 k → w.heap.size ≤ k) ∧ Below w.heap.size w w4))) := Lib.hid (by
            have hcap := HJ.out.cap
            refine (C.save HM3.out HOFF3.out (by omega) (sure + 1) d (by omega) (by omega) (by omega)).mono ?_
            rintro e w4 ⟨X2, s2, hv⟩
            have hp := partsN_5000 hd
            have hx : ∀ k, X2 k → w.heap.size ≤ k := fun k hk => (hv.new k hk).elim (HJ.out.above k) (fun h => Nat.le_trans HB3.out.size h)
            have hbw : Below w.heap.size w w4 := HB3.out.trans (hv.only.to_below HB3.out.size (fun i hi _ => HJ.out.above i hi))
            rcases HJ.out.saved HMD3.out hsi hlt2 hd hv with ⟨h1, h2, h3, h4⟩ | ⟨h1, ha, ⟨j, hj, hl⟩, h3, h4⟩
            · exact .inl ⟨h1, Lib.hid ⟨X2, s2, h3.mono (by omega), h2, h4, hx, hbw⟩⟩
            · rw [HJ.out.armed] at ha; cases ha)
          go_wp2_with fail
          refine HSV.out.mono ?_
          rintro e w4 (⟨rfl, HH⟩ | ⟨_, hf, _⟩)
          · clear HSV HM3 HB3 HOFF3 HMD3
            obtain ⟨X2, s2, hm2, ho2, hi2, hx2, hbw2⟩ := HH.out
            have HM4 := Lib.hid hm2
            have HI4 := Lib.hid hi2
            have HX4 := Lib.hid hx2
            have HB4 := Lib.hid hbw2
            have hcap := HJ.out.cap
            have HCAP := Lib.hid hcap
            clear HH hm2 ho2 hi2 hx2 hbw2 hcap
            go_wp2_with fail
            refine (onX X2 _ (nw + 95) s2 w4 HM4.out).mono ?_
            rintro e w5 ⟨rfl, hm5, ho5⟩
            have HM5 := Lib.hid hm5
            have HB5 := Lib.hid (HB4.out.trans (ho5.to_below HB4.out.size (fun i hi _ => HX4.out i hi)))
            clear hm5 ho5
            have HLD := Lib.hid (C.load HM5.out rfl)
            rw [show loadV (Ps.loadF (mdT (onF s2))) = .tuple #[.int .i64 ((sure : Int) + 1), .string d, .int .i64 0] from load_some (n := sure + 1) HI4.out (by omega)] at HLD
            go_wp2_with fail
            refine HLD.out.mono ?_
            rintro e w6 ⟨rfl, hb6⟩
            have HJ6 : Hid (JS w w6 X2 (w.heap.size + 1) (nw + 95) (onF s2) (i + 1) (sure + 1) d) := Lib.hid ⟨HM5.out.below hb6, rfl, rfl, HI4.out, HX4.out, HB5.out.trans (hb6.mono HB5.out.size), by have := HCAP.out; omega⟩
            have qs : (d.toList == d.toList) = true := beq_self_eq_true _
            have qn : (d.toList != d.toList) = false := bne_self_eq_false _
            have qk : ((sure : Int) + 1 != (sure : Int) + 1) = false := bne_self_eq_false _
            clear hb6 HLD HM5 HM4 HI4 HX4 HB4 HB5 HJ
            go_wp2_with fail
            go_roundw
            case rel => exact ⟨i + 1, sure + 1, d, by omega, by omega, by omega, by go_num, rfl, by go_num, Lib.hid ⟨_, _, _, HJ6.out⟩⟩
            case measure => simp [RowKit.intOf]; omega
          · cases hf
      · go_wp2_with fail
        refine (fill_any _ _ _).mono ?_
        rintro e w2 ⟨d, hd, hds, rfl, hb2'⟩
        clear hds
        have HB3 := Lib.hid (HJ.out.bel.trans (hb2'.mono HJ.out.bel.size))
        have HM3 := Lib.hid (HJ.out.m.below hb2')
        have HOFF3 := Lib.hid HJ.out.off
        have HMD3 : Hid (mdT s = mdT s) := Lib.hid rfl
        clear hb2' hc0
        have HSV : Hid (Calls Try.prog 9 #[.pointer (some ⟨w.heap.size + 1, 0, none⟩), .int .i64 ((sure : Int) + 1), .string d] w2 fun e w4 =>
            (e = .returned (.int .i64 0) ∧ Hid (∃ X2 s2, M w4 X2 (w.heap.size + 1) (nw + 95) s2 ∧ s2.off = false ∧ Ps.Inv (mdT s2) (sure + 1) d ∧ (∀ k, X2 k → w.heap.size ≤ k) ∧ Below w.heap.size w w4)) ∨
            (e = .returned (.int .i64 40) ∧ False ∧ Hid (∃ X2 s2, M w4 X2 (w.heap.size + 1) (nw + 95) s2 ∧ Ps.Inv (mdT s2) sure was ∧ (∀ k, X2 k → w.heap.size ≤ k) ∧ Below w.heap.size w w4))) := Lib.hid (by
          have hcap := HJ.out.cap
          refine (C.save HM3.out HOFF3.out (by omega) (sure + 1) d (by omega) (by omega) (by omega)).mono ?_
          rintro e w4 ⟨X2, s2, hv⟩
          have hp := partsN_5000 hd
          have hx : ∀ k, X2 k → w.heap.size ≤ k := fun k hk => (hv.new k hk).elim (HJ.out.above k) (fun h => Nat.le_trans HB3.out.size h)
          have hbw : Below w.heap.size w w4 := HB3.out.trans (hv.only.to_below HB3.out.size (fun i hi _ => HJ.out.above i hi))
          rcases HJ.out.saved HMD3.out hsi hlt2 hd hv with ⟨h1, h2, h3, h4⟩ | ⟨h1, ha, ⟨j, hj, hl⟩, h3, h4⟩
          · exact .inl ⟨h1, Lib.hid ⟨X2, s2, h3.mono (by omega), h2, h4, hx, hbw⟩⟩
          · rw [HJ.out.armed] at ha; cases ha)
        go_wp2_with fail
        refine HSV.out.mono ?_
        rintro e w4 (⟨rfl, HH⟩ | ⟨_, hf, _⟩)
        · clear HSV HM3 HB3 HOFF3 HMD3
          obtain ⟨X2, s2, hm2, ho2, hi2, hx2, hbw2⟩ := HH.out
          have HM4 := Lib.hid hm2
          have HI4 := Lib.hid hi2
          have HX4 := Lib.hid hx2
          have HB4 := Lib.hid hbw2
          have hcap := HJ.out.cap
          have HCAP := Lib.hid hcap
          clear HH hm2 ho2 hi2 hx2 hbw2 hcap
          go_wp2_with fail
          refine (onX X2 _ (nw + 95) s2 w4 HM4.out).mono ?_
          rintro e w5 ⟨rfl, hm5, ho5⟩
          have HM5 := Lib.hid hm5
          have HB5 := Lib.hid (HB4.out.trans (ho5.to_below HB4.out.size (fun i hi _ => HX4.out i hi)))
          clear hm5 ho5
          have HLD := Lib.hid (C.load HM5.out rfl)
          rw [show loadV (Ps.loadF (mdT (onF s2))) = .tuple #[.int .i64 ((sure : Int) + 1), .string d, .int .i64 0] from load_some (n := sure + 1) HI4.out (by omega)] at HLD
          go_wp2_with fail
          refine HLD.out.mono ?_
          rintro e w6 ⟨rfl, hb6⟩
          have HJ6 : Hid (JS w w6 X2 (w.heap.size + 1) (nw + 95) (onF s2) (i + 1) (sure + 1) d) := Lib.hid ⟨HM5.out.below hb6, rfl, rfl, HI4.out, HX4.out, HB5.out.trans (hb6.mono HB5.out.size), by have := HCAP.out; omega⟩
          have qs : (d.toList == d.toList) = true := beq_self_eq_true _
          have qn : (d.toList != d.toList) = false := bne_self_eq_false _
          have qk : ((sure : Int) + 1 != (sure : Int) + 1) = false := bne_self_eq_false _
          clear hb6 HLD HM5 HM4 HI4 HX4 HB4 HB5 HJ
          go_wp2_with fail
          go_roundw
          case rel => exact ⟨i + 1, sure + 1, d, by omega, by omega, by omega, by go_num, rfl, by go_num, Lib.hid ⟨_, _, _, HJ6.out⟩⟩
          case measure => simp [RowKit.intOf]; omega
        · cases hf
    · rcases (show (i < n ∧ ¬ i < 60) ∨ ¬ i < n from by omega) with ⟨ha1, ha2⟩ | ha1
      all_goals
        go_wp2_with fail
        refine (awk _).mono ?_
        rintro e w3 ⟨rfl, h3⟩
        have HB3 := Lib.hid (HJ.out.bel.trans (h3.mono HJ.out.bel.size))
        clear h3
        go_wp2_with fail
        go_ret
        exact ⟨rfl, HB3.out⟩
end Go.Proofs.Ytkcickbkmedbmaa.slotsLasts
