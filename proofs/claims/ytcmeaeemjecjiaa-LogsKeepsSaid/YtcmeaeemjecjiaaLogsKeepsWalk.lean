/-
  The walk of LogsKeeps, over the log's contracts.
-/
import Derived.Test.YtcmeaeemjecjiaaLAwake
import Derived.Test.YtcmeaeemjecjiaaLSize
import Derived.BigQuiet
import Derived.Deep.QuietTactic
namespace Go.Proofs.Ytcmeaeemjecjiaa.logsKeeps
open Go.RowKit Go.Maps

/-- What is so behind i appended frames. -/
structure JK (LO : Own) (w wr : World) (i nw : Nat) (X : Nat → Prop) (b bl : Nat) (s : St) (pre : List (List ByteArray)) (cur : List ByteArray) (z : Int) (nd : Nat) : Prop where
  off : s.off = false
  armed : s.armed = false
  jl : JL LO w wr X b bl nw s 2 1 pre cur [] (.slice none 0 0)
  len : (flat pre cur).length = i
  need : nd = needN z 1 (flat pre cur)
  cap : nw ≤ 2000 * i
  cap2 : nd ≤ 20 * i
  pl : pre.length ≤ Pl.cnt pre

set_option maxRecDepth 100000 in
set_option maxHeartbeats 6400000 in
theorem walk_of {LO : Own} (C : Cons LO) (awk : ∀ w, Calls Try.prog 14 #[] w fun e w' => e = .returned (.bool true) ∧ Below w.heap.size w w')
    (A : Option Addr) (n c : Nat) (zs : List Int) (z : Int) (w : World) (hn : n = zs.length) (hu : n ≤ 140737488351232) (hr : Rd w w.heap.size A (zs.map (Value.int .i64))) (hz : Wf z) :
    Calls Try.prog 4 #[.slice A n c, .int .i64 z] w fun e w' => e = .returned (.bool true) ∧ Below w.heap.size w w' := by
  have HN := Lib.hid hn
  have HR := Lib.hid hr
  have HZ := Lib.hid hz
  clear hn hr hz
  go_enter Try.func4, Try.ntmps4
  go_wp2_with fail
  refine (newX w).mono ?_
  rintro e w1 ⟨X0, rfl, hm, hX0, hb0⟩
  have HM := Lib.hid hm
  have HX0 := Lib.hid hX0
  have HB0 := Lib.hid hb0
  clear hm hX0 hb0
  go_wp2_with fail
  refine (C.open_ HM.out rfl (Pl.Inv.empty : Pl.Inv (mdT St.new) 2 1 [] []) (by omega) (by simp [Pl.cnt]) (by simp)).mono ?_
  rintro e w2 ⟨X1, bl, A7, m7, c7, rfl, hm7, _, _, hl1, hb1, hX1⟩
  have HJ : Hid (JK LO w w2 0 0 X1 (w.heap.size + 1) bl St.new [] [] z 0) := Lib.hid ⟨rfl, rfl, ⟨hl1, fun k hk => (hX1 k hk).elim (HX0.out k) (fun h => Nat.le_trans HB0.out.size h), HB0.out.trans (hb1.mono HB0.out.size), World.ownsRow_nil _ _ _ _, fun g hg => by simp [Value.ownBlock] at hg⟩, rfl, rfl, by omega, by omega, by simp⟩
  clear hm7 hl1 hb1 hX1 HM HX0 HB0
  go_wp2_with fail
  go_loopw [9, 10] (fun v9 v10 wr => ∃ (i nd : Nat), i ≤ n ∧ i ≤ 100 ∧ v9 = .int .i64 (nd : Int) ∧ v10 = .int .i64 (i : Int) ∧ nd ≤ 2000 ∧ Hid (∃ nw X s pre cur, JK LO w wr i nw X (w.heap.size + 1) bl s pre cur z nd)) (fun _ v10 _ => 100 - (RowKit.intOf v10).toNat)
  case atStart => exact ⟨0, 0, by omega, by omega, rfl, rfl, by omega, Lib.hid ⟨_, _, _, _, _, HJ.out⟩⟩
  case round =>
    obtain ⟨i, nd, hi, hi100, rfl, rfl, hnd, HH⟩ := hrel
    obtain ⟨nw, X, s, pre, cur, hJ⟩ := HH.out
    have HJ := Lib.hid hJ
    have hfl := flat_length pre cur
    rw [hJ.len] at hfl
    have k1 := hJ.cap
    have k2 := hJ.pl
    clear hJ HH
    by_cases hlt : i < n ∧ i < 100
    · obtain ⟨hlt, hlt2⟩ := hlt
      have hil : i < zs.length := by rw [← HN.out]; exact hlt
      obtain ⟨ba, oa, rfl, hba, hcs⟩ := HR.out.int_at hil
      have hc0 := (HJ.out.jl.bel.cell (p := ⟨ba, oa + i, none⟩) hba).trans (hcs i hil)
      generalize zs[i] = v at hc0
      clear hcs hil
      obtain ⟨m, hm⟩ := Int.eq_ofNat_of_zero_le (show 0 ≤ min (max v 0) 440 by omega)
      have hm4 : m ≤ 440 := by omega
      have HF := Lib.hid hfl
      clear hfl
      go_wp2_with fail
      refine (zeros_any m _ (by omega)).mono ?_
      rintro e w3 ⟨rfl, hb3⟩
      have J3 := Lib.hid (HJ.out.jl.below C hb3)
      have hfl := HF.out
      clear hb3
      have hap := C.append J3.out.lm HJ.out.off (by omega) (by omega) (by omega) (zB m)
      have HAP := Lib.hid hap
      clear hap hfl k1 k2
      go_wp2_with fail
      refine HAP.out.mono ?_
      rintro e w4 ⟨ho4, X4, hX4, (⟨hd, _⟩ | ⟨_, s', pre', cur', rfl, hfl4, hs1, hs2, hl4, _⟩ | ⟨_, hs1, _⟩)⟩
      · exfalso; rw [zB_size] at hd; omega
      · have hk : ((1 + Pl.cnt pre + cur.length : Nat) : Int) = (i : Int) + 1 := by have := HF.out; omega
        rw [hk]
        have bk : ((i : Int) + 1 != (i : Int) + 1) = false := bne_self_eq_false _
        have hpn : max 1 (((m : Int) + 54) / 55) = (Pl.partsN m : Int) := by unfold Pl.partsN; omega
        have hp8 := Pl.partsN_le hm4
        have J4 := Lib.hid (J3.out.step ho4 hX4 hl4)
        have hne : needN z 1 (flat pre' cur') = nd + (if z < (i : Int) + 1 then Pl.partsN m + 7 else 0) := by
          rw [hfl4, needN_app, ← HJ.out.need, HJ.out.len, needN, needN, zB_size, Nat.add_zero, show ((1 + i : Nat) : Int) = (i : Int) + 1 from by omega]
        have hle : (flat pre' cur').length = i + 1 := by rw [hfl4, List.length_append, HJ.out.len]; rfl
        have hpl := Full.len (hl4.med).choose_spec.2.2.full
        by_cases hgt : z < (i : Int) + 1
        · rw [if_pos hgt] at hne
          have JN : Hid (JK LO w w4 (i + 1) (nw + 8) X4 (w.heap.size + 1) bl s' pre' cur' z (nd + (Pl.partsN m + 7))) := Lib.hid ⟨hs1, hs2.trans HJ.out.armed, J4.out, hle, hne.symm, by have := HJ.out.cap; omega, by have := HJ.out.cap2; omega, hpl⟩
          have hnb : nd + (Pl.partsN m + 7) ≤ 2000 := by have := JN.out.cap2; omega
          have g1 : decide (z < (i : Int) + 1) = true := decide_eq_true hgt
          clear hne hle hpl hfl4 hs1 hs2 hl4 ho4 hX4 hk
          go_wp2_with fail
          go_roundw
          case rel => exact ⟨i + 1, nd + (Pl.partsN m + 7), by omega, by omega, by go_num, by go_num, hnb, Lib.hid ⟨_, _, _, _, _, JN.out⟩⟩
          case measure => simp [RowKit.intOf]; omega
        · rw [if_neg hgt, Nat.add_zero] at hne
          have JN : Hid (JK LO w w4 (i + 1) (nw + 8) X4 (w.heap.size + 1) bl s' pre' cur' z nd) := Lib.hid ⟨hs1, hs2.trans HJ.out.armed, J4.out, hle, hne.symm, by have := HJ.out.cap; omega, by have := HJ.out.cap2; omega, hpl⟩
          have g1 : decide (z < (i : Int) + 1) = false := decide_eq_false hgt
          clear hne hle hpl hfl4 hs1 hs2 hl4 ho4 hX4 hk
          go_wp2_with fail
          go_roundw
          case rel => exact ⟨i + 1, nd, by omega, by omega, by go_num, by go_num, hnd, Lib.hid ⟨_, _, _, _, _, JN.out⟩⟩
          case measure => simp [RowKit.intOf]; omega
      · rw [HJ.out.armed] at hs1
        cases hs1
    · have hsp : (i < n ∧ ¬ i < 100) ∨ ¬ i < n := by omega
      rcases hsp with ⟨ha1, ha2⟩ | ha1
      all_goals
        have hnN : min (n : Int) 100 = (i : Int) := by omega
        have HF := Lib.hid hfl
        have HTR : Hid (Calls Try.prog 12 #[.pointer (some ⟨bl, 0, none⟩), .int .i64 z] wr fun e w' => e = .returned (.int .i64 0) ∧ Hid (∃ (n2 lo2 nn2 : Nat) (X2 : Nat → Prop) (s2 : St) (pre2 : List (List ByteArray)), n2 ≤ 300000 ∧ lo2 + pre2.length ≤ 1000 ∧ s2.off = false ∧ JL LO w w' X2 (w.heap.size + 1) bl n2 s2 lo2 nn2 pre2 cur [] (.slice none 0 0) ∧
            secN (mdT s2) lo2 pre2.length (Pl.segL (nn2 + Pl.cnt pre2) cur).length ≤ nd + 32 ∧ nn2 + Pl.cnt pre2 + cur.length = i + 1 ∧ (nn2 : Int) ≤ max z 0 + 1 ∧ (0 < i → cur ≠ []) ∧ (i = 0 → pre2 = [] ∧ cur = []) ∧ 1 ≤ nn2)) := Lib.hid (by
          have hJ := HJ.out
          refine (C.trim hJ.jl.lm hJ.off (by omega) (by omega) (by omega) (by omega) z HZ.out).mono ?_
          rintro e w2 ⟨ho2, X2, k, s2, hX2, hk, hlow, (⟨rfl, hs1, hs2, hl2, hlast⟩ | ⟨_, hs1, _⟩)⟩
          · have hcs := cnt_split pre k
            obtain ⟨_, _, _, hinv0⟩ := hJ.jl.lm.med
            obtain ⟨_, _, _, hinv2⟩ := hl2.med
            refine ⟨rfl, Lib.hid ⟨nw + 1000, 2 + k, 1 + Pl.cnt (pre.take k), X2, s2, pre.drop k, by omega, by rw [List.length_drop]; omega, hs1, hJ.jl.step ho2 hX2 hl2, ?_, by omega, ?_, fun hi0 hc => ?_, fun hi0 => ?_, by omega⟩⟩
            · have h1 := keeps hinv2 (z := z) (fun hne => by
                have hkl : k < pre.length := by
                  rcases Nat.lt_or_ge k pre.length with h | h
                  · exact h
                  · exact absurd (List.drop_eq_nil_of_le h) hne
                have h2 := hlast hkl
                have h3 : Pl.cnt ((pre.drop k).take 1) = pre[k].length := by
                  rw [List.drop_eq_getElem_cons hkl, List.take_succ_cons, List.take_zero, Pl.cnt_cons]; rfl
                have h4 : Pl.cnt (pre.take (k + 1)) = Pl.cnt (pre.take k) + pre[k].length := Pl.cnt_take_succ (List.getElem?_eq_getElem hkl)
                omega)
              have h2 := needN_drop z (flat pre cur) 1 (Pl.cnt (pre.take k)) (by rw [flat_length]; omega)
              rw [← flat_drop] at h2
              have h3 := hJ.need
              omega
            · rcases hlow with h | h
              · subst h
                have : Pl.cnt (pre.take 0) = 0 := rfl
                omega
              · omega
            · have hp : pre = [] := by
                cases pre with
                | nil => rfl
                | cons x y => exact absurd hc (hinv0.some_ (by simp))
              subst hp hc
              have := HF.out
              simp [Pl.cnt] at this
              omega
            · have hc : cur = [] := by
                have := HF.out
                have : cur.length = 0 := by omega
                exact List.length_eq_zero_iff.1 this
              refine ⟨?_, hc⟩
              have hp : pre = [] := by
                cases pre with
                | nil => rfl
                | cons x y => exact absurd hc (hinv0.some_ (by simp))
              subst hp
              simp
          · rw [hJ.armed] at hs1; cases hs1)
        clear hfl k1 k2 HJ HF
        go_wp2_with fail
        refine HTR.out.mono ?_
        rintro e w2 ⟨rfl, HH⟩
        clear HTR
        obtain ⟨n2, lo2, nn2, X2, s2, pre2, hn2, hlo2, hoff2, hJ2, hsec, hcnt, hfirst, hcur, hnil, hnn2⟩ := HH.out
        have HJ2 := Lib.hid hJ2
        have HOFF2 := Lib.hid hoff2
        have HCNT := Lib.hid hcnt
        have HCUR := Lib.hid hcur
        have HNIL := Lib.hid hnil
        have HSC := Lib.hid (C.sectors hJ2.lm (by omega) (by omega))
        have HNX := Lib.hid (C.next hJ2.lm)
        obtain ⟨sc, hsc⟩ : ∃ sc, sc = secN (mdT s2) lo2 pre2.length (Pl.segL (nn2 + Pl.cnt pre2) cur).length := ⟨_, rfl⟩
        rw [← hsc] at HSC hsec
        have HSCE := Lib.hid hsc
        clear HH hJ2 hoff2 hcnt hcur hnil hsc HNX
        have g1 : decide ((nd : Int) + 32 < (sc : Int)) = false := decide_eq_false (by omega)
        go_wp2_with fail
        refine HSC.out.mono ?_
        rintro e w3 ⟨rfl, hb3⟩
        have HJ3 := Lib.hid (HJ2.out.below C hb3)
        clear hb3 HSC HJ2
        go_wp2_with fail
        have HOP : Hid (Calls Try.prog 7 #[.pointer (some ⟨w.heap.size + 1, 0, none⟩)] w3 fun e w5 => ∃ bl2 A c, e = .returned (.tuple #[.pointer (some ⟨bl2, 0, none⟩), .slice A (flat pre2 cur).length c, .int .i64 0]) ∧ Hid (Rd w5 w5.heap.size A (fc nn2 (flat pre2 cur)) ∧ JL LO w w5 X2 (w.heap.size + 1) bl n2 s2 lo2 nn2 pre2 cur [] (.slice none 0 0) ∧
            ∃ X5, LM LO w5 X5 (w.heap.size + 1) bl2 n2 s2 lo2 nn2 pre2 cur)) := Lib.hid (by
          obtain ⟨Y, hmY, hY, hinv⟩ := HJ3.out.lm.med
          have hc := HCNT.out
          refine (C.open_ hmY HOFF2.out hinv (by omega) (by omega) (by omega)).mono ?_
          rintro e w5 ⟨X5, bl2, A, m, c, rfl, rfl, hmc, hrd, hl5, hb5, hX5⟩
          exact ⟨bl2, A, c, rfl, Lib.hid ⟨hrd, HJ3.out.below C hb5, X5, hl5⟩⟩)
        clear HJ3 g1
        refine HOP.out.mono ?_
        rintro e w5 ⟨bl2, A, c5, rfl, HH⟩
        have HBW : Hid (Below w.heap.size w w5) := Lib.hid HH.out.2.1.bel
        have HS1 : Hid (∀ W, Below w5.heap.size w5 W → Calls Try.prog 16 #[.pointer (some ⟨bl, 0, none⟩)] W fun e w' => e = .returned (.int .i64 (sc : Int)) ∧ Below W.heap.size W w') := Lib.hid (fun W hW => by
          have := C.sectors (HH.out.2.1.lm.below C hW) (by omega) (by omega)
          rwa [← HSCE.out] at this)
        have HS2 : Hid (∀ W, Below w5.heap.size w5 W → Calls Try.prog 16 #[.pointer (some ⟨bl2, 0, none⟩)] W fun e w' => e = .returned (.int .i64 (sc : Int)) ∧ Below W.heap.size W w') := Lib.hid (fun W hW => by
          obtain ⟨X5, h5⟩ := HH.out.2.2
          have := C.sectors (h5.below C hW) (by omega) (by omega)
          rwa [← HSCE.out] at this)
        have HN1 : Hid (∀ W, Below w5.heap.size w5 W → Calls Try.prog 13 #[.pointer (some ⟨bl, 0, none⟩)] W fun e w' => e = .returned (.int .i64 ((i : Int) + 1)) ∧ Below W.heap.size W w') := Lib.hid (fun W hW => by
          have := C.next (HH.out.2.1.lm.below C hW)
          rw [HCNT.out] at this
          exact this)
        have HN2 : Hid (∀ W, Below w5.heap.size w5 W → Calls Try.prog 13 #[.pointer (some ⟨bl2, 0, none⟩)] W fun e w' => e = .returned (.int .i64 ((i : Int) + 1)) ∧ Below W.heap.size W w') := Lib.hid (fun W hW => by
          obtain ⟨X5, h5⟩ := HH.out.2.2
          have := C.next (h5.below C hW)
          rw [HCNT.out] at this
          exact this)
        have b1 : ((i : Int) + 1 != (i : Int) + 1) = false := bne_self_eq_false _
        have b2 : ((sc : Int) != (sc : Int)) = false := bne_self_eq_false _
        have H : Hid (Below w5.heap.size w5 w5) := Lib.hid (Below.refl _ _)
        by_cases hi0 : i = 0
        · have hm0 : (flat pre2 cur).length = 0 := by
            obtain ⟨e1, e2⟩ := HNIL.out hi0
            rw [e1, e2]; rfl
          rw [hm0]
          have z1 : ((i : Int) == 0) = true := by rw [beq_iff_eq]; omega
          clear hi0 hm0 HOP
          go_wp2_with (first
            | (go_at_call_of 13 (Value.pointer (some ⟨bl2, 0, none⟩)); refine (HN2.out _ H.out).mono ?_; rintro e w' ⟨rfl, hb'⟩; have H := Lib.hid (H.out.trans (hb'.mono H.out.size)); clear hb')
            | (go_at_call_of 13 (Value.pointer (some ⟨bl, 0, none⟩)); refine (HN1.out _ H.out).mono ?_; rintro e w' ⟨rfl, hb'⟩; have H := Lib.hid (H.out.trans (hb'.mono H.out.size)); clear hb')
            | (go_at_call_of 16 (Value.pointer (some ⟨bl2, 0, none⟩)); refine (HS2.out _ H.out).mono ?_; rintro e w' ⟨rfl, hb'⟩; have H := Lib.hid (H.out.trans (hb'.mono H.out.size)); clear hb')
            | (go_at_call_of 16 (Value.pointer (some ⟨bl, 0, none⟩)); refine (HS1.out _ H.out).mono ?_; rintro e w' ⟨rfl, hb'⟩; have H := Lib.hid (H.out.trans (hb'.mono H.out.size)); clear hb')
            | (go_at_call 14; refine (awk _).mono ?_; rintro e w' ⟨rfl, hb'⟩; have H := Lib.hid (H.out.trans (hb'.mono H.out.size)); clear hb')
            | fail)
          go_ret
          exact ⟨rfl, HBW.out.trans (H.out.mono HBW.out.size)⟩
        · obtain ⟨q, hq⟩ : ∃ q, (flat pre2 cur).length = q + 1 := by
            have := HCUR.out (by omega)
            have : 0 < cur.length := List.length_pos_iff.2 this
            exact ⟨(flat pre2 cur).length - 1, by rw [flat_length]; omega⟩
          have hqn : nn2 + q = i := by have := HCNT.out; rw [flat_length] at hq; omega
          obtain ⟨b0, o0, rfl, hb0, hcs⟩ := HH.out.1 (by rw [fc_length, hq]; omega)
          have d0 := hcs 0 _ (fc_at0 _ nn2 0 (by omega))
          have d1 := hcs (q * 2) _ (fc_at0 _ nn2 q (by omega))
          rw [hqn] at d1
          simp only [Nat.add_zero] at d0
          have hq5 : q ≤ 100 := by omega
          have hn5 : nn2 ≤ 100 := by omega
          rw [hq]
          have z1 : ((i : Int) == 0) = false := by rw [beq_eq_false_iff_ne]; omega
          have z2 : ((i : Int) == (i : Int)) = true := beq_self_eq_true _
          have z3 : decide ((nn2 : Int) - 1 ≤ max z 0) = true := decide_eq_true (by omega)
          have z4 : -9223372036854775808 ≤ (nn2 : Int) - 1 := by omega
          clear hi0 hq hqn hcs HOP hfirst
          go_wp2_with (first
            | (go_at_call_of 13 (Value.pointer (some ⟨bl2, 0, none⟩)); refine (HN2.out _ H.out).mono ?_; rintro e w' ⟨rfl, hb'⟩; have H := Lib.hid (H.out.trans (hb'.mono H.out.size)); clear hb')
            | (go_at_call_of 13 (Value.pointer (some ⟨bl, 0, none⟩)); refine (HN1.out _ H.out).mono ?_; rintro e w' ⟨rfl, hb'⟩; have H := Lib.hid (H.out.trans (hb'.mono H.out.size)); clear hb')
            | (go_at_call_of 16 (Value.pointer (some ⟨bl2, 0, none⟩)); refine (HS2.out _ H.out).mono ?_; rintro e w' ⟨rfl, hb'⟩; have H := Lib.hid (H.out.trans (hb'.mono H.out.size)); have e0 := (H.out.cell (p := ⟨b0, o0, none⟩) hb0).trans d0; have e1 := (H.out.cell (p := ⟨b0, o0 + q * 2, none⟩) hb0).trans d1; clear hb')
            | (go_at_call_of 16 (Value.pointer (some ⟨bl, 0, none⟩)); refine (HS1.out _ H.out).mono ?_; rintro e w' ⟨rfl, hb'⟩; have H := Lib.hid (H.out.trans (hb'.mono H.out.size)); have e0 := (H.out.cell (p := ⟨b0, o0, none⟩) hb0).trans d0; have e1 := (H.out.cell (p := ⟨b0, o0 + q * 2, none⟩) hb0).trans d1; clear hb')
            | (go_at_call 14; refine (awk _).mono ?_; rintro e w' ⟨rfl, hb'⟩; have H := Lib.hid (H.out.trans (hb'.mono H.out.size)); clear hb')
            | fail)
          go_ret
          exact ⟨rfl, HBW.out.trans (H.out.mono HBW.out.size)⟩
/-- The law's walk, as the row asks it. -/
theorem walk (A : Option Addr) (n c : Nat) (zs : List Int) (z : Int) (w : World) (hn : n = zs.length) (hu : n * 8 ≤ 140737488351232) (hr : Rd w w.heap.size A (zs.map (Value.int .i64))) (hz : Wf z) :
    Calls Try.prog 4 #[.slice A n c, .int .i64 z] w fun e w' => e = .returned (.bool true) ∧ Below w.heap.size w w' :=
  walk_of cons awake_any A n c zs z w hn (by omega) hr hz
end Go.Proofs.Ytcmeaeemjecjiaa.logsKeeps
