/-
  THE CHAPTER's EXAMPLE.
-/
import Derived.Test.YtcmeaeemjecjiaaLAll
import Derived.Test.YtcmeaeemjecjiaaLFill
namespace Go.Proofs.Ytcmeaeemjecjiaa
open Go.RowKit Go.Maps

abbrev z100 : ByteArray := zB 100
theorem segL_rep (n k : Nat) : (Pl.segL n (List.replicate k z100)).length = 2 * k := by
  induction k generalizing n with
  | zero => rfl
  | succ k ih =>
    rw [List.replicate_succ, Pl.segL_len_cons, ih]
    have : Pl.partsN z100.size = 2 := by rw [zB_size]; decide
    omega
def preA (i : Nat) : List (List ByteArray) := if i ≤ 8 then [] else [List.replicate 8 z100]
def curA (i : Nat) : List ByteArray := List.replicate (if i ≤ 8 then i else i - 8) z100
theorem cntA (i : Nat) : Pl.cnt (preA i) = if i ≤ 8 then 0 else 8 := by
  unfold preA; split <;> simp [Pl.cnt]
theorem lenA (i : Nat) : (curA i).length = if i ≤ 8 then i else i - 8 := by simp [curA]
theorem segA (n i : Nat) : (Pl.segL n (curA i)).length = 2 * (if i ≤ 8 then i else i - 8) := segL_rep _ _
theorem stepA (i n : Nat) (hi : i < 12) : (if (Pl.segL n (curA i)).length + Pl.partsN z100.size ≤ 16 then (preA i, curA i ++ [z100]) else (preA i ++ [curA i], [z100])) = (preA (i + 1), curA (i + 1)) := by
  have hp : Pl.partsN z100.size = 2 := by rw [zB_size]; decide
  rw [segA, hp]
  by_cases h8 : i < 8
  · rw [if_pos (show i ≤ 8 by omega), if_pos (by omega)]
    unfold preA curA
    rw [if_pos (show i ≤ 8 by omega), if_pos (show i ≤ 8 by omega), if_pos (show i + 1 ≤ 8 by omega), if_pos (show i + 1 ≤ 8 by omega), List.replicate_succ']
  · by_cases h9 : i = 8
    · subst h9
      rw [if_pos (show (8 : Nat) ≤ 8 by omega), if_neg (show ¬ (2 * 8 + 2 ≤ 16) by omega)]
      rfl
    · rw [if_neg (show ¬ i ≤ 8 by omega), if_pos (by omega)]
      unfold preA curA
      rw [if_neg (show ¬ i ≤ 8 by omega), if_neg (show ¬ i ≤ 8 by omega), if_neg (show ¬ i + 1 ≤ 8 by omega), if_neg (show ¬ i + 1 ≤ 8 by omega), show List.replicate (i + 1 - 8) z100 = List.replicate (i - 8) z100 ++ [z100] from by rw [show i + 1 - 8 = (i - 8) + 1 from by omega]; exact List.replicate_succ']

/-- A log of the example's own. -/
structure JA (w wr : World) (X : Nat → Prop) (b bl n : Nat) (s : St) (lo nn : Nat) (pre : List (List ByteArray)) (cur : List ByteArray) : Prop where
  lm : LM LO wr X b bl n s lo nn pre cur
  off : s.off = false
  armed : s.armed = false
  above : ∀ k, X k → w.heap.size ≤ k
  bel : Below w.heap.size w wr
theorem JA.below {w wr w' : World} {X : Nat → Prop} {b bl n : Nat} {s : St} {lo nn : Nat} {pre : List (List ByteArray)} {cur : List ByteArray} (h : JA w wr X b bl n s lo nn pre cur) (hb : Below wr.heap.size wr w') : JA w w' X b bl n s lo nn pre cur :=
  ⟨h.lm.below cons hb, h.off, h.armed, h.above, h.bel.trans (hb.mono h.bel.size)⟩

set_option maxRecDepth 100000 in
set_option maxHeartbeats 6400000 in
theorem awake_any (w : World) : Calls Try.prog 14 #[] w fun e w' => e = .returned (.bool true) ∧ Below w.heap.size w w' := by
  go_enter Try.func14, Try.ntmps14
  go_wp2_with fail
  refine (newX w).mono ?_
  rintro e w1 ⟨X0, rfl, hm, hX0, hb0⟩
  have HM := Lib.hid hm
  have HX0 := Lib.hid hX0
  have HB0 := Lib.hid hb0
  clear hm hX0 hb0
  go_wp2_with fail
  refine (cons.open_ HM.out rfl (Pl.Inv.empty : Pl.Inv (mdT St.new) 2 1 [] []) (by omega) (by simp [Pl.cnt]) (by simp)).mono ?_
  rintro e w2 ⟨X1, bl, A7, m7, c7, rfl, hm7, _, _, hl1, hb1, hX1⟩
  have HJ : Hid (JA w w2 X1 (w.heap.size + 1) bl (8 * 0) St.new 2 1 (preA 0) (curA 0)) := Lib.hid ⟨hl1, rfl, rfl, fun k hk => (hX1 k hk).elim (HX0.out k) (fun h => Nat.le_trans HB0.out.size h), HB0.out.trans (hb1.mono HB0.out.size)⟩
  have hm70 : ((m7 : Int) != 0) = false := by rw [hm7]; rfl
  have HNX : Hid (Calls Try.prog 13 #[.pointer (some ⟨bl, 0, none⟩)] w2 fun e w' => e = .returned (.int .i64 1) ∧ Below w2.heap.size w2 w') := Lib.hid (cons.next HJ.out.lm)
  clear hm7 hl1 hb1 hX1 HM HX0 HB0
  go_wp2_with fail
  refine HNX.out.mono ?_
  rintro e w3 ⟨rfl, hb3⟩
  have HJ3 := Lib.hid (HJ.out.below hb3)
  clear hb3 HJ HNX
  go_wp2_with fail
  go_loopw [5] (fun v5 wr => ∃ i : Nat, i ≤ 12 ∧ v5 = .int .i64 (i : Int) ∧ Hid (∃ X s, JA w wr X (w.heap.size + 1) bl (8 * i) s 2 1 (preA i) (curA i))) (fun v5 _ => 12 - (RowKit.intOf v5).toNat)
  case atStart => exact ⟨0, by omega, rfl, Lib.hid ⟨_, _, HJ3.out⟩⟩
  case round =>
    obtain ⟨i, hi, rfl, HH⟩ := hrel
    clear HJ3
    obtain ⟨X, s, hJ⟩ := HH.out
    have HJ := Lib.hid hJ
    clear hJ HH
    by_cases hlt : i < 12
    · have hca := cntA i
      have hla := lenA i
      have HCL : Hid (1 + Pl.cnt (preA i) + (curA i).length = i + 1) := Lib.hid (by rw [hca, hla]; split <;> omega)
      have HPL : Hid ((preA i).length ≤ 1) := Lib.hid (by unfold preA; split <;> simp)
      clear hca hla
      go_wp2_with fail
      refine (zeros_any 100 _ (by omega)).mono ?_
      rintro e w4 ⟨rfl, hb4⟩
      have J4 := Lib.hid (HJ.out.below hb4)
      clear hb4 HJ
      have HAP : Hid (Calls Try.prog 10 #[.pointer (some ⟨bl, 0, none⟩), .string (zB 100)] w4 fun e w5 => e = .returned (.tuple #[.int .i64 ((i : Int) + 1), .int .i64 0]) ∧ Hid (∃ X s, JA w w5 X (w.heap.size + 1) bl (8 * (i + 1)) s 2 1 (preA (i + 1)) (curA (i + 1)))) := Lib.hid (by
        refine (cons.append J4.out.lm J4.out.off (by omega) (by have := HCL.out; omega) (by have := HPL.out; omega) (zB 100)).mono ?_
        rintro e w5 ⟨ho5, X5, hX5, (⟨hd, _⟩ | ⟨_, s', pre', cur', rfl, _, hs1, hs2, hl5, hpc⟩ | ⟨_, hs1, _⟩)⟩
        · exfalso; rw [zB_size] at hd; omega
        · rw [stepA i _ hlt] at hpc
          injection hpc with e1 e2
          subst e1 e2
          refine ⟨by rw [HCL.out]; rfl, Lib.hid ⟨X5, s', hl5, hs1, hs2.trans J4.out.armed, fun k hk => (hX5 k hk).elim (J4.out.above k) (fun h => Nat.le_trans J4.out.bel.size h), J4.out.bel.trans (ho5.to_below J4.out.bel.size (fun i hi _ => J4.out.above i hi))⟩⟩
        · rw [J4.out.armed] at hs1; cases hs1)
      have bk : ((i : Int) + 1 != (i : Int) + 1) = false := bne_self_eq_false _
      clear J4 HCL HPL
      go_wp2_with fail
      refine HAP.out.mono ?_
      rintro e w5 ⟨rfl, HN⟩
      clear HAP
      go_wp2_with fail
      go_roundw
      case rel => exact ⟨i + 1, by omega, by go_num, HN⟩
      case measure => simp [RowKit.intOf]; omega
    · obtain rfl : i = 12 := by omega
      have HSC : Hid (Calls Try.prog 16 #[.pointer (some ⟨bl, 0, none⟩)] wr fun e w' => e = .returned (.int .i64 24) ∧ Below wr.heap.size wr w') := Lib.hid (by
        have h := cons.sectors HJ.out.lm (by omega) (by show 2 + 1 ≤ 100000; omega)
        obtain ⟨Y, _, _, hinv⟩ := HJ.out.lm.med
        have hsg := (hinv.segs 0 (List.replicate 8 z100) rfl).at_
        have h16 : szN (mdT s) 2 = 16 := szN_full hsg (segL_rep _ _)
        have e : secN (mdT s) 2 (preA 12).length (Pl.segL (1 + Pl.cnt (preA 12)) (curA 12)).length = 24 := by
          rw [segA]
          show (List.map (fun j => szN (mdT s) (2 + j)) (List.range 1)).sum + _ = _
          simp [h16]
        rw [e] at h
        exact h)
      have HTR : Hid (∀ w3, JA w w3 X (w.heap.size + 1) bl (8 * 12) s 2 1 (preA 12) (curA 12) → Calls Try.prog 12 #[.pointer (some ⟨bl, 0, none⟩), .int .i64 8] w3 fun e w' => e = .returned (.int .i64 0) ∧ Hid (∃ X s, JA w w' X (w.heap.size + 1) bl 1096 s 3 9 [] (curA 12))) := Lib.hid (fun w3 J => by
        refine (cons.trim J.lm J.off (by omega) (by decide) (by show 2 + 1 ≤ 100000; omega) (by show 1 ≤ 900; omega) 8 (by constructor <;> decide)).mono ?_
        rintro e w4 ⟨ho4, X4, k, s4, hX4, hk, _, (⟨rfl, hs1, hs2, hl4, hlast⟩ | ⟨_, hs1, _⟩)⟩
        · have hk1 : k = 1 := by
            have h1 : k ≤ 1 := hk
            rcases Nat.eq_zero_or_pos k with h0 | h0
            · subst h0
              have := hlast (by show 0 < 1; omega)
              have e : 1 + Pl.cnt ((preA 12).take (0 + 1)) = 9 := by decide
              rw [e] at this
              omega
            · omega
          subst hk1
          refine ⟨rfl, Lib.hid ⟨X4, s4, hl4, hs1, hs2.trans J.armed, fun k hk => (hX4 k hk).elim (J.above k) (fun h => Nat.le_trans J.bel.size h), J.bel.trans (ho4.to_below J.bel.size (fun i hi _ => J.above i hi))⟩⟩
        · rw [J.armed] at hs1; cases hs1)
      go_wp2_with fail
      refine HSC.out.mono ?_
      rintro e w3 ⟨rfl, hb3⟩
      have HT3 := Lib.hid (HTR.out w3 (HJ.out.below hb3))
      clear hb3 HSC HTR HJ
      go_wp2_with fail
      refine HT3.out.mono ?_
      rintro e w4 ⟨rfl, HH4⟩
      obtain ⟨X4, s4, hJ4⟩ := HH4.out
      have J4 := Lib.hid hJ4
      clear hJ4 HH4 HT3
      have HOP : Hid (Calls Try.prog 7 #[.pointer (some ⟨w.heap.size + 1, 0, none⟩)] w4 fun e w5 => ∃ bl2 b0 o0 c, e = .returned (.tuple #[.pointer (some ⟨bl2, 0, none⟩), .slice (some ⟨b0, o0, none⟩) 4 c, .int .i64 0]) ∧ b0 < w5.heap.size ∧ w5.cell? ⟨b0, o0, none⟩ = some (.int .i64 9) ∧ w5.cell? ⟨b0, o0 + 1, none⟩ = some (.string z100) ∧
          Hid (Below w.heap.size w w5 ∧ JA w w5 X4 (w.heap.size + 1) bl 1096 s4 3 9 [] (curA 12) ∧ ∃ X5, LM LO w5 X5 (w.heap.size + 1) bl2 1096 s4 3 9 [] (curA 12))) := Lib.hid (by
        obtain ⟨Y, hmY, hY, hinv⟩ := J4.out.lm.med
        refine (cons.open_ hmY J4.out.off hinv (by omega) (by decide) (by simp)).mono ?_
        rintro e w5 ⟨X5, bl2, A, m, c, rfl, hm, hmc, hrd, hl5, hb5, hX5⟩
        have hm4 : m = 4 := hm
        subst hm4
        obtain ⟨b0, o0, rfl, hb0, hcs⟩ := hrd (by show 0 < 8; omega)
        refine ⟨bl2, b0, o0, c, rfl, hb0, hcs 0 _ rfl, hcs 1 _ rfl, Lib.hid ⟨J4.out.bel.trans (hb5.mono J4.out.bel.size), J4.out.below hb5, X5, hl5⟩⟩)
      clear J4
      go_wp2_with fail
      refine HOP.out.mono ?_
      rintro e w5 ⟨bl2, b0, o0, c, rfl, hb0, d0, d1, HH⟩
      have HC1 : Hid (∀ W, Below w5.heap.size w5 W → Calls Try.prog 16 #[.pointer (some ⟨bl, 0, none⟩)] W fun e w' => e = .returned (.int .i64 8) ∧ Below W.heap.size W w') := Lib.hid (fun W hW => cons.sectors (HH.out.2.1.below hW).lm (by omega) (by decide))
      have HC2 : Hid (∀ W, Below w5.heap.size w5 W → Calls Try.prog 13 #[.pointer (some ⟨bl2, 0, none⟩)] W fun e w' => e = .returned (.int .i64 13) ∧ Below W.heap.size W w') := Lib.hid (fun W hW => by
        obtain ⟨X5, h5⟩ := HH.out.2.2
        exact cons.next (h5.below cons hW))
      have HBW := Lib.hid HH.out.1
      have qs : (z100.toList == z100.toList) = true := beq_self_eq_true _
      have H : Hid (Below w5.heap.size w5 w5.drew) := Lib.hid (Fm.World.drew_below _)
      clear HOP HH
      go_wp2_with fail
      go_region_held3 (fun w' => w'.cell? ⟨b0, o0, none⟩ = some (.int .i64 9) ∧ w'.cell? ⟨b0, o0 + 1, none⟩ = some (.string z100))
        (first | exact ⟨(H.out.cell (p := ⟨b0, o0, none⟩) hb0).trans d0, (H.out.cell (p := ⟨b0, o0 + 1, none⟩) hb0).trans d1⟩)
        (first
          | (go_at_call 16; refine (HC1.out _ H.out).mono ?_; rintro e w' ⟨rfl, hb'⟩; have H := Lib.hid (H.out.trans (hb'.mono H.out.size)); clear hb')
          | (go_at_call 15; refine (zeros_any 100 _ (by omega)).mono ?_; rintro e w' ⟨rfl, hb'⟩; have H := Lib.hid (H.out.trans (hb'.mono H.out.size)); clear hb')
          | (go_at_call 13; refine (HC2.out _ H.out).mono ?_; rintro e w' ⟨rfl, hb'⟩; have H := Lib.hid (H.out.trans (hb'.mono H.out.size)); clear hb'))
      go_wp2_with fail
      go_ret
      exact ⟨rfl, HBW.out.trans (H.out.mono HBW.out.size)⟩
end Go.Proofs.Ytcmeaeemjecjiaa
