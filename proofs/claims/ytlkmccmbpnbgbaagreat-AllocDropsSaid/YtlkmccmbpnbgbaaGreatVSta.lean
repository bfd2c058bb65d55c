/-
 CONTRACTS of slices' swapRange over things. (By wip/tools/gen_vsort.py.)
 CONTRACTS of slices' rotate over things. (By wip/tools/gen_vsort.py.)
 CONTRACTS of slices' insertion sort over things. (By wip/tools/gen_vsort.py.)
 CONTRACTS of slices' merge in place, where one of both parts is one thing. (By wip/tools/gen_vsort.py.)
 CONTRACTS of slices' merge in place. (By wip/tools/gen_vsort.py.)
 CONTRACTS of slices' stable sort over things. (By wip/tools/gen_vsort.py.)
 (By wip/tools/merge.py.)
-/
import Derived.Test.YtlkmccmbpnbgbaaGreatVWords
import Derived.Test.YtlkmccmbpnbgbaaGreatHAppK
import Derived.Deep.RegionHeld3
import Derived.BigRegion
import Derived.Maps.RangeWalk
import Derived.IntWalk
import Derived.Deep.CutRange
namespace Go.Proofs.YtlkmccmbpnbgbaaGreat
set_option linter.unusedVariables false
open Go.RowKit

theorem rng_length (P X Q Y S : List (List Value)) (i : Nat) (h : X.length = Y.length) : (Pl.rng P X Q Y S i).length = (P ++ (X ++ (Q ++ (Y ++ S)))).length := by
 simp only [Pl.rng, List.length_append, List.length_take, List.length_drop]
 omega
theorem things_rng {ks : List CK} {P X Q Y S : List (List Value)} (h : Things ks (P ++ (X ++ (Q ++ (Y ++ S))))) (i : Nat) : Things ks (Pl.rng P X Q Y S i) := fun e he => h e (by
 simp only [Pl.rng, List.mem_append] at he ⊢
 rcases he with he | (he | he) | he | (he | he) | he
 · exact .inl he
 · exact .inr (.inr (.inr (.inl (List.mem_of_mem_take he))))
 · exact .inr (.inl (List.mem_of_mem_drop he))
 · exact .inr (.inr (.inl he))
 · exact .inr (.inl (List.mem_of_mem_take he))
 · exact .inr (.inr (.inr (.inl (List.mem_of_mem_drop he))))
 · exact .inr (.inr (.inr (.inr he))))
set_option maxRecDepth 100000 in
set_option maxHeartbeats 1600000 in
theorem swaprstand (B g n c K k : Nat) (P X Q Y S : List (List Value)) (za zb zk : Int) (w : World) (hX : X.length = k) (hY : Y.length = k) (hza : za = (P.length : Int)) (hzb : zb = ((P.length + k + Q.length : Nat) : Int)) (hzk : zk = (k : Int)) (hn : n = (P ++ (X ++ (Q ++ (Y ++ S)))).length) (hn6 : n ≤ 100000) (hM : Things kstand (P ++ (X ++ (Q ++ (Y ++ S))))) (ho : w.ownsRow B 159 8 (.slice (some ⟨g, 0, none⟩) n c) n (P ++ (X ++ (Q ++ (Y ++ S)))).flatten) (hB : B ≤ w.heap.size) :
 Calls Tryz.prog 183 #[.slice (some ⟨g, 0, none⟩) n c, .int .i64 za, .int .i64 zb, .int .i64 zk, .func (.func K) #[] #[]] w fun e w' => e = .returned (.tuple #[]) ∧ w'.ownsRow B 159 8 (.slice (some ⟨g, 0, none⟩) n c) n (P ++ (Y ++ (Q ++ (X ++ S)))).flatten ∧ Below B w w' := by
 have HLE : Hid (P.length + k + Q.length + k ≤ n) := Lib.hid (by rw [hn]; simp only [List.length_append, hX, hY]; omega)
 have HNN : Hid (∀ i, (Pl.rng P X Q Y S i).length = n) := Lib.hid (fun i => by rw [hn]; exact rng_length P X Q Y S i (hX.trans hY.symm))
 have HT : Hid (∀ i, Things kstand (Pl.rng P X Q Y S i)) := Lib.hid (things_rng hM)
 have HAT : Hid (∀ i, i < k → _) := Lib.hid (fun i hi => Pl.rng_at P X Q Y S hX hY hi)
 have HEND : Hid (Pl.rng P X Q Y S k = P ++ (Y ++ (Q ++ (X ++ S)))) := Lib.hid (Pl.rng_all P X Q Y S hX hY)
 have HO0 : Hid (w.ownsRow B 159 8 (.slice (some ⟨g, 0, none⟩) n c) n (Pl.rng P X Q Y S 0).flatten) := Lib.hid (by rw [Pl.rng_zero]; exact ho)
 obtain ⟨a, hpa⟩ : ∃ a, P.length = a := ⟨_, rfl⟩
 obtain ⟨b, hpb⟩ : ∃ b, a + k + Q.length = b := ⟨_, rfl⟩
 rw [hpa] at HLE HAT hza hzb
 rw [hpb] at HLE HAT hzb
 have hbl : a + k ≤ b := by omega
 subst hza hzb hzk
 have hle := HLE.out
 clear hX hY hn hM ho hpa hpb
 have hu := Tryz.underlying159
 go_enter Tryz.func183, Tryz.ntmps183
 go_wp2_with fail
 go_loopw [10] (fun iv wr => ∃ i : Nat, i ≤ k ∧ iv = .int .i64 (i : Int) ∧ Hid (wr.ownsRow B 159 8 (.slice (some ⟨g, 0, none⟩) n c) n (Pl.rng P X Q Y S i).flatten) ∧ Hid (Below B w wr)) (fun iv _ => k - (intOf iv).toNat)
 case atStart => exact ⟨0, by omega, rfl, HO0, Lib.hid (Below.refl _ _)⟩
 case round =>
  obtain ⟨i, hik, rfl, HO, HB⟩ := hrel
  by_cases hlt : i < k
  · skip
    obtain ⟨x, y, h1, h2, hx, hy, hset⟩ := HAT.out i hlt
    obtain ⟨p, hp⟩ : ∃ p, a + i = p := ⟨_, rfl⟩
    obtain ⟨q, hq⟩ : ∃ q, b + i = q := ⟨_, rfl⟩
    simp only [hp] at h1 hx hset
    simp only [hq] at h2 hy hset
    have hpx := some_at ⟨h1, hx⟩
    have hqy := some_at ⟨h2, hy⟩
    have FX : Hid (Fits kstand x) := Lib.hid (hx ▸ HT.out i _ (List.getElem_mem h1))
    have FY : Hid (Fits kstand y) := Lib.hid (hy ▸ HT.out i _ (List.getElem_mem h2))
    have HLX : Hid (x.length = 8) := Lib.hid (FX.out.length)
    have HIX : Hid ((Tryz.prog.info? 159).map (·.size) = some x.length) := Lib.hid (by rw [HLX.out]; kernel_rfl)
    have HAX : Hid ((Tryz.prog.info? 159).map (·.size) = some x.toArray.size) := Lib.hid (by rw [List.size_toArray, HLX.out]; kernel_rfl)
    have HOX : Hid (x.toArray.all (·.oneCell') = true) := Lib.hid (all_oneCell_toArray (fits_one FX.out))
    have HLY : Hid (y.length = 8) := Lib.hid (FY.out.length)
    have HIY : Hid ((Tryz.prog.info? 159).map (·.size) = some y.length) := Lib.hid (by rw [HLY.out]; kernel_rfl)
    have HAY : Hid ((Tryz.prog.info? 159).map (·.size) = some y.toArray.size) := Lib.hid (by rw [List.size_toArray, HLY.out]; kernel_rfl)
    have HOY : Hid (y.toArray.all (·.oneCell') = true) := Lib.hid (all_oneCell_toArray (fits_one FY.out))
    have HSW := Lib.hid (row_swap (own_below HO.out (Below.refl _ _).drew) (own_ge HO.out) (HT.out i) (by decide) (HNN.out i).symm hpx hqy)
    rw [hset] at HSW
    have hpn : p < n := by have := HNN.out i; omega
    have hqn : q < n := by have := HNN.out i; omega
    have hwp : IntKind.i64.wrap ((a : Int) + (i : Int)) = (p : Int) := by rw [IntWalk.i64_in _ (by omega)]; omega
    have hwq : IntKind.i64.wrap ((b : Int) + (i : Int)) = (q : Int) := by rw [IntWalk.i64_in _ (by omega)]; omega
    clear h1 h2 hx hy hpx hqy hset hp hq
    go_wp2_with fail
    apply region_to
    case h =>
     refine wp_region_any (by kernel_rfl) ?_
     refine tkA 0 (.slice (some ⟨g, 0, none⟩) n c) rfl ?_
     simp only [ax]
     refine tkA 1 (.int .i64 (a : Int)) rfl ?_
     simp only [ax]
     refine tkA 2 (.int .i64 (i : Int)) rfl ?_
     simp only [ax]
     refine tkA 3 (.int .i64 (p : Int)) rfl ?_
     simp only [ax]
     refine tkA 4 (.slice (some ⟨g, 0, none⟩) n c) rfl ?_
     simp only [ax]
     refine tkA 5 (.int .i64 (b : Int)) rfl ?_
     simp only [ax]
     refine tkA 6 (.int .i64 (i : Int)) rfl ?_
     simp only [ax]
     refine tkA 7 (.int .i64 (q : Int)) rfl ?_
     simp only [ax]
     refine tkA 8 (.slice (some ⟨g, 0, none⟩) n c) rfl ?_
     simp only [ax]
     refine tkA 9 (.int .i64 (b : Int)) rfl ?_
     simp only [ax]
     refine tkA 10 (.int .i64 (i : Int)) rfl ?_
     simp only [ax]
     refine tkA 11 (.int .i64 (q : Int)) rfl ?_
     simp only [ax]
     refine tkO 12 (.pointer (some ⟨g, q * 8, none⟩)) rfl ?_
     simp only [ax]
     refine tkA 14 (.slice (some ⟨g, 0, none⟩) n c) rfl ?_
     simp only [ax]
     refine tkA 15 (.int .i64 (a : Int)) rfl ?_
     simp only [ax]
     refine tkA 16 (.int .i64 (i : Int)) rfl ?_
     simp only [ax]
     refine tkA 17 (.int .i64 (p : Int)) rfl ?_
     simp only [ax]
     refine tkO 18 (.pointer (some ⟨g, p * 8, none⟩)) rfl ?_
     simp only [ax]
     refine wpAny_ready (rs := [13, 19]) (by kernel_rfl) (by simp) ?_
     refine AllReady.cons rfl (fun K hK => ?_) (AllReady.cons rfl (fun K hK => ?_) AllReady.nil)
     · skip
       refine wp_load_mid 159 (.tmp 28) rfl g (q * 8) rfl y _ HSW.out.2.1 hu rfl HIY.out (hK _ _ ?_)
       clear hK K
       simp only [ax]
       refine wpAny_ready (rs := [19]) (by kernel_rfl) (by simp) ?_
       refine AllReady.cons rfl (fun K hK => ?_) AllReady.nil
       refine wp_load_mid 159 (.tmp 34) rfl g (p * 8) rfl x _ HSW.out.1 hu rfl HIX.out (hK _ _ ?_)
       clear hK K
       simp only [ax]
       refine tkO 20 (.pointer (some ⟨g, p * 8, none⟩)) rfl ?_
       simp only [ax]
       refine wpAny_ready (rs := [21]) (by kernel_rfl) (by simp) ?_
       refine AllReady.cons rfl (fun K hK => ?_) AllReady.nil
       refine wp_store_mid 159 (.tmp 36) (.tmp 29) rfl g (p * 8) y.toArray rfl rfl (by rw [List.size_toArray, HLY.out]; exact HSW.out.2.2.1) HAY.out HOY.out (hK _ _ ?_)
       clear hK K
       simp only [ax]
       refine tkO 22 (.pointer (some ⟨g, q * 8, none⟩)) rfl ?_
       simp only [ax]
       refine wpAny_ready (rs := [23]) (by kernel_rfl) (by simp) ?_
       refine AllReady.cons rfl (fun K hK => ?_) AllReady.nil
       refine wp_store_mid 159 (.tmp 37) (.tmp 35) rfl g (q * 8) x.toArray rfl rfl (by rw [List.size_toArray, HLX.out]; exact HSW.out.2.2.2.1) HAX.out HOX.out (hK _ _ ?_)
       clear hK K
       simp only [ax]
       refine wpAny_done (by kernel_rfl) ?_ _
       exact ⟨rfl, rfl, rfl⟩
     · skip
       refine wp_load_mid 159 (.tmp 34) rfl g (p * 8) rfl x _ HSW.out.1 hu rfl HIX.out (hK _ _ ?_)
       clear hK K
       simp only [ax]
       refine wpAny_ready (rs := [13]) (by kernel_rfl) (by simp) ?_
       refine AllReady.cons rfl (fun K hK => ?_) AllReady.nil
       refine wp_load_mid 159 (.tmp 28) rfl g (q * 8) rfl y _ HSW.out.2.1 hu rfl HIY.out (hK _ _ ?_)
       clear hK K
       simp only [ax]
       refine tkO 20 (.pointer (some ⟨g, p * 8, none⟩)) rfl ?_
       simp only [ax]
       refine wpAny_ready (rs := [21]) (by kernel_rfl) (by simp) ?_
       refine AllReady.cons rfl (fun K hK => ?_) AllReady.nil
       refine wp_store_mid 159 (.tmp 36) (.tmp 29) rfl g (p * 8) y.toArray rfl rfl (by rw [List.size_toArray, HLY.out]; exact HSW.out.2.2.1) HAY.out HOY.out (hK _ _ ?_)
       clear hK K
       simp only [ax]
       refine tkO 22 (.pointer (some ⟨g, q * 8, none⟩)) rfl ?_
       simp only [ax]
       refine wpAny_ready (rs := [23]) (by kernel_rfl) (by simp) ?_
       refine AllReady.cons rfl (fun K hK => ?_) AllReady.nil
       refine wp_store_mid 159 (.tmp 37) (.tmp 35) rfl g (q * 8) x.toArray rfl rfl (by rw [List.size_toArray, HLX.out]; exact HSW.out.2.2.2.1) HAX.out HOX.out (hK _ _ ?_)
       clear hK K
       simp only [ax]
       refine wpAny_done (by kernel_rfl) ?_ _
       exact ⟨rfl, rfl, rfl⟩
    case hq =>
     have HBN := Lib.hid (HB.out.trans ((Below.refl B wr).drew.trans HSW.out.2.2.2.2.2))
     have HON := Lib.hid HSW.out.2.2.2.2.1
     go_wp2_with fail
     go_roundw
     case rel => exact ⟨i + 1, by omega, by go_num, HON, HBN⟩
     case measure => simp [intOf]; omega
  · obtain rfl : i = k := by omega
    have HON := HO.out
    rw [HEND.out] at HON
    have HOX := Lib.hid HON
    clear HON
    go_wp2_with fail
    go_end0
    exact ⟨rfl, HOX.out, HB.out⟩
end Go.Proofs.YtlkmccmbpnbgbaaGreat

namespace Go.Proofs.YtlkmccmbpnbgbaaGreat
set_option linter.unusedVariables false
open Go.RowKit

theorem rot_perm {P X Y S M P' L R S' : List (List Value)} {i j : Nat} (h : Pl.Rot P X Y S M i j P' L R S') : M.Perm (P ++ (X ++ (Y ++ S))) := by
 have h1 : M.Perm (P' ++ (R ++ (L ++ S'))) := by
  rw [h.lst, ← List.append_assoc L R S', ← List.append_assoc R L S']
  exact List.Perm.append_left _ (List.Perm.append_right _ List.perm_append_comm)
 rw [← h.goal] at h1
 refine h1.trans ?_
 rw [← List.append_assoc Y X S, ← List.append_assoc X Y S]
 exact List.Perm.append_left _ (List.Perm.append_right _ List.perm_append_comm)
set_option maxRecDepth 100000 in
set_option maxHeartbeats 1600000 in
theorem rotastand (B g n c K : Nat) (P X Y S : List (List Value)) (za zm zb : Int) (w : World) (hza : za = (P.length : Int)) (hzm : zm = ((P.length + X.length : Nat) : Int)) (hzb : zb = ((P.length + X.length + Y.length : Nat) : Int)) (hX : 1 ≤ X.length) (hY : 1 ≤ Y.length) (hn : n = (P ++ (X ++ (Y ++ S))).length) (hn6 : n ≤ 100000) (hM : Things kstand (P ++ (X ++ (Y ++ S)))) (ho : w.ownsRow B 159 8 (.slice (some ⟨g, 0, none⟩) n c) n (P ++ (X ++ (Y ++ S))).flatten) (hB : B ≤ w.heap.size) :
 Calls Tryz.prog 171 #[.slice (some ⟨g, 0, none⟩) n c, .int .i64 za, .int .i64 zm, .int .i64 zb, .func (.func K) #[] #[]] w fun e w' => e = .returned (.tuple #[]) ∧ w'.ownsRow B 159 8 (.slice (some ⟨g, 0, none⟩) n c) n (P ++ (Y ++ (X ++ S))).flatten ∧ Below B w w' := by
 have HST := Lib.hid (Pl.Rot.start P X Y S)
 have HLE : Hid (P.length + X.length + Y.length ≤ n) := Lib.hid (by rw [hn]; simp only [List.length_append]; omega)
 have HPM : Hid (∀ M i j P' L R S', Pl.Rot P X Y S M i j P' L R S' → n = M.length ∧ Things kstand M) := Lib.hid (fun M i j P' L R S' h => ⟨by rw [hn]; exact (rot_perm h).length_eq.symm, things_perm hM (rot_perm h)⟩)
 have HO0 := Lib.hid ho
 have HB0 := Lib.hid hB
 obtain ⟨i0, hi0⟩ : ∃ q, X.length = q := ⟨_, rfl⟩
 obtain ⟨j0, hj0⟩ : ∃ q, Y.length = q := ⟨_, rfl⟩
 obtain ⟨a, hpa⟩ : ∃ a, P.length = a := ⟨_, rfl⟩
 obtain ⟨m, hm⟩ : ∃ m, a + i0 = m := ⟨_, rfl⟩
 have HPX : Hid (P.length + X.length = m) := Lib.hid (by rw [hpa, hi0]; exact hm)
 rw [hi0, hj0] at HST
 rw [hi0, hj0, hpa, hm] at HLE
 rw [hi0] at hX hzm hzb
 rw [hj0] at hY hzb
 rw [hpa] at hza hzm hzb
 rw [hm] at hzm hzb
 obtain ⟨b, hb⟩ : ∃ b, m + j0 = b := ⟨_, rfl⟩
 rw [hb] at HLE hzb
 subst hza hzm hzb
 have hle := HLE.out
 have hma : a ≤ m := by omega
 have hmb : m ≤ b := by omega
 have hjb : m + j0 ≤ n := by omega
 have e1 : (m : Int) - (a : Int) = (i0 : Int) := by omega
 have e2 : (b : Int) - (m : Int) = (j0 : Int) := by omega
 clear hb hn hM ho hB hpa hi0 hj0 hm
 go_enter Tryz.func171, Tryz.ntmps171
 go_wp2_with fail
 go_loopw [10, 11] (fun iv jv wr => ∃ (i j : Nat) (M P' L R S' : List (List Value)), 1 ≤ i ∧ 1 ≤ j ∧ i ≤ m ∧ j ≤ n ∧ m + j ≤ n ∧ iv = .int .i64 (i : Int) ∧ jv = .int .i64 (j : Int) ∧ Hid (Pl.Rot P X Y S M i j P' L R S') ∧ Hid (wr.ownsRow B 159 8 (.slice (some ⟨g, 0, none⟩) n c) n (M).flatten) ∧ Hid (Below B w wr)) (fun iv jv _ => (intOf iv).toNat + (intOf jv).toNat)
 case atStart => exact ⟨i0, j0, _, _, _, _, _, hX, hY, by omega, by omega, by omega, by first | rfl | go_num, by first | rfl | go_num, HST, HO0, Lib.hid (Below.refl _ _)⟩
 case round =>
  obtain ⟨i, j, M, P', L, R, S', hi1, hj1, him, hjn, hmj, rfl, rfl, HR, HO, HB⟩ := hrel
  clear hX hY e1 e2
  have hpm : P'.length + i = m := by have := HR.out.mid; rw [HPX.out] at this; exact this
  have HPM' := Lib.hid hpm
  clear hpm
  by_cases heq : i = j
  · skip
    subst heq
    obtain ⟨l1, l2⟩ := HR.out.last
    have HX := Lib.hid HR.out.li
    have HY := Lib.hid HR.out.rj
    have HG := Lib.hid l2
    have hm' := HPM.out _ _ _ _ _ _ _ HR.out
    have hom := HO.out
    rw [l1] at hm' hom
    have HM := Lib.hid hm'
    have HOM := Lib.hid hom
    clear l1 l2 hm' hom
    go_wp2_with fail
    refine (swaprstand B g n c K i P' L [] R S' _ _ _ _ HX.out HY.out (by have := HPM'.out; omega) (by have := HPM'.out; (try simp only [List.length_nil, Nat.add_zero]); first | omega | (have := HQ.out; omega)) (by omega) (HM.out.1) hn6 HM.out.2 HOM.out (Nat.le_trans HB0.out HB.out.size)).mono ?_
    rintro e w1 ⟨rfl, ho1, hb1⟩
    have HO1 := Lib.hid ho1
    have HB1 := Lib.hid (HB.out.trans hb1)
    clear ho1 hb1
    go_wp2_with fail
    go_end0
    exact ⟨rfl, by rw [HG.out]; exact HO1.out, HB1.out⟩
  · skip
    by_cases hlt : j < i
    · skip
      obtain ⟨L1, L2, hL, hL1, hM', hr⟩ := HR.out.left hlt
      have HX := Lib.hid hL1
      have HY := Lib.hid HR.out.rj
      have HQ : Hid (L2.length = i - j) := Lib.hid (by have := HR.out.li; rw [hL, List.length_append] at this; omega)
      have HN := Lib.hid hr
      have hm' := HPM.out _ _ _ _ _ _ _ HR.out
      have hom := HO.out
      rw [hM'] at hm' hom
      have HM := Lib.hid hm'
      have HOM := Lib.hid hom
      clear hL hL1 hM' hr hm' hom
      go_wp2_with fail
      refine (swaprstand B g n c K j P' L1 L2 R S' _ _ _ _ HX.out HY.out (by have := HPM'.out; omega) (by have := HPM'.out; (try simp only [List.length_nil, Nat.add_zero]); first | omega | (have := HQ.out; omega)) (by omega) (HM.out.1) hn6 HM.out.2 HOM.out (Nat.le_trans HB0.out HB.out.size)).mono ?_
      rintro e w1 ⟨rfl, ho1, hb1⟩
      have HO1 := Lib.hid ho1
      have HB1 := Lib.hid (HB.out.trans hb1)
      clear ho1 hb1
      go_wp2_with fail
      go_roundw
      case rel => exact ⟨i - j, j, _, _, _, _, _, by omega, hj1, by omega, hjn, hmj, by go_num, rfl, HN, HO1, HB1⟩
      case measure => simp [intOf]; omega
    · skip
      obtain ⟨R1, R2, hR, hR1, hR2, hM', hr⟩ := HR.out.right (by omega)
      have HX := Lib.hid HR.out.li
      have HY := Lib.hid hR2
      have HQ := Lib.hid hR1
      have HN := Lib.hid hr
      have hm' := HPM.out _ _ _ _ _ _ _ HR.out
      have hom := HO.out
      rw [hM'] at hm' hom
      have HM := Lib.hid hm'
      have HOM := Lib.hid hom
      clear hR hR1 hR2 hM' hr hm' hom
      go_wp2_with fail
      refine (swaprstand B g n c K i P' L R1 R2 S' _ _ _ _ HX.out HY.out (by have := HPM'.out; omega) (by have := HPM'.out; (try simp only [List.length_nil, Nat.add_zero]); first | omega | (have := HQ.out; omega)) (by omega) (HM.out.1) hn6 HM.out.2 HOM.out (Nat.le_trans HB0.out HB.out.size)).mono ?_
      rintro e w1 ⟨rfl, ho1, hb1⟩
      have HO1 := Lib.hid ho1
      have HB1 := Lib.hid (HB.out.trans hb1)
      clear ho1 hb1
      go_wp2_with fail
      go_roundw
      case rel => exact ⟨i, j - i, _, _, _, _, _, hi1, by omega, him, by omega, by omega, rfl, by go_num, HN, HO1, HB1⟩
      case measure => simp [intOf]; omega
end Go.Proofs.YtlkmccmbpnbgbaaGreat

namespace Go.Proofs.YtlkmccmbpnbgbaaGreat
set_option linter.unusedVariables false
open Go.RowKit

theorem sink_stb {lt : List Value → List Value → Bool} (W : Pl.Weak lt) {P S M A C A' B' R' : List (List Value)} {v : List Value} (h : Pl.Sink lt P (R' ++ S) M v A' B') (h1 : Pl.Stb lt (A' ++ B') C) (h2 : Pl.Stb lt (C ++ v :: R') A) : M.Perm (P ++ (A ++ S)) ∧ Pl.Stb lt ((A' ++ v :: B') ++ R') A := by
 have e0 : Pl.Stb lt (A' ++ v :: B') ((A' ++ B') ++ [v]) := by
  have := (Pl.Stb.swap W (R := [v]) (L := B') (fun y hy b hb => by rw [List.mem_singleton] at hy; subst hy; exact h.big b hb)).append_left A'
  rw [← List.append_assoc A' B'] at this
  exact this
 have e1 : Pl.Stb lt ((A' ++ v :: B') ++ R') A := by
  refine Pl.Stb.trans ?_ h2
  have e2 := (e0.trans (h1.append_right [v])).append_right R'
  rw [List.append_assoc C] at e2
  exact e2
 refine ⟨?_, e1⟩
 have e2 : M = P ++ (((A' ++ v :: B') ++ R') ++ S) := by rw [h.lst]; simp
 rw [e2]
 exact List.Perm.append_left _ (List.Perm.append_right _ e1.perm)
set_option maxRecDepth 100000 in
set_option maxHeartbeats 3200000 in
theorem inserstand (B g n c K : Nat) (ord : List Value → List Value → Int) (P A S : List (List Value)) (za zb : Int) (w : World) (hza : za = (P.length : Int)) (hzb : zb = ((P.length + A.length : Nat) : Int)) (hn : n = (P ++ (A ++ S)).length) (hn6 : n ≤ 100000) (hM : Things kstand (P ++ (A ++ S))) (hT : TellsC kstand K ord) (hW : Pl.Weak (lessO ord)) (ho : w.ownsRow B 159 8 (.slice (some ⟨g, 0, none⟩) n c) n (P ++ (A ++ S)).flatten) (hB : B ≤ w.heap.size) :
 Calls Tryz.prog 154 #[.slice (some ⟨g, 0, none⟩) n c, .int .i64 za, .int .i64 zb, .func (.func K) #[] #[]] w fun e w' => e = .returned (.tuple #[]) ∧ ∃ C, Pl.Stb (lessO ord) C A ∧ Pl.Srt (lessO ord) C ∧ w'.ownsRow B 159 8 (.slice (some ⟨g, 0, none⟩) n c) n (P ++ (C ++ S)).flatten ∧ Below B w w' := by
 have hu := Tryz.underlying159
 have hent := hT.1
 rcases Nat.eq_zero_or_pos A.length with h0 | h0
 · skip
   have hA : A = [] := List.length_eq_zero_iff.1 h0
   have HEND : Hid (∃ C, Pl.Stb (lessO ord) C A ∧ Pl.Srt (lessO ord) C ∧ w.ownsRow B 159 8 (.slice (some ⟨g, 0, none⟩) n c) n (P ++ (C ++ S)).flatten ∧ Below B w w) := Lib.hid ⟨A, Pl.Stb.refl _ _, by rw [hA]; exact Pl.Srt.nil, ho, Below.refl _ _⟩
   have hln : P.length ≤ n := by rw [hn, List.length_append]; omega
   rw [h0] at hzb
   obtain ⟨a, hpa⟩ : ∃ a, P.length = a := ⟨_, rfl⟩
   rw [hpa] at hza hzb hln
   subst hza hzb
   clear hn hM ho hB hpa h0 hA
   go_enter Tryz.func154, Tryz.ntmps154
   go_wp2_with fail
   go_loopw [8] (fun iv wr => iv = .int .i64 ((a : Int) + 1) ∧ Hid (wr = w)) (fun _ _ => 0)
   case atStart => exact ⟨by first | rfl | go_num, Lib.hid rfl⟩
   case round =>
    obtain ⟨rfl, hwr⟩ := hrel
    go_wp2_with fail
    go_end0
    rw [hwr.out]
    exact ⟨rfl, HEND.out⟩
 · skip
   have HTC := Lib.hid hT.2
   have HW := Lib.hid hW
   have HN := Lib.hid hn
   have HM := Lib.hid hM
   have HBW := Lib.hid hB
   have hln : P.length + A.length ≤ n := by rw [hn, List.length_append, List.length_append]; omega
   obtain ⟨v0, A1, hA⟩ : ∃ v A1, A = v :: A1 := by
    cases A with
    | nil => simp at h0
    | cons v A1 => exact ⟨v, A1, rfl⟩
   have HS0 : Hid (Pl.Srt (lessO ord) [v0]) := Lib.hid (Pl.Srt.one v0)
   have HP0 : Hid (Pl.Stb (lessO ord) ([v0] ++ A1) A) := Lib.hid (by rw [hA]; exact Pl.Stb.refl _ _)
   have HO0 : Hid (w.ownsRow B 159 8 (.slice (some ⟨g, 0, none⟩) n c) n (P ++ ([v0] ++ (A1 ++ S))).flatten) := Lib.hid (by rw [hA] at ho; exact ho)
   have HLA : Hid (∀ C R : List (List Value), Pl.Stb (lessO ord) (C ++ R) A → C.length + R.length = A.length) := Lib.hid (fun C R h => by have := h.length_eq; rwa [List.length_append] at this)
   obtain ⟨m, hm⟩ : ∃ m, A.length = m := ⟨_, rfl⟩
   obtain ⟨a, hpa⟩ : ∃ a, P.length = a := ⟨_, rfl⟩
   obtain ⟨b, hb⟩ : ∃ b, a + m = b := ⟨_, rfl⟩
   have HPA := Lib.hid hpa
   rw [hm] at hln hzb HLA h0
   rw [hpa] at hza hzb hln
   rw [hb] at hzb hln
   subst hza hzb
   have hab : a + 1 ≤ b := by omega
   have HAB := Lib.hid hb
   clear hn hM ho hB hpa hm hA hT hW hb h0
   go_enter Tryz.func154, Tryz.ntmps154
   go_wp2_with fail
   go_loopw [8] (fun iv wr => ∃ (i : Nat) (C R : List (List Value)), a + 1 ≤ i ∧ i ≤ b ∧ iv = .int .i64 (i : Int) ∧ Hid (a + C.length = i) ∧ Hid (Pl.Stb (lessO ord) (C ++ R) A) ∧ Hid (Pl.Srt (lessO ord) C) ∧ Hid (wr.ownsRow B 159 8 (.slice (some ⟨g, 0, none⟩) n c) n (P ++ (C ++ (R ++ S))).flatten) ∧ Hid (Below B w wr)) (fun iv _ => b - (intOf iv).toNat)
   case atStart => exact ⟨a + 1, [v0], A1, by omega, hab, by first | rfl | go_num, Lib.hid rfl, HP0, HS0, HO0, Lib.hid (Below.refl _ _)⟩
   case round =>
    obtain ⟨i, C, R, hi1, hi, rfl, HCL, HPE, HSC, HOM, HBM⟩ := hrel
    by_cases hlt : i < b
    · skip
      obtain ⟨v, R', hR⟩ : ∃ v R', R = v :: R' := by
       cases R with
       | nil =>
        have h1 := HLA.out _ _ HPE.out
        have h2 := HCL.out
        have h3 := HAB.out
        simp only [List.length_nil] at h1
        omega
       | cons v R' => exact ⟨v, R', rfl⟩
      subst hR
      have HS0' : Hid (Pl.Sink (lessO ord) P (R' ++ S) (P ++ (C ++ (v :: R' ++ S))) v C []) := Lib.hid ⟨by simp, by rw [List.append_nil]; exact HSC.out, fun b hb => by cases hb⟩
      have HPR : Hid (∀ M A' B', Pl.Sink (lessO ord) P (R' ++ S) M v A' B' → Pl.Stb (lessO ord) (A' ++ B') C → M.Perm (P ++ (A ++ S)) ∧ Pl.Stb (lessO ord) ((A' ++ v :: B') ++ R') A) := Lib.hid (fun M A' B' h1 h2 => sink_stb HW.out h1 h2 HPE.out)
      have HPC : Hid (Pl.Stb (lessO ord) (C ++ []) C) := Lib.hid (by rw [List.append_nil]; exact Pl.Stb.refl _ _)
      have hci := HCL.out
      clear HS0 HP0 HO0
      go_wp2_with fail
      go_loopw [9] (fun jv wr => ∃ (j : Nat) (A' B' M : List (List Value)), a ≤ j ∧ j ≤ i ∧ jv = .int .i64 (j : Int) ∧ Hid (a + A'.length = j) ∧ Hid (Pl.Stb (lessO ord) (A' ++ B') C) ∧ Hid (Pl.Sink (lessO ord) P (R' ++ S) M v A' B') ∧ Hid (wr.ownsRow B 159 8 (.slice (some ⟨g, 0, none⟩) n c) n (M).flatten) ∧ Hid (Below B w wr)) (fun jv _ => (intOf jv).toNat)
      case atStart => exact ⟨i, C, [], _, by omega, by omega, rfl, HCL, HPC, HS0', HOM, HBM⟩
      case round =>
       obtain ⟨j, A', B', M, haj, hji, rfl, HJL, HPI, HS, HO, HB⟩ := hrel
       clear hci
       by_cases hja : j = a
       · skip
         have hA0 : A' = [] := List.length_eq_zero_iff.1 (by have := HJL.out; omega)
         have HQS := Lib.hid (HS.out.done HW.out (.inl hA0))
         have HQP := Lib.hid (HPR.out _ _ _ HS.out HPI.out).2
         have HQL : Hid (a + (A' ++ v :: B').length = i + 1) := Lib.hid (by have h1 := HPI.out.length_eq; have h2 := HCL.out; have h3 := HJL.out; simp only [List.length_append, List.length_cons] at h1 h3 ⊢; omega)
         have hM' : M = P ++ ((A' ++ v :: B') ++ (R' ++ S)) := by rw [HS.out.lst, List.append_assoc]
         rw [hM'] at HO
         clear hA0 hM'
         subst hja
         go_wp2_with fail
         go_quiet (fail)
         go_wp2_with fail
         go_roundw
         case rel => exact ⟨i + 1, _, _, by omega, by omega, by go_num, HQL, HQP, HQS, Lib.hid (own_below HO.out (below_drewN (Below.refl _ _) _)), Lib.hid (below_drewN HB.out _)⟩
         case measure => simp [intOf]; omega
       · skip
         obtain ⟨A0, y, hA'⟩ : ∃ A0 y, A' = A0 ++ [y] := by
          have hne : A' ≠ [] := by intro h; have := HJL.out; rw [h] at this; simp at this; omega
          exact ⟨A'.dropLast, A'.getLast hne, (List.dropLast_concat_getLast hne).symm⟩
         subst hA'
         obtain ⟨q, hq⟩ : ∃ q, j = q + 1 := ⟨j - 1, by omega⟩
         subst hq
         have hql : P.length + A0.length = q := by have h1 := HJL.out; rw [List.length_append, List.length_singleton] at h1; have h2 := HPA.out; omega
         have HV1 : Hid (M[q + 1]? = some v) := Lib.hid (by
          have e := some_at HS.out.here
          rw [show P.length + (A0 ++ [y]).length = q + 1 from by rw [List.length_append, List.length_singleton]; omega] at e
          exact e)
         have HY1 : Hid (M[q]? = some y) := Lib.hid (by
          have e := some_at HS.out.below
          rw [hql] at e
          exact e)
         have hpm := HPR.out _ _ _ HS.out HPI.out
         have HTM : Hid (Things kstand M) := Lib.hid (things_perm HM.out hpm.1)
         have HMN : Hid (n = M.length) := Lib.hid (HN.out.trans hpm.1.length_eq.symm)
         have FX : Hid (Fits kstand v) := Lib.hid (at_fits HTM.out HV1.out)
         have FY : Hid (Fits kstand y) := Lib.hid (at_fits HTM.out HY1.out)
         have HLX : Hid (v.length = 8) := Lib.hid (FX.out.length)
         have HIX : Hid ((Tryz.prog.info? 159).map (·.size) = some v.length) := Lib.hid (by rw [HLX.out]; kernel_rfl)
         have HAX : Hid ((Tryz.prog.info? 159).map (·.size) = some v.toArray.size) := Lib.hid (by rw [List.size_toArray, HLX.out]; kernel_rfl)
         have HOX : Hid (v.toArray.all (·.oneCell') = true) := Lib.hid (all_oneCell_toArray (fits_one FX.out))
         have HLY : Hid (y.length = 8) := Lib.hid (FY.out.length)
         have HIY : Hid ((Tryz.prog.info? 159).map (·.size) = some y.length) := Lib.hid (by rw [HLY.out]; kernel_rfl)
         have HAY : Hid ((Tryz.prog.info? 159).map (·.size) = some y.toArray.size) := Lib.hid (by rw [List.size_toArray, HLY.out]; kernel_rfl)
         have HOY : Hid (y.toArray.all (·.oneCell') = true) := Lib.hid (all_oneCell_toArray (fits_one FY.out))
         have HRV : Hid (∀ W, Below wr.heap.size wr W → W.rangeAt g ((q + 1) * 8) v) := Lib.hid (fun W hW => row_at (own_below HO.out hW) HTM.out (by decide) HMN.out HV1.out)
         have HRY : Hid (∀ W, Below wr.heap.size wr W → W.rangeAt g (q * 8) y) := Lib.hid (fun W hW => row_at (own_below HO.out hW) HTM.out (by decide) HMN.out HY1.out)
         have hqn : q + 1 < n := by rw [HMN.out]; exact at_lt HV1.out
         have HQL0 := Lib.hid hql
         obtain ⟨r, hr⟩ : ∃ r, ord v y = r := ⟨_, rfl⟩
         have HCV : Hid (∀ W, Calls Tryz.prog K #[.agg v.toArray, .agg y.toArray] W fun e w' => e = .returned (.int .i64 r) ∧ Below W.heap.size W w') := Lib.hid (fun W => by rw [← hr]; exact HTC.out W v y FX.out FY.out)
         have hcl := lessO_int ord v y hr
         have hg1 : decide ((a : Int) < (q : Int) + 1) = true := by simp; omega
         have hg2 : decide (a < q + 1) = true := by simp; omega
         have hg3 : decide (a ≤ q) = true := by simp; omega
         clear hql hr hpm
         go_wp2_with fail
         refine wp_grow wr (by kernel_rfl) (by kernel_rfl) (Below.refl _ _) ?_
         simp only []
         iterate 8 go_big_quiet_step (fail)
         refine BigFrame.wpQuiet_want (by kernel_rfl) (fun K hK => quiet_load_mid 159 (.tmp 25) rfl g ((q + 1) * 8) rfl v _ (fun W ⟨X, hX⟩ => by rw [hX]; exact HRV.out _ X.h) hu rfl HIX.out (hK _ ?_))
         simp only [ax]
         iterate 4 go_big_quiet_step (fail)
         refine BigFrame.wpQuiet_want (by kernel_rfl) (fun K hK => quiet_load_mid 159 (.tmp 30) rfl g (q * 8) rfl y _ (fun W ⟨X, hX⟩ => by rw [hX]; exact HRY.out _ X.h) hu rfl HIY.out (hK _ ?_))
         simp only [ax]
         go_big_quiet_step (exact grow_call _ (HCV.out _))
         iterate 2 go_big_quiet_step (fail)
         refine wpQuiet_nil ?_
         intro X
         have hb4 := X.h
         obtain ⟨W4, hW4⟩ : ∃ W, X.W = W := ⟨_, rfl⟩
         rw [hW4] at hb4 ⊢
         clear hW4 X
         have HB4 := Lib.hid hb4
         have HO4 := Lib.hid (own_below HO.out hb4)
         clear hb4
         cases hyv : lessO ord v y with
         | true =>
          have HNX := HS.out.next hyv
          rw [HQL0.out] at HNX
          have HNX' := Lib.hid HNX
          have HPN : Hid (Pl.Stb (lessO ord) (A0 ++ (y :: B')) C) := Lib.hid (by have := HPI.out; rwa [List.append_assoc] at this)
          rw [hyv] at hcl
          clear HNX hyv
          have HSW := Lib.hid (row_swap (own_below HO4.out (Below.refl _ _).drew) (own_ge HO4.out) HTM.out (by decide) HMN.out HV1.out HY1.out)
          go_wp2_with fail
          have hwq : IntKind.i64.wrap (q : Int) = (q : Int) := IntWalk.i64_in _ (by omega)
          apply region_to
          case h =>
           refine wp_region_any (by kernel_rfl) ?_
           refine tkA 0 (.slice (some ⟨g, 0, none⟩) n c) rfl ?_
           simp only [ax]
           refine tkA 1 (.int .i64 ((q + 1 : Nat) : Int)) rfl ?_
           simp only [ax]
           refine tkA 2 (.slice (some ⟨g, 0, none⟩) n c) rfl ?_
           simp only [ax]
           refine tkA 3 (.int .i64 ((q + 1 : Nat) : Int)) rfl ?_
           simp only [ax]
           refine tkA 4 (.int .i64 (q : Int)) rfl ?_
           simp only [ax]
           refine tkA 5 (.slice (some ⟨g, 0, none⟩) n c) rfl ?_
           simp only [ax]
           refine tkA 6 (.int .i64 ((q + 1 : Nat) : Int)) rfl ?_
           simp only [ax]
           refine tkA 7 (.int .i64 (q : Int)) rfl ?_
           simp only [ax]
           refine tkO 8 (.pointer (some ⟨g, q * 8, none⟩)) rfl ?_
           simp only [ax]
           refine tkA 10 (.slice (some ⟨g, 0, none⟩) n c) rfl ?_
           simp only [ax]
           refine tkA 11 (.int .i64 ((q + 1 : Nat) : Int)) rfl ?_
           simp only [ax]
           refine tkO 12 (.pointer (some ⟨g, (q + 1) * 8, none⟩)) rfl ?_
           simp only [ax]
           refine wpAny_ready (rs := [9, 13]) (by kernel_rfl) (by simp) ?_
           refine AllReady.cons rfl (fun K hK => ?_) (AllReady.cons rfl (fun K hK => ?_) AllReady.nil)
           · skip
             refine wp_load_mid 159 (.tmp 45) rfl g (q * 8) rfl y _ HSW.out.2.1 hu rfl HIY.out (hK _ _ ?_)
             clear hK K
             simp only [ax]
             refine wpAny_ready (rs := [13]) (by kernel_rfl) (by simp) ?_
             refine AllReady.cons rfl (fun K hK => ?_) AllReady.nil
             refine wp_load_mid 159 (.tmp 49) rfl g ((q + 1) * 8) rfl v _ HSW.out.1 hu rfl HIX.out (hK _ _ ?_)
             clear hK K
             simp only [ax]
             refine tkO 14 (.pointer (some ⟨g, (q + 1) * 8, none⟩)) rfl ?_
             simp only [ax]
             refine wpAny_ready (rs := [15]) (by kernel_rfl) (by simp) ?_
             refine AllReady.cons rfl (fun K hK => ?_) AllReady.nil
             refine wp_store_mid 159 (.tmp 51) (.tmp 46) rfl g ((q + 1) * 8) y.toArray rfl rfl (by rw [List.size_toArray, HLY.out]; exact HSW.out.2.2.1) HAY.out HOY.out (hK _ _ ?_)
             clear hK K
             simp only [ax]
             refine tkO 16 (.pointer (some ⟨g, q * 8, none⟩)) rfl ?_
             simp only [ax]
             refine wpAny_ready (rs := [17]) (by kernel_rfl) (by simp) ?_
             refine AllReady.cons rfl (fun K hK => ?_) AllReady.nil
             refine wp_store_mid 159 (.tmp 52) (.tmp 50) rfl g (q * 8) v.toArray rfl rfl (by rw [List.size_toArray, HLX.out]; exact HSW.out.2.2.2.1) HAX.out HOX.out (hK _ _ ?_)
             clear hK K
             simp only [ax]
             refine wpAny_done (by kernel_rfl) ?_ _
             exact ⟨rfl, rfl, rfl⟩
           · skip
             refine wp_load_mid 159 (.tmp 49) rfl g ((q + 1) * 8) rfl v _ HSW.out.1 hu rfl HIX.out (hK _ _ ?_)
             clear hK K
             simp only [ax]
             refine wpAny_ready (rs := [9]) (by kernel_rfl) (by simp) ?_
             refine AllReady.cons rfl (fun K hK => ?_) AllReady.nil
             refine wp_load_mid 159 (.tmp 45) rfl g (q * 8) rfl y _ HSW.out.2.1 hu rfl HIY.out (hK _ _ ?_)
             clear hK K
             simp only [ax]
             refine tkO 14 (.pointer (some ⟨g, (q + 1) * 8, none⟩)) rfl ?_
             simp only [ax]
             refine wpAny_ready (rs := [15]) (by kernel_rfl) (by simp) ?_
             refine AllReady.cons rfl (fun K hK => ?_) AllReady.nil
             refine wp_store_mid 159 (.tmp 51) (.tmp 46) rfl g ((q + 1) * 8) y.toArray rfl rfl (by rw [List.size_toArray, HLY.out]; exact HSW.out.2.2.1) HAY.out HOY.out (hK _ _ ?_)
             clear hK K
             simp only [ax]
             refine tkO 16 (.pointer (some ⟨g, q * 8, none⟩)) rfl ?_
             simp only [ax]
             refine wpAny_ready (rs := [17]) (by kernel_rfl) (by simp) ?_
             refine AllReady.cons rfl (fun K hK => ?_) AllReady.nil
             refine wp_store_mid 159 (.tmp 52) (.tmp 50) rfl g (q * 8) v.toArray rfl rfl (by rw [List.size_toArray, HLX.out]; exact HSW.out.2.2.2.1) HAX.out HOX.out (hK _ _ ?_)
             clear hK K
             simp only [ax]
             refine wpAny_done (by kernel_rfl) ?_ _
             exact ⟨rfl, rfl, rfl⟩
          case hq =>
           have HBN := Lib.hid ((HB.out.trans (HB4.out.mono (Nat.le_trans HBW.out HB.out.size))).trans ((Below.refl B W4).drew.trans HSW.out.2.2.2.2.2))
           have HON := Lib.hid HSW.out.2.2.2.2.1
           have HJN : Hid (a + A0.length = q) := Lib.hid (by have h1 := HQL0.out; have h2 := HPA.out; omega)
           go_wp2_with fail
           go_roundw
           case rel => exact ⟨q, A0, y :: B', _, by omega, by omega, by go_num, HJN, HPN, HNX', HON, HBN⟩
           case measure => simp [intOf]
         | false =>
          have HQS := Lib.hid (HS.out.done HW.out (.inr ⟨A0, y, rfl, hyv⟩))
          have HQP := Lib.hid (HPR.out _ _ _ HS.out HPI.out).2
          have HQL : Hid (a + ((A0 ++ [y]) ++ v :: B').length = i + 1) := Lib.hid (by have h1 := HPI.out.length_eq; have h2 := HCL.out; have h3 := HJL.out; simp only [List.length_append, List.length_cons, List.length_nil] at h1 h3 ⊢; omega)
          have hM' : M = P ++ (((A0 ++ [y]) ++ v :: B') ++ (R' ++ S)) := by rw [HS.out.lst, List.append_assoc]
          rw [hM'] at HO4
          rw [hyv] at hcl
          clear hM' hyv
          go_wp2_with fail
          go_roundw
          case rel => exact ⟨i + 1, _, _, by omega, by omega, by go_num, HQL, HQP, HQS, HO4, Lib.hid (HB.out.trans (HB4.out.mono (Nat.le_trans HBW.out HB.out.size)))⟩
          case measure => simp [intOf]; omega
    · have hib : i = b := by omega
      have hR : R = [] := List.length_eq_zero_iff.1 (by have h1 := HLA.out _ _ HPE.out; have h2 := HCL.out; have h3 := HAB.out; omega)
      rw [hR] at HOM HPE
      simp only [List.append_nil, List.nil_append] at HOM HPE
      clear hR hib
      go_wp2_with fail
      go_end0
      exact ⟨rfl, C, HPE.out, HSC.out, HOM.out, HBM.out⟩
end Go.Proofs.YtlkmccmbpnbgbaaGreat

namespace Go.Proofs.YtlkmccmbpnbgbaaGreat
set_option linter.unusedVariables false
open Go.RowKit

theorem ins_opt (P X S : List (List Value)) (x : List Value) (k : Nat) (hk : k < X.length) : ∃ y, (P ++ (Pl.ins X x k ++ S))[P.length + k]? = some x ∧ (P ++ (Pl.ins X x k ++ S))[P.length + k + 1]? = some y ∧
 ((P ++ (Pl.ins X x k ++ S)).set (P.length + k) y).set (P.length + k + 1) x = P ++ (Pl.ins X x (k + 1) ++ S) ∧
 (P ++ (Pl.ins X x (k + 1) ++ S))[P.length + k]? = some y ∧ (P ++ (Pl.ins X x (k + 1) ++ S))[P.length + k + 1]? = some x ∧
 ((P ++ (Pl.ins X x (k + 1) ++ S)).set (P.length + k + 1) y).set (P.length + k) x = P ++ (Pl.ins X x k ++ S) := by
 obtain ⟨y, h1, h2, hx, hy, a, b, c, d⟩ := Pl.ins_at P X S x k hk
 exact ⟨y, some_at ⟨h1, hx⟩, some_at ⟨h2, hy⟩, a, b, c, d⟩
theorem ins_things {ks : List CK} {P D S M : List (List Value)} {x : List Value} {n : Nat} (t : Nat) (hn : n = (P ++ M).length) (hM : Things ks (P ++ M)) (hp : M.Perm (x :: (D ++ S))) : n = (P ++ (Pl.ins D x t ++ S)).length ∧ Things ks (P ++ (Pl.ins D x t ++ S)) := by
 have e : (P ++ (Pl.ins D x t ++ S)).Perm (P ++ M) := by
  refine List.Perm.append_left _ ?_
  refine ((Pl.ins_perm D x t).append_right S).trans ?_
  exact hp.symm
 exact ⟨hn.trans e.length_eq.symm, things_perm hM e⟩
set_option maxRecDepth 100000 in
set_option maxHeartbeats 3200000 in
theorem symm1stand (B g n c K : Nat) (ord : List Value → List Value → Int) (P D S : List (List Value)) (x : List Value) (za zm zb : Int) (w : World) (hza : za = (P.length : Int)) (hzm : zm = ((P.length + 1 : Nat) : Int)) (hzb : zb = ((P.length + 1 + D.length : Nat) : Int)) (hD : 1 ≤ D.length) (hn : n = (P ++ ([x] ++ (D ++ S))).length) (hn6 : n ≤ 100000) (hM : Things kstand (P ++ ([x] ++ (D ++ S)))) (hT : TellsC kstand K ord) (hW : Pl.Weak (lessO ord)) (hs : Pl.Srt (lessO ord) D) (ho : w.ownsRow B 159 8 (.slice (some ⟨g, 0, none⟩) n c) n (P ++ ([x] ++ (D ++ S))).flatten) (hB : B ≤ w.heap.size) :
 Calls Tryz.prog 155 #[.slice (some ⟨g, 0, none⟩) n c, .int .i64 za, .int .i64 zm, .int .i64 zb, .func (.func K) #[] #[]] w fun e w' => e = .returned (.tuple #[]) ∧ ∃ C, Pl.Stb (lessO ord) C (x :: D) ∧ Pl.Srt (lessO ord) C ∧ w'.ownsRow B 159 8 (.slice (some ⟨g, 0, none⟩) n c) n (P ++ (C ++ S)).flatten ∧ Below B w w' := by
 have hu := Tryz.underlying159
 have hent := hT.1
 have HTC := Lib.hid hT.2
 have HN := Lib.hid hn
 have HM := Lib.hid hM
 have HBW := Lib.hid hB
 have HO0 := Lib.hid ho
 have HW := Lib.hid hW
 have HS0 := Lib.hid hs
 have HMO : Hid (Pl.Mono (fun k => lessO ord (D.getD k []) x) 0 D.length) := Lib.hid (Pl.mono_less hW hs [] x)
 have HSR : Hid (∀ i, Pl.Bis (fun k => lessO ord (D.getD k []) x) 0 D.length i i → Pl.Srt (lessO ord) (Pl.ins D x i) ∧ Pl.Stb (lessO ord) (Pl.ins D x i) (x :: D)) := Lib.hid (fun i h => ⟨Pl.srt_ins1 hW hs [] x h, Pl.stb_ins1 hW [] x h⟩)
 have HB0 : Hid (Pl.Bis (fun k => lessO ord (D.getD k []) x) 0 D.length 0 D.length) := Lib.hid (Pl.Bis.start _ (Nat.zero_le _))
 have hln : P.length + D.length + 1 ≤ n := by rw [hn]; simp only [List.length_append, List.length_singleton]; omega
 have HX0 : Hid ((P ++ ([x] ++ (D ++ S)))[P.length]? = some x) := Lib.hid (some_at (by simp))
 have HY0 : Hid (∀ k, k < D.length → (P ++ ([x] ++ (D ++ S)))[P.length + 1 + k]? = some (D.getD k [])) := Lib.hid (fun k hk => some_at (Pl.at_B P [x] D S [] hk))
 have HPR : Hid (∀ t, n = (P ++ (Pl.ins D x t ++ S)).length ∧ Things kstand (P ++ (Pl.ins D x t ++ S))) := Lib.hid (fun t => ins_things t hn hM (by simp))
 have HIA : Hid (∀ k, k < D.length → _) := Lib.hid (fun k hk => ins_opt P D S x k hk)
 have HE0 : Hid (P ++ ([x] ++ (D ++ S)) = P ++ (Pl.ins D x 0 ++ S)) := Lib.hid (by rfl)
 obtain ⟨d, hd⟩ : ∃ d, D.length = d := ⟨_, rfl⟩
 obtain ⟨a, hpa⟩ : ∃ a, P.length = a := ⟨_, rfl⟩
 simp only [hd] at hD HMO HB0 hln HX0 HY0 HSR HIA hzm hzb HE0
 simp only [hpa] at hza hzm hzb hln HX0 HY0 HIA
 obtain ⟨m, hm⟩ : ∃ m, a + 1 = m := ⟨_, rfl⟩
 obtain ⟨b, hb⟩ : ∃ b, m + d = b := ⟨_, rfl⟩
 rw [hm] at hzm hzb HY0
 rw [hb] at hzb
 have e1 : (m : Int) - (a : Int) = 1 := by omega
 have hmb : m + d = b := hb
 have HAB : Hid (m = a + 1 ∧ b = m + d) := Lib.hid (by constructor <;> omega)
 have hbn : b ≤ n := by omega
 have ham : a + 1 ≤ m := by omega
 have hm1b : m + 1 ≤ b := by omega
 subst hza hzm hzb
 clear hn hM hT hW ho hB hs hd hpa hm hb hD hln hmb
 go_enter Tryz.func155, Tryz.ntmps155
 go_wp2_with fail
 go_loopw [10, 11] (fun iv jv wr => ∃ i j : Nat, m ≤ i ∧ i ≤ j ∧ j ≤ b ∧ iv = .int .i64 (i : Int) ∧ jv = .int .i64 (j : Int) ∧ Hid (Pl.Bis (fun k => lessO ord (D.getD k []) x) 0 d (i - m) (j - m)) ∧ Hid (wr.ownsRow B 159 8 (.slice (some ⟨g, 0, none⟩) n c) n (P ++ ([x] ++ (D ++ S))).flatten) ∧ Hid (Below B w wr)) (fun iv jv _ => (intOf jv).toNat - (intOf iv).toNat)
 case atStart => exact ⟨m, b, by omega, by omega, by omega, rfl, rfl, Lib.hid (by rw [Nat.sub_self, show b - m = d from by have := HAB.out; omega]; exact HB0.out), HO0, Lib.hid (Below.refl _ _)⟩
 case round =>
  obtain ⟨i, j, hil, hij, hjh, rfl, rfl, HBI, HO, HB⟩ := hrel
  by_cases hlt : i < j
  · skip
    obtain ⟨h, hh1, hh2⟩ : ∃ q : Nat, 2 * q ≤ i + j ∧ i + j < 2 * q + 2 := ⟨(i + j) / 2, by omega, by omega⟩
    have hhv : ((i : Int) + (j : Int)) / 2 = (h : Int) := by omega
    have hih : i ≤ h := by omega
    have hhj : h < j := by omega
    have HYK : Hid (h - m < d) := Lib.hid (by have := HAB.out; omega)
    obtain ⟨y, hy⟩ : ∃ y, D.getD (h - m) [] = y := ⟨_, rfl⟩
    have HYY := HY0.out _ HYK.out
    rw [hy, show m + (h - m) = h from by omega] at HYY
    have HYP : Hid ((P ++ ([x] ++ (D ++ S)))[h]? = some y) := Lib.hid HYY
    have HMT := HM.out
    have FX : Hid (Fits kstand x) := Lib.hid (at_fits HM.out HX0.out)
    have FY : Hid (Fits kstand y) := Lib.hid (at_fits HM.out HYP.out)
    have HLX : Hid (x.length = 8) := Lib.hid (FX.out.length)
    have HIX : Hid ((Tryz.prog.info? 159).map (·.size) = some x.length) := Lib.hid (by rw [HLX.out]; kernel_rfl)
    have HAX : Hid ((Tryz.prog.info? 159).map (·.size) = some x.toArray.size) := Lib.hid (by rw [List.size_toArray, HLX.out]; kernel_rfl)
    have HOX : Hid (x.toArray.all (·.oneCell') = true) := Lib.hid (all_oneCell_toArray (fits_one FX.out))
    have HLY : Hid (y.length = 8) := Lib.hid (FY.out.length)
    have HIY : Hid ((Tryz.prog.info? 159).map (·.size) = some y.length) := Lib.hid (by rw [HLY.out]; kernel_rfl)
    have HAY : Hid ((Tryz.prog.info? 159).map (·.size) = some y.toArray.size) := Lib.hid (by rw [List.size_toArray, HLY.out]; kernel_rfl)
    have HOY : Hid (y.toArray.all (·.oneCell') = true) := Lib.hid (all_oneCell_toArray (fits_one FY.out))
    have HRX : Hid (∀ W, Below wr.heap.size wr W → W.rangeAt g (a * 8) x) := Lib.hid (fun W hW => row_at (own_below HO.out hW) HM.out (by decide) HN.out HX0.out)
    have HRY : Hid (∀ W, Below wr.heap.size wr W → W.rangeAt g (h * 8) y) := Lib.hid (fun W hW => row_at (own_below HO.out hW) HM.out (by decide) HN.out HYP.out)
    obtain ⟨r, hr⟩ : ∃ r, ord y x = r := ⟨_, rfl⟩
    have HCV : Hid (∀ W, Calls Tryz.prog K #[.agg y.toArray, .agg x.toArray] W fun e w' => e = .returned (.int .i64 r) ∧ Below W.heap.size W w') := Lib.hid (fun W => by rw [← hr]; exact HTC.out W y x FY.out FX.out)
    have hcl := lessO_int ord y x hr
    have hhn : h < n := by omega
    have HYD := Lib.hid hy
    clear hr HMT HYY hy
    have hbnd : i + j ≤ 200000 := by omega
    go_wp2_with fail
    refine wp_grow wr (by kernel_rfl) (by kernel_rfl) (Below.refl _ _) ?_
    simp only []
    iterate 4 go_big_quiet_step (fail)
    refine BigFrame.wpQuiet_want (by kernel_rfl) (fun K hK => quiet_load_mid 159 (.tmp 43) rfl g (h * 8) rfl y _ (fun W ⟨X, hX⟩ => by rw [hX]; exact HRY.out _ X.h) hu rfl HIY.out (hK _ ?_))
    simp only [ax]
    iterate 3 go_big_quiet_step (fail)
    refine BigFrame.wpQuiet_want (by kernel_rfl) (fun K hK => quiet_load_mid 159 (.tmp 47) rfl g (a * 8) rfl x _ (fun W ⟨X, hX⟩ => by rw [hX]; exact HRX.out _ X.h) hu rfl HIX.out (hK _ ?_))
    simp only [ax]
    go_big_quiet_step (exact grow_call _ (HCV.out _))
    go_big_quiet_step (fail)
    refine wpQuiet_nil ?_
    intro X
    have hb4 := X.h
    obtain ⟨W4, hW4⟩ : ∃ W, X.W = W := ⟨_, rfl⟩
    rw [hW4] at hb4 ⊢
    clear hW4 X
    have HB4 := Lib.hid hb4
    have HO4 := Lib.hid (own_below HO.out hb4)
    clear hb4
    cases hyv : lessO ord y x with
    | true =>
     have HBN : Hid (Pl.Bis (fun k => lessO ord (D.getD k []) x) 0 d (h + 1 - m) (j - m)) := Lib.hid (by rw [show h + 1 - m = h - m + 1 from by omega]; exact HBI.out.up HMO.out (by omega) (by omega) (by simp only [HYD.out, hyv]))
     rw [hyv] at hcl
     clear hyv
     go_wp2_with fail
     go_roundw
     case rel => exact ⟨h + 1, j, by omega, by omega, hjh, by go_num, rfl, HBN, HO4, Lib.hid (HB.out.trans (HB4.out.mono (Nat.le_trans HBW.out HB.out.size)))⟩
     case measure => simp [intOf]; omega
    | false =>
     have HBN : Hid (Pl.Bis (fun k => lessO ord (D.getD k []) x) 0 d (i - m) (h - m)) := Lib.hid (HBI.out.down HMO.out (by omega) (by omega) (by simp only [HYD.out, hyv]))
     rw [hyv] at hcl
     clear hyv
     go_wp2_with fail
     go_roundw
     case rel => exact ⟨i, h, hil, by omega, by omega, rfl, rfl, HBN, HO4, Lib.hid (HB.out.trans (HB4.out.mono (Nat.le_trans HBW.out HB.out.size)))⟩
     case measure => simp [intOf]; omega
  · obtain rfl : i = j := by omega
    have HSC := Lib.hid (HSR.out _ HBI.out)
    rw [HE0.out] at HO
    have HBZ := Lib.hid HB
    clear hlt
    obtain ⟨s, hs⟩ : ∃ s, i - m = s := ⟨_, rfl⟩
    rw [hs] at HSC
    have HSI := Lib.hid hs
    clear hs
    go_wp2_with fail
    go_loopw [13] (fun kv wr => ∃ t : Nat, t ≤ s ∧ kv = .int .i64 ((a + t : Nat) : Int) ∧ Hid (wr.ownsRow B 159 8 (.slice (some ⟨g, 0, none⟩) n c) n (P ++ (Pl.ins D x t ++ S)).flatten) ∧ Hid (Below B w wr)) (fun kv _ => a + s - (intOf kv).toNat)
    case atStart => exact ⟨0, by omega, rfl, HO, HB⟩
    case round =>
     obtain ⟨t, hts, rfl, HO2, HB2⟩ := hrel
     obtain ⟨k, hk⟩ : ∃ k, a + t = k := ⟨_, rfl⟩
     have HK := Lib.hid hk
     have hki : k + 1 ≤ i := by have := HSI.out; omega
     have hka : a ≤ k := by omega
     rw [hk]
     by_cases hlt : t < s
     · skip
       have hki2 : k + 1 < i := by have := HSI.out; omega
       obtain ⟨y, hpx, hqy, hset, _⟩ := HIA.out t (by have := HSI.out; have := HAB.out; omega)
       simp only [hk] at hpx hqy hset
       obtain ⟨hnt, hmt⟩ := HPR.out t
       have HMT := Lib.hid hmt
       have HNT := Lib.hid hnt
       have FX : Hid (Fits kstand x) := Lib.hid (at_fits HMT.out hpx)
       have FY : Hid (Fits kstand y) := Lib.hid (at_fits HMT.out hqy)
       have HLX : Hid (x.length = 8) := Lib.hid (FX.out.length)
       have HIX : Hid ((Tryz.prog.info? 159).map (·.size) = some x.length) := Lib.hid (by rw [HLX.out]; kernel_rfl)
       have HAX : Hid ((Tryz.prog.info? 159).map (·.size) = some x.toArray.size) := Lib.hid (by rw [List.size_toArray, HLX.out]; kernel_rfl)
       have HOX : Hid (x.toArray.all (·.oneCell') = true) := Lib.hid (all_oneCell_toArray (fits_one FX.out))
       have HLY : Hid (y.length = 8) := Lib.hid (FY.out.length)
       have HIY : Hid ((Tryz.prog.info? 159).map (·.size) = some y.length) := Lib.hid (by rw [HLY.out]; kernel_rfl)
       have HAY : Hid ((Tryz.prog.info? 159).map (·.size) = some y.toArray.size) := Lib.hid (by rw [List.size_toArray, HLY.out]; kernel_rfl)
       have HOY : Hid (y.toArray.all (·.oneCell') = true) := Lib.hid (all_oneCell_toArray (fits_one FY.out))
       have HSW := Lib.hid (row_swap (own_below HO2.out (Below.refl _ _).drew) (own_ge HO2.out) HMT.out (by decide) HNT.out hpx hqy)
       rw [hset] at HSW
       have hkn : k + 1 < n := by rw [hnt]; exact at_lt hqy
       clear hset hpx hqy hnt hmt
       go_wp2_with fail
       have hwk : IntKind.i64.wrap (k : Int) = (k : Int) := IntWalk.i64_in _ (by omega)
       have hwk1 : IntKind.i64.wrap ((k : Int) + 1) = (k : Int) + 1 := IntWalk.i64_in _ (by omega)
       apply region_to
       case h =>
        refine wp_region_any (by kernel_rfl) ?_
        refine tkA 0 (.slice (some ⟨g, 0, none⟩) n c) rfl ?_
        simp only [ax]
        refine tkA 1 (.int .i64 (k : Int)) rfl ?_
        simp only [ax]
        refine tkA 2 (.slice (some ⟨g, 0, none⟩) n c) rfl ?_
        simp only [ax]
        refine tkA 3 (.int .i64 (k : Int)) rfl ?_
        simp only [ax]
        refine tkA 4 (.int .i64 ((k : Int) + 1)) rfl ?_
        simp only [ax]
        refine tkA 5 (.slice (some ⟨g, 0, none⟩) n c) rfl ?_
        simp only [ax]
        refine tkA 6 (.int .i64 (k : Int)) rfl ?_
        simp only [ax]
        refine tkA 7 (.int .i64 ((k : Int) + 1)) rfl ?_
        simp only [ax]
        refine tkO 8 (.pointer (some ⟨g, (k + 1) * 8, none⟩)) rfl ?_
        simp only [ax]
        refine tkA 10 (.slice (some ⟨g, 0, none⟩) n c) rfl ?_
        simp only [ax]
        refine tkA 11 (.int .i64 (k : Int)) rfl ?_
        simp only [ax]
        refine tkO 12 (.pointer (some ⟨g, k * 8, none⟩)) rfl ?_
        simp only [ax]
        refine wpAny_ready (rs := [9, 13]) (by kernel_rfl) (by simp) ?_
        refine AllReady.cons rfl (fun K hK => ?_) (AllReady.cons rfl (fun K hK => ?_) AllReady.nil)
        · skip
          refine wp_load_mid 159 (.tmp 69) rfl g ((k + 1) * 8) rfl y _ HSW.out.2.1 hu rfl HIY.out (hK _ _ ?_)
          clear hK K
          simp only [ax]
          refine wpAny_ready (rs := [13]) (by kernel_rfl) (by simp) ?_
          refine AllReady.cons rfl (fun K hK => ?_) AllReady.nil
          refine wp_load_mid 159 (.tmp 73) rfl g (k * 8) rfl x _ HSW.out.1 hu rfl HIX.out (hK _ _ ?_)
          clear hK K
          simp only [ax]
          refine tkO 14 (.pointer (some ⟨g, k * 8, none⟩)) rfl ?_
          simp only [ax]
          refine wpAny_ready (rs := [15]) (by kernel_rfl) (by simp) ?_
          refine AllReady.cons rfl (fun K hK => ?_) AllReady.nil
          refine wp_store_mid 159 (.tmp 75) (.tmp 70) rfl g (k * 8) y.toArray rfl rfl (by rw [List.size_toArray, HLY.out]; exact HSW.out.2.2.1) HAY.out HOY.out (hK _ _ ?_)
          clear hK K
          simp only [ax]
          refine tkO 16 (.pointer (some ⟨g, (k + 1) * 8, none⟩)) rfl ?_
          simp only [ax]
          refine wpAny_ready (rs := [17]) (by kernel_rfl) (by simp) ?_
          refine AllReady.cons rfl (fun K hK => ?_) AllReady.nil
          refine wp_store_mid 159 (.tmp 76) (.tmp 74) rfl g ((k + 1) * 8) x.toArray rfl rfl (by rw [List.size_toArray, HLX.out]; exact HSW.out.2.2.2.1) HAX.out HOX.out (hK _ _ ?_)
          clear hK K
          simp only [ax]
          refine wpAny_done (by kernel_rfl) ?_ _
          exact ⟨rfl, rfl, rfl⟩
        · skip
          refine wp_load_mid 159 (.tmp 73) rfl g (k * 8) rfl x _ HSW.out.1 hu rfl HIX.out (hK _ _ ?_)
          clear hK K
          simp only [ax]
          refine wpAny_ready (rs := [9]) (by kernel_rfl) (by simp) ?_
          refine AllReady.cons rfl (fun K hK => ?_) AllReady.nil
          refine wp_load_mid 159 (.tmp 69) rfl g ((k + 1) * 8) rfl y _ HSW.out.2.1 hu rfl HIY.out (hK _ _ ?_)
          clear hK K
          simp only [ax]
          refine tkO 14 (.pointer (some ⟨g, k * 8, none⟩)) rfl ?_
          simp only [ax]
          refine wpAny_ready (rs := [15]) (by kernel_rfl) (by simp) ?_
          refine AllReady.cons rfl (fun K hK => ?_) AllReady.nil
          refine wp_store_mid 159 (.tmp 75) (.tmp 70) rfl g (k * 8) y.toArray rfl rfl (by rw [List.size_toArray, HLY.out]; exact HSW.out.2.2.1) HAY.out HOY.out (hK _ _ ?_)
          clear hK K
          simp only [ax]
          refine tkO 16 (.pointer (some ⟨g, (k + 1) * 8, none⟩)) rfl ?_
          simp only [ax]
          refine wpAny_ready (rs := [17]) (by kernel_rfl) (by simp) ?_
          refine AllReady.cons rfl (fun K hK => ?_) AllReady.nil
          refine wp_store_mid 159 (.tmp 76) (.tmp 74) rfl g ((k + 1) * 8) x.toArray rfl rfl (by rw [List.size_toArray, HLX.out]; exact HSW.out.2.2.2.1) HAX.out HOX.out (hK _ _ ?_)
          clear hK K
          simp only [ax]
          refine wpAny_done (by kernel_rfl) ?_ _
          exact ⟨rfl, rfl, rfl⟩
       case hq =>
        have HBN := Lib.hid (HB2.out.trans ((Below.refl B wr).drew.trans HSW.out.2.2.2.2.2))
        have HON := Lib.hid HSW.out.2.2.2.2.1
        go_wp2_with fail
        go_roundw
        case rel => exact ⟨t + 1, by omega, by rw [show a + (t + 1) = k + 1 from by have := HK.out; omega]; go_num, HON, HBN⟩
        case measure => simp [intOf]; have := HK.out; omega
     · obtain rfl : t = s := by omega
       have hki3 : ¬ (k + 1 < i) := by have := HSI.out; have := HAB.out; omega
       clear hk
       go_wp2_with fail
       (try simp only [Exit.inBlock, Exit.then])
       refine bodyPost_ret (results_none rfl _ _ _) rfl ?_
       exact ⟨rfl, _, HSC.out.2, HSC.out.1, HO2.out, HB2.out⟩
set_option maxRecDepth 100000 in
set_option maxHeartbeats 3200000 in
theorem symm2stand (B g n c K : Nat) (ord : List Value → List Value → Int) (P D S : List (List Value)) (x : List Value) (za zm zb : Int) (w : World) (hza : za = (P.length : Int)) (hzm : zm = ((P.length + D.length : Nat) : Int)) (hzb : zb = ((P.length + D.length + 1 : Nat) : Int)) (hD : 2 ≤ D.length) (hn : n = (P ++ (D ++ ([x] ++ S))).length) (hn6 : n ≤ 100000) (hM : Things kstand (P ++ (D ++ ([x] ++ S)))) (hT : TellsC kstand K ord) (hW : Pl.Weak (lessO ord)) (hs : Pl.Srt (lessO ord) D) (ho : w.ownsRow B 159 8 (.slice (some ⟨g, 0, none⟩) n c) n (P ++ (D ++ ([x] ++ S))).flatten) (hB : B ≤ w.heap.size) :
 Calls Tryz.prog 155 #[.slice (some ⟨g, 0, none⟩) n c, .int .i64 za, .int .i64 zm, .int .i64 zb, .func (.func K) #[] #[]] w fun e w' => e = .returned (.tuple #[]) ∧ ∃ C, Pl.Stb (lessO ord) C (D ++ [x]) ∧ Pl.Srt (lessO ord) C ∧ w'.ownsRow B 159 8 (.slice (some ⟨g, 0, none⟩) n c) n (P ++ (C ++ S)).flatten ∧ Below B w w' := by
 have hu := Tryz.underlying159
 have hent := hT.1
 have HTC := Lib.hid hT.2
 have HN := Lib.hid hn
 have HM := Lib.hid hM
 have HBW := Lib.hid hB
 have HO0 := Lib.hid ho
 have HW := Lib.hid hW
 have HS0 := Lib.hid hs
 have HMO : Hid (Pl.Mono (fun k => !lessO ord x (D.getD k [])) 0 D.length) := Lib.hid (Pl.mono_geq hW hs [] x)
 have HSR : Hid (∀ i, Pl.Bis (fun k => !lessO ord x (D.getD k [])) 0 D.length i i → Pl.Srt (lessO ord) (Pl.ins D x i) ∧ Pl.Stb (lessO ord) (Pl.ins D x i) (D ++ [x])) := Lib.hid (fun i h => ⟨Pl.srt_ins2 hW hs [] x h, Pl.stb_ins2 hW [] x h⟩)
 have HB0 : Hid (Pl.Bis (fun k => !lessO ord x (D.getD k [])) 0 D.length 0 D.length) := Lib.hid (Pl.Bis.start _ (Nat.zero_le _))
 have hln : P.length + D.length + 1 ≤ n := by rw [hn]; simp only [List.length_append, List.length_singleton]; omega
 have HX0 : Hid ((P ++ (D ++ ([x] ++ S)))[P.length + D.length]? = some x) := Lib.hid (some_at (by simp))
 have HY0 : Hid (∀ k, k < D.length → (P ++ (D ++ ([x] ++ S)))[P.length + k]? = some (D.getD k [])) := Lib.hid (fun k hk => some_at (Pl.at_A P D ([x] ++ S) [] hk))
 have HPR : Hid (∀ t, n = (P ++ (Pl.ins D x t ++ S)).length ∧ Things kstand (P ++ (Pl.ins D x t ++ S))) := Lib.hid (fun t => ins_things t hn hM (List.perm_middle))
 have HIA : Hid (∀ k, k < D.length → _) := Lib.hid (fun k hk => ins_opt P D S x k hk)
 have HE0 : Hid (P ++ (D ++ ([x] ++ S)) = P ++ (Pl.ins D x D.length ++ S)) := Lib.hid (by rw [Pl.ins_all]; simp)
 obtain ⟨d, hd⟩ : ∃ d, D.length = d := ⟨_, rfl⟩
 obtain ⟨a, hpa⟩ : ∃ a, P.length = a := ⟨_, rfl⟩
 simp only [hd] at hD HMO HB0 hln HX0 HY0 HSR HIA hzm hzb HE0
 simp only [hpa] at hza hzm hzb hln HX0 HY0 HIA
 obtain ⟨m, hm⟩ : ∃ m, a + d = m := ⟨_, rfl⟩
 obtain ⟨b, hb⟩ : ∃ b, m + 1 = b := ⟨_, rfl⟩
 rw [hm] at hzm hzb HX0
 rw [hb] at hzb
 have e1 : ((m : Int) - (a : Int) == 1) = false := by simp; omega
 have e2 : (b : Int) - (m : Int) = 1 := by omega
 have e3 : ¬ ((m : Int) - (a : Int) = 1) := by omega
 have HAB : Hid (m = a + d ∧ b = m + 1) := Lib.hid (by constructor <;> omega)
 have hbn : b ≤ n := by omega
 have ham : a + 1 ≤ m := by omega
 have hm1b : m + 1 ≤ b := by omega
 subst hza hzm hzb
 clear hn hM hT hW ho hB hs hd hpa hm hb hD hln
 go_enter Tryz.func155, Tryz.ntmps155
 go_wp2_with fail
 go_loopw [14, 15] (fun iv jv wr => ∃ i j : Nat, a ≤ i ∧ i ≤ j ∧ j ≤ m ∧ iv = .int .i64 (i : Int) ∧ jv = .int .i64 (j : Int) ∧ Hid (Pl.Bis (fun k => !lessO ord x (D.getD k [])) 0 d (i - a) (j - a)) ∧ Hid (wr.ownsRow B 159 8 (.slice (some ⟨g, 0, none⟩) n c) n (P ++ (D ++ ([x] ++ S))).flatten) ∧ Hid (Below B w wr)) (fun iv jv _ => (intOf jv).toNat - (intOf iv).toNat)
 case atStart => exact ⟨a, m, by omega, by omega, by omega, rfl, rfl, Lib.hid (by rw [Nat.sub_self, show m - a = d from by have := HAB.out; omega]; exact HB0.out), HO0, Lib.hid (Below.refl _ _)⟩
 case round =>
  obtain ⟨i, j, hil, hij, hjh, rfl, rfl, HBI, HO, HB⟩ := hrel
  by_cases hlt : i < j
  · skip
    obtain ⟨h, hh1, hh2⟩ : ∃ q : Nat, 2 * q ≤ i + j ∧ i + j < 2 * q + 2 := ⟨(i + j) / 2, by omega, by omega⟩
    have hhv : ((i : Int) + (j : Int)) / 2 = (h : Int) := by omega
    have hih : i ≤ h := by omega
    have hhj : h < j := by omega
    have HYK : Hid (h - a < d) := Lib.hid (by have := HAB.out; omega)
    obtain ⟨y, hy⟩ : ∃ y, D.getD (h - a) [] = y := ⟨_, rfl⟩
    have HYY := HY0.out _ HYK.out
    rw [hy, show a + (h - a) = h from by omega] at HYY
    have HYP : Hid ((P ++ (D ++ ([x] ++ S)))[h]? = some y) := Lib.hid HYY
    have HMT := HM.out
    have FX : Hid (Fits kstand x) := Lib.hid (at_fits HM.out HX0.out)
    have FY : Hid (Fits kstand y) := Lib.hid (at_fits HM.out HYP.out)
    have HLX : Hid (x.length = 8) := Lib.hid (FX.out.length)
    have HIX : Hid ((Tryz.prog.info? 159).map (·.size) = some x.length) := Lib.hid (by rw [HLX.out]; kernel_rfl)
    have HAX : Hid ((Tryz.prog.info? 159).map (·.size) = some x.toArray.size) := Lib.hid (by rw [List.size_toArray, HLX.out]; kernel_rfl)
    have HOX : Hid (x.toArray.all (·.oneCell') = true) := Lib.hid (all_oneCell_toArray (fits_one FX.out))
    have HLY : Hid (y.length = 8) := Lib.hid (FY.out.length)
    have HIY : Hid ((Tryz.prog.info? 159).map (·.size) = some y.length) := Lib.hid (by rw [HLY.out]; kernel_rfl)
    have HAY : Hid ((Tryz.prog.info? 159).map (·.size) = some y.toArray.size) := Lib.hid (by rw [List.size_toArray, HLY.out]; kernel_rfl)
    have HOY : Hid (y.toArray.all (·.oneCell') = true) := Lib.hid (all_oneCell_toArray (fits_one FY.out))
    have HRX : Hid (∀ W, Below wr.heap.size wr W → W.rangeAt g (m * 8) x) := Lib.hid (fun W hW => row_at (own_below HO.out hW) HM.out (by decide) HN.out HX0.out)
    have HRY : Hid (∀ W, Below wr.heap.size wr W → W.rangeAt g (h * 8) y) := Lib.hid (fun W hW => row_at (own_below HO.out hW) HM.out (by decide) HN.out HYP.out)
    obtain ⟨r, hr⟩ : ∃ r, ord x y = r := ⟨_, rfl⟩
    have HCV : Hid (∀ W, Calls Tryz.prog K #[.agg x.toArray, .agg y.toArray] W fun e w' => e = .returned (.int .i64 r) ∧ Below W.heap.size W w') := Lib.hid (fun W => by rw [← hr]; exact HTC.out W x y FX.out FY.out)
    have hcl := lessO_int ord x y hr
    have hhn : h < n := by omega
    have HYD := Lib.hid hy
    clear hr HMT HYY hy
    have hbnd : i + j ≤ 200000 := by omega
    go_wp2_with fail
    refine wp_grow wr (by kernel_rfl) (by kernel_rfl) (Below.refl _ _) ?_
    simp only []
    iterate 4 go_big_quiet_step (fail)
    refine BigFrame.wpQuiet_want (by kernel_rfl) (fun K hK => quiet_load_mid 159 (.tmp 95) rfl g (m * 8) rfl x _ (fun W ⟨X, hX⟩ => by rw [hX]; exact HRX.out _ X.h) hu rfl HIX.out (hK _ ?_))
    simp only [ax]
    iterate 3 go_big_quiet_step (fail)
    refine BigFrame.wpQuiet_want (by kernel_rfl) (fun K hK => quiet_load_mid 159 (.tmp 99) rfl g (h * 8) rfl y _ (fun W ⟨X, hX⟩ => by rw [hX]; exact HRY.out _ X.h) hu rfl HIY.out (hK _ ?_))
    simp only [ax]
    go_big_quiet_step (exact grow_call _ (HCV.out _))
    iterate 2 go_big_quiet_step (fail)
    refine wpQuiet_nil ?_
    intro X
    have hb4 := X.h
    obtain ⟨W4, hW4⟩ : ∃ W, X.W = W := ⟨_, rfl⟩
    rw [hW4] at hb4 ⊢
    clear hW4 X
    have HB4 := Lib.hid hb4
    have HO4 := Lib.hid (own_below HO.out hb4)
    clear hb4
    cases hyv : lessO ord x y with
    | false =>
     have HBN : Hid (Pl.Bis (fun k => !lessO ord x (D.getD k [])) 0 d (h + 1 - a) (j - a)) := Lib.hid (by rw [show h + 1 - a = h - a + 1 from by omega]; exact HBI.out.up HMO.out (by omega) (by omega) (by simp only [HYD.out, hyv, Bool.not_false]))
     rw [hyv] at hcl
     clear hyv
     go_wp2_with fail
     go_roundw
     case rel => exact ⟨h + 1, j, by omega, by omega, hjh, by go_num, rfl, HBN, HO4, Lib.hid (HB.out.trans (HB4.out.mono (Nat.le_trans HBW.out HB.out.size)))⟩
     case measure => simp [intOf]; omega
    | true =>
     have HBN : Hid (Pl.Bis (fun k => !lessO ord x (D.getD k [])) 0 d (i - a) (h - a)) := Lib.hid (HBI.out.down HMO.out (by omega) (by omega) (by simp only [HYD.out, hyv, Bool.not_true]))
     rw [hyv] at hcl
     clear hyv
     go_wp2_with fail
     go_roundw
     case rel => exact ⟨i, h, hil, by omega, by omega, rfl, rfl, HBN, HO4, Lib.hid (HB.out.trans (HB4.out.mono (Nat.le_trans HBW.out HB.out.size)))⟩
     case measure => simp [intOf]; omega
  · obtain rfl : i = j := by omega
    have HSC := Lib.hid (HSR.out _ HBI.out)
    rw [HE0.out] at HO
    have HBZ := Lib.hid HB
    clear hlt
    obtain ⟨s, hs⟩ : ∃ s, i - a = s := ⟨_, rfl⟩
    rw [hs] at HSC
    have HSI := Lib.hid hs
    clear hs
    go_wp2_with fail
    go_loopw [17] (fun kv wr => ∃ t : Nat, s ≤ t ∧ t ≤ d ∧ kv = .int .i64 ((a + t : Nat) : Int) ∧ Hid (wr.ownsRow B 159 8 (.slice (some ⟨g, 0, none⟩) n c) n (P ++ (Pl.ins D x t ++ S)).flatten) ∧ Hid (Below B w wr)) (fun kv _ => (intOf kv).toNat)
    case atStart => exact ⟨d, by have := HSI.out; have := HAB.out; omega, by omega, by first | rfl | rw [← HAB.out.1], HO, HB⟩
    case round =>
     obtain ⟨t, hst, htd, rfl, HO2, HB2⟩ := hrel
     by_cases hlt : s < t
     · skip
       obtain ⟨t', rfl⟩ : ∃ t', t = t' + 1 := ⟨t - 1, by omega⟩
       obtain ⟨k, hk⟩ : ∃ k, a + t' = k := ⟨_, rfl⟩
       have HK := Lib.hid hk
       have hki2 : i < k + 1 := by have := HSI.out; omega
       have hka : a ≤ k := by omega
       rw [show a + (t' + 1) = k + 1 from by omega]
       obtain ⟨y, _, _, _, hqy, hpx, hset⟩ := HIA.out t' (by omega)
       simp only [hk] at hqy hpx hset
       obtain ⟨hnt, hmt⟩ := HPR.out (t' + 1)
       have HMT := Lib.hid hmt
       have HNT := Lib.hid hnt
       have FX : Hid (Fits kstand x) := Lib.hid (at_fits HMT.out hpx)
       have FY : Hid (Fits kstand y) := Lib.hid (at_fits HMT.out hqy)
       have HLX : Hid (x.length = 8) := Lib.hid (FX.out.length)
       have HIX : Hid ((Tryz.prog.info? 159).map (·.size) = some x.length) := Lib.hid (by rw [HLX.out]; kernel_rfl)
       have HAX : Hid ((Tryz.prog.info? 159).map (·.size) = some x.toArray.size) := Lib.hid (by rw [List.size_toArray, HLX.out]; kernel_rfl)
       have HOX : Hid (x.toArray.all (·.oneCell') = true) := Lib.hid (all_oneCell_toArray (fits_one FX.out))
       have HLY : Hid (y.length = 8) := Lib.hid (FY.out.length)
       have HIY : Hid ((Tryz.prog.info? 159).map (·.size) = some y.length) := Lib.hid (by rw [HLY.out]; kernel_rfl)
       have HAY : Hid ((Tryz.prog.info? 159).map (·.size) = some y.toArray.size) := Lib.hid (by rw [List.size_toArray, HLY.out]; kernel_rfl)
       have HOY : Hid (y.toArray.all (·.oneCell') = true) := Lib.hid (all_oneCell_toArray (fits_one FY.out))
       have HSW := Lib.hid (row_swap (own_below HO2.out (Below.refl _ _).drew) (own_ge HO2.out) HMT.out (by decide) HNT.out hpx hqy)
       rw [hset] at HSW
       have hkn : k + 1 < n := by rw [hnt]; exact at_lt hpx
       clear hset hpx hqy hnt hmt
       go_wp2_with fail
       have hwk : IntKind.i64.wrap (k : Int) = (k : Int) := IntWalk.i64_in _ (by omega)
       have hwk1 : IntKind.i64.wrap ((k : Int) + 1) = (k : Int) + 1 := IntWalk.i64_in _ (by omega)
       apply region_to
       case h =>
        refine wp_region_any (by kernel_rfl) ?_
        refine tkA 0 (.slice (some ⟨g, 0, none⟩) n c) rfl ?_
        simp only [ax]
        refine tkA 1 (.int .i64 ((k + 1 : Nat) : Int)) rfl ?_
        simp only [ax]
        refine tkA 2 (.slice (some ⟨g, 0, none⟩) n c) rfl ?_
        simp only [ax]
        refine tkA 3 (.int .i64 ((k + 1 : Nat) : Int)) rfl ?_
        simp only [ax]
        refine tkA 4 (.int .i64 (k : Int)) rfl ?_
        simp only [ax]
        refine tkA 5 (.slice (some ⟨g, 0, none⟩) n c) rfl ?_
        simp only [ax]
        refine tkA 6 (.int .i64 ((k + 1 : Nat) : Int)) rfl ?_
        simp only [ax]
        refine tkA 7 (.int .i64 (k : Int)) rfl ?_
        simp only [ax]
        refine tkO 8 (.pointer (some ⟨g, k * 8, none⟩)) rfl ?_
        simp only [ax]
        refine tkA 10 (.slice (some ⟨g, 0, none⟩) n c) rfl ?_
        simp only [ax]
        refine tkA 11 (.int .i64 ((k + 1 : Nat) : Int)) rfl ?_
        simp only [ax]
        refine tkO 12 (.pointer (some ⟨g, (k + 1) * 8, none⟩)) rfl ?_
        simp only [ax]
        refine wpAny_ready (rs := [9, 13]) (by kernel_rfl) (by simp) ?_
        refine AllReady.cons rfl (fun K hK => ?_) (AllReady.cons rfl (fun K hK => ?_) AllReady.nil)
        · skip
          refine wp_load_mid 159 (.tmp 121) rfl g (k * 8) rfl y _ HSW.out.2.1 hu rfl HIY.out (hK _ _ ?_)
          clear hK K
          simp only [ax]
          refine wpAny_ready (rs := [13]) (by kernel_rfl) (by simp) ?_
          refine AllReady.cons rfl (fun K hK => ?_) AllReady.nil
          refine wp_load_mid 159 (.tmp 125) rfl g ((k + 1) * 8) rfl x _ HSW.out.1 hu rfl HIX.out (hK _ _ ?_)
          clear hK K
          simp only [ax]
          refine tkO 14 (.pointer (some ⟨g, (k + 1) * 8, none⟩)) rfl ?_
          simp only [ax]
          refine wpAny_ready (rs := [15]) (by kernel_rfl) (by simp) ?_
          refine AllReady.cons rfl (fun K hK => ?_) AllReady.nil
          refine wp_store_mid 159 (.tmp 127) (.tmp 122) rfl g ((k + 1) * 8) y.toArray rfl rfl (by rw [List.size_toArray, HLY.out]; exact HSW.out.2.2.1) HAY.out HOY.out (hK _ _ ?_)
          clear hK K
          simp only [ax]
          refine tkO 16 (.pointer (some ⟨g, k * 8, none⟩)) rfl ?_
          simp only [ax]
          refine wpAny_ready (rs := [17]) (by kernel_rfl) (by simp) ?_
          refine AllReady.cons rfl (fun K hK => ?_) AllReady.nil
          refine wp_store_mid 159 (.tmp 128) (.tmp 126) rfl g (k * 8) x.toArray rfl rfl (by rw [List.size_toArray, HLX.out]; exact HSW.out.2.2.2.1) HAX.out HOX.out (hK _ _ ?_)
          clear hK K
          simp only [ax]
          refine wpAny_done (by kernel_rfl) ?_ _
          exact ⟨rfl, rfl, rfl⟩
        · skip
          refine wp_load_mid 159 (.tmp 125) rfl g ((k + 1) * 8) rfl x _ HSW.out.1 hu rfl HIX.out (hK _ _ ?_)
          clear hK K
          simp only [ax]
          refine wpAny_ready (rs := [9]) (by kernel_rfl) (by simp) ?_
          refine AllReady.cons rfl (fun K hK => ?_) AllReady.nil
          refine wp_load_mid 159 (.tmp 121) rfl g (k * 8) rfl y _ HSW.out.2.1 hu rfl HIY.out (hK _ _ ?_)
          clear hK K
          simp only [ax]
          refine tkO 14 (.pointer (some ⟨g, (k + 1) * 8, none⟩)) rfl ?_
          simp only [ax]
          refine wpAny_ready (rs := [15]) (by kernel_rfl) (by simp) ?_
          refine AllReady.cons rfl (fun K hK => ?_) AllReady.nil
          refine wp_store_mid 159 (.tmp 127) (.tmp 122) rfl g ((k + 1) * 8) y.toArray rfl rfl (by rw [List.size_toArray, HLY.out]; exact HSW.out.2.2.1) HAY.out HOY.out (hK _ _ ?_)
          clear hK K
          simp only [ax]
          refine tkO 16 (.pointer (some ⟨g, k * 8, none⟩)) rfl ?_
          simp only [ax]
          refine wpAny_ready (rs := [17]) (by kernel_rfl) (by simp) ?_
          refine AllReady.cons rfl (fun K hK => ?_) AllReady.nil
          refine wp_store_mid 159 (.tmp 128) (.tmp 126) rfl g (k * 8) x.toArray rfl rfl (by rw [List.size_toArray, HLX.out]; exact HSW.out.2.2.2.1) HAX.out HOX.out (hK _ _ ?_)
          clear hK K
          simp only [ax]
          refine wpAny_done (by kernel_rfl) ?_ _
          exact ⟨rfl, rfl, rfl⟩
       case hq =>
        have HBN := Lib.hid (HB2.out.trans ((Below.refl B wr).drew.trans HSW.out.2.2.2.2.2))
        have HON := Lib.hid HSW.out.2.2.2.2.1
        go_wp2_with fail
        go_roundw
        case rel => exact ⟨t', by omega, by omega, by rw [HK.out], HON, HBN⟩
        case measure => simp [intOf]
     · obtain rfl : t = s := by omega
       have hki3 : a + t = i := by have := HSI.out; omega
       rw [hki3]
       clear hki3
       go_wp2_with fail
       (try simp only [Exit.inBlock, Exit.then])
       refine bodyPost_ret (results_none rfl _ _ _) rfl ?_
       exact ⟨rfl, _, HSC.out.2, HSC.out.1, HO2.out, HB2.out⟩
end Go.Proofs.YtlkmccmbpnbgbaaGreat

namespace Go.Proofs.YtlkmccmbpnbgbaaGreat
set_option linter.unusedVariables false
open Go.RowKit

theorem cut_parts {lt : List Value → List Value → Bool} (W : Pl.Weak lt) {A B : List (List Value)} (hA : Pl.Srt lt A) (hB : Pl.Srt lt B) {t u0 u1 s : Nat} (h0 : u0 = t - B.length) (h1 : u1 = min A.length t) (ht : t ≤ A.length + B.length) (hb : 0 < B.length) (h : Pl.Bis (fun u => !lt (B.getD (t - 1 - u) []) (A.getD u [])) u0 u1 s s) :
 ∃ L1 L2 R1 R2, A = L1 ++ L2 ∧ B = R1 ++ R2 ∧ L1.length = s ∧ R1.length = t - s ∧ (∀ x ∈ L1, ∀ y ∈ R2, lt y x = false) ∧ (∀ x ∈ R1, ∀ y ∈ L2, lt x y = true) := by
 have h2 := Pl.cut_ok W hA hB [] h0 h1 ht hb h
 have := h.high
 have := h.low
 exact ⟨A.take s, A.drop s, B.take (t - s), B.drop (t - s), (List.take_append_drop _ _).symm, (List.take_append_drop _ _).symm, by rw [List.length_take]; omega, by rw [List.length_take]; omega, h2.1, h2.2⟩
/-- Merges in place of so many things come to their end. -/
def Mergesstand (B g n c K : Nat) (ord : List Value → List Value → Int) (N : Nat) : Prop := ∀ (P A D S : List (List Value)) (za zm zb : Int) (w : World), A.length + D.length ≤ N → za = (P.length : Int) → zm = ((P.length + A.length : Nat) : Int) → zb = ((P.length + A.length + D.length : Nat) : Int) → 1 ≤ A.length → 1 ≤ D.length → n = (P ++ (A ++ (D ++ S))).length → Things kstand (P ++ (A ++ (D ++ S))) → Pl.Srt (lessO ord) A → Pl.Srt (lessO ord) D → w.ownsRow B 159 8 (.slice (some ⟨g, 0, none⟩) n c) n (P ++ (A ++ (D ++ S))).flatten → B ≤ w.heap.size →
 Calls Tryz.prog 155 #[.slice (some ⟨g, 0, none⟩) n c, .int .i64 za, .int .i64 zm, .int .i64 zb, .func (.func K) #[] #[]] w fun e w' => e = .returned (.tuple #[]) ∧ ∃ C, Pl.Stb (lessO ord) C (A ++ D) ∧ Pl.Srt (lessO ord) C ∧ w'.ownsRow B 159 8 (.slice (some ⟨g, 0, none⟩) n c) n (P ++ (C ++ S)).flatten ∧ Below B w w'
set_option maxRecDepth 100000 in
set_option maxHeartbeats 6400000 in
theorem symm3stand (B g n c K : Nat) (ord : List Value → List Value → Int) (N : Nat) (hI : Mergesstand B g n c K ord N) (P A D S : List (List Value)) (za zm zb : Int) (w : World) (hAD : A.length + D.length ≤ N + 1) (hza : za = (P.length : Int)) (hzm : zm = ((P.length + A.length : Nat) : Int)) (hzb : zb = ((P.length + A.length + D.length : Nat) : Int)) (hA : 2 ≤ A.length) (hD : 2 ≤ D.length) (hn : n = (P ++ (A ++ (D ++ S))).length) (hn6 : n ≤ 100000) (hM : Things kstand (P ++ (A ++ (D ++ S)))) (hT : TellsC kstand K ord) (hW : Pl.Weak (lessO ord)) (hsA : Pl.Srt (lessO ord) A) (hsD : Pl.Srt (lessO ord) D) (ho : w.ownsRow B 159 8 (.slice (some ⟨g, 0, none⟩) n c) n (P ++ (A ++ (D ++ S))).flatten) (hB : B ≤ w.heap.size) :
 Calls Tryz.prog 155 #[.slice (some ⟨g, 0, none⟩) n c, .int .i64 za, .int .i64 zm, .int .i64 zb, .func (.func K) #[] #[]] w fun e w' => e = .returned (.tuple #[]) ∧ ∃ C, Pl.Stb (lessO ord) C (A ++ D) ∧ Pl.Srt (lessO ord) C ∧ w'.ownsRow B 159 8 (.slice (some ⟨g, 0, none⟩) n c) n (P ++ (C ++ S)).flatten ∧ Below B w w' := by
 have hu := Tryz.underlying159
 have hent := hT.1
 have HTC := Lib.hid hT.2
 have HN := Lib.hid hn
 have HM := Lib.hid hM
 have HBW := Lib.hid hB
 have HO0 := Lib.hid ho
 have HW := Lib.hid hW
 have HI := Lib.hid hI
 have HSS := Lib.hid (And.intro hsA hsD)
 have hln : P.length + A.length + D.length ≤ n := by rw [hn]; simp only [List.length_append]; omega
 have HX0 : Hid (∀ u, u < A.length → (P ++ (A ++ (D ++ S)))[P.length + u]? = some (A.getD u [])) := Lib.hid (fun u hu => some_at (Pl.at_A P A (D ++ S) [] hu))
 have HY0 : Hid (∀ v, v < D.length → (P ++ (A ++ (D ++ S)))[P.length + A.length + v]? = some (D.getD v [])) := Lib.hid (fun v hv => some_at (Pl.at_B P A D S [] hv))
 obtain ⟨a, hpa⟩ : ∃ a, P.length = a := ⟨_, rfl⟩
 obtain ⟨da, hda⟩ : ∃ q, A.length = q := ⟨_, rfl⟩
 obtain ⟨dd, hdd⟩ : ∃ q, D.length = q := ⟨_, rfl⟩
 obtain ⟨m, hm⟩ : ∃ m, a + da = m := ⟨_, rfl⟩
 obtain ⟨b, hb⟩ : ∃ b, m + dd = b := ⟨_, rfl⟩
 obtain ⟨mid, hd1, hd2⟩ : ∃ q : Nat, 2 * q ≤ a + b ∧ a + b < 2 * q + 2 := ⟨(a + b) / 2, by omega, by omega⟩
 obtain ⟨t, ht⟩ : ∃ t, mid - a = t := ⟨_, rfl⟩
 obtain ⟨nn, hnn⟩ : ∃ q, mid + m = q := ⟨_, rfl⟩
 obtain ⟨p, hp⟩ : ∃ q, nn - 1 = q := ⟨_, rfl⟩
 obtain ⟨s0, r0, hs1, hs2⟩ : ∃ s0 r0 : Nat, (mid < m → s0 = nn - b ∧ r0 = mid) ∧ (¬ mid < m → s0 = a ∧ r0 = m) := by
  by_cases h : mid < m
  · exact ⟨nn - b, mid, fun _ => ⟨rfl, rfl⟩, fun h2 => absurd h h2⟩
  · exact ⟨a, m, fun h2 => absurd h2 h, fun _ => ⟨rfl, rfl⟩⟩
 have hr : a ≤ s0 ∧ s0 ≤ r0 ∧ r0 ≤ m ∧ r0 ≤ mid ∧ nn ≤ b + s0 ∧ s0 - a = t - dd ∧ r0 - a = min da t := by
  by_cases h : mid < m
  · obtain ⟨rfl, rfl⟩ := hs1 h; omega
  · obtain ⟨rfl, rfl⟩ := hs2 h; omega
 rw [hpa, hda] at HX0
 rw [hda, hpa, hm, hdd] at HY0
 rw [hpa, hda, hm, hdd, hb] at hln hzb
 rw [hpa, hda, hm] at hzm
 rw [hpa] at hza
 rw [hda, hdd] at hAD
 rw [hda] at hA
 rw [hdd] at hD
 obtain ⟨hr1, hr2, hr3, hr4, hr5, hr6, hr7⟩ := hr
 have HMO : Hid (Pl.Mono (fun u => !lessO ord (D.getD (t - 1 - u) []) (A.getD u [])) (s0 - a) (r0 - a)) := Lib.hid (Pl.mono_cut hW hsA hsD [] t _ _ (by rw [hda]; omega) (by omega) (by rw [hdd]; omega) (by rw [hdd]; omega))
 have HCUT : Hid (∀ s, Pl.Bis (fun u => !lessO ord (D.getD (t - 1 - u) []) (A.getD u [])) (s0 - a) (r0 - a) s s → _) := Lib.hid (fun s h => cut_parts hW hsA hsD (t := t) (by rw [hdd]; exact hr6) (by rw [hda]; exact hr7) (by rw [hda, hdd]; omega) (by rw [hdd]; omega) h)
 have HB0 : Hid (Pl.Bis (fun u => !lessO ord (D.getD (t - 1 - u) []) (A.getD u [])) (s0 - a) (r0 - a) (s0 - a) (r0 - a)) := Lib.hid (Pl.Bis.start _ (by omega))
 have e1 : ((m : Int) - (a : Int) == 1) = false := by simp; omega
 have e2 : ¬ ((m : Int) - (a : Int) = 1) := by omega
 have e3 : ((b : Int) - (m : Int) == 1) = false := by simp; omega
 have e4 : ¬ ((b : Int) - (m : Int) = 1) := by omega
 have e5 : ((a : Int) + (b : Int)) / 2 = (mid : Int) := by omega
 have e6 : (mid : Int) + (m : Int) = (nn : Int) := by omega
 have e7 : (nn : Int) - 1 = (p : Int) := by omega
 have ham : a ≤ mid ∧ mid ≤ b ∧ a + 2 ≤ m ∧ m + 2 ≤ b := by omega
 have HQ : Hid (a + da = m ∧ m + dd = b ∧ mid = a + t ∧ mid + m = nn ∧ nn = p + 1 ∧ 2 * mid ≤ a + b ∧ a + b < 2 * mid + 2 ∧ da + dd ≤ N + 1) := Lib.hid (by refine ⟨hm, hb, ?_, hnn, ?_, hd1, hd2, hAD⟩ <;> omega)
 have HLN : Hid (P.length = a ∧ A.length = da ∧ D.length = dd) := Lib.hid ⟨hpa, hda, hdd⟩
 have HSR1 := Lib.hid hs1
 have HSR2 := Lib.hid hs2
 have HR6 := Lib.hid hr6
 have HR7 := Lib.hid hr7
 have hnb : nn ≤ 200000 := by omega
 subst hza hzm hzb
 obtain ⟨ham1, ham2, ham3, ham4⟩ := ham
 clear hn hM hT hW ho hB hsA hsD hpa hda hdd hm hb ht hnn hp hs1 hs2 hr6 hr7 hd1 hd2 hI hA hD hAD
 go_enter Tryz.func155, Tryz.ntmps155
 go_upto_if 140 with fail
 go_cut [20, 21] from 141 to 148 (fun sv rv wx => sv = .int .i64 (s0 : Int) ∧ rv = .int .i64 (r0 : Int) ∧ w = wx)
 case first =>
  by_cases hmm : mid < m
  · obtain ⟨q1, q2⟩ := HSR1.out hmm
    have q3 : (nn : Int) - (b : Int) = (s0 : Int) := by omega
    have q4 : (mid : Int) = (r0 : Int) := by omega
    clear q1 q2
    go_wp2_with fail
    go_meet
    exact ⟨by first | rfl | rw [q3], by first | rfl | rw [q4], rfl⟩
  · obtain ⟨q1, q2⟩ := HSR2.out hmm
    have q3 : (a : Int) = (s0 : Int) := by omega
    have q4 : (m : Int) = (r0 : Int) := by omega
    clear q1 q2
    go_wp2_with fail
    go_meet
    exact ⟨by first | rfl | rw [← q3] | rw [q3], by first | rfl | rw [← q4] | rw [q4], rfl⟩
 case rest =>
  obtain ⟨rfl, rfl, rfl⟩ := hcut
  go_wp2_with fail
  go_loopw [20, 21] (fun iv jv wr => ∃ i j : Nat, s0 ≤ i ∧ i ≤ j ∧ j ≤ r0 ∧ iv = .int .i64 (i : Int) ∧ jv = .int .i64 (j : Int) ∧ Hid (Pl.Bis (fun u => !lessO ord (D.getD (t - 1 - u) []) (A.getD u [])) (s0 - a) (r0 - a) (i - a) (j - a)) ∧ Hid (wr.ownsRow B 159 8 (.slice (some ⟨g, 0, none⟩) n c) n (P ++ (A ++ (D ++ S))).flatten) ∧ Hid (Below B w wr)) (fun iv jv _ => (intOf jv).toNat - (intOf iv).toNat)
  case atStart => exact ⟨s0, r0, by omega, by omega, by omega, rfl, rfl, HB0, HO0, Lib.hid (Below.refl _ _)⟩
  case round =>
   obtain ⟨i, j, hil, hij, hjh, rfl, rfl, HBI, HO, HB⟩ := hrel
   clear e1 e2 e3 e4 e5 e6 e7
   by_cases hlt : i < j
   · skip
     obtain ⟨h, hh1, hh2⟩ : ∃ q : Nat, 2 * q ≤ i + j ∧ i + j < 2 * q + 2 := ⟨(i + j) / 2, by omega, by omega⟩
     have hhv : ((i : Int) + (j : Int)) / 2 = (h : Int) := by omega
     have hih : i ≤ h := by omega
     have hhj : h < j := by omega
     obtain ⟨q, hq⟩ : ∃ q, p - h = q := ⟨_, rfl⟩
     have hqv : (p : Int) - (h : Int) = (q : Int) := by have := HQ.out; omega
     have hqn : q < n := by have := HQ.out; omega
     have hvd : t - 1 - (h - a) < dd ∧ m + (t - 1 - (h - a)) = q := by have := HQ.out; omega
     have hud : h - a < da ∧ a + (h - a) = h := by have := HQ.out; omega
     obtain ⟨x, hx⟩ : ∃ x, A.getD (h - a) [] = x := ⟨_, rfl⟩
     obtain ⟨y, hy⟩ : ∃ y, D.getD (t - 1 - (h - a)) [] = y := ⟨_, rfl⟩
     have hxx := HX0.out _ hud.1
     have hyy := HY0.out _ hvd.1
     rw [hx, hud.2] at hxx
     rw [hy, hvd.2] at hyy
     have HXP := Lib.hid hxx
     have HYP := Lib.hid hyy
     have FX : Hid (Fits kstand x) := Lib.hid (at_fits HM.out HXP.out)
     have FY : Hid (Fits kstand y) := Lib.hid (at_fits HM.out HYP.out)
     have HLX : Hid (x.length = 8) := Lib.hid (FX.out.length)
     have HIX : Hid ((Tryz.prog.info? 159).map (·.size) = some x.length) := Lib.hid (by rw [HLX.out]; kernel_rfl)
     have HAX : Hid ((Tryz.prog.info? 159).map (·.size) = some x.toArray.size) := Lib.hid (by rw [List.size_toArray, HLX.out]; kernel_rfl)
     have HOX : Hid (x.toArray.all (·.oneCell') = true) := Lib.hid (all_oneCell_toArray (fits_one FX.out))
     have HLY : Hid (y.length = 8) := Lib.hid (FY.out.length)
     have HIY : Hid ((Tryz.prog.info? 159).map (·.size) = some y.length) := Lib.hid (by rw [HLY.out]; kernel_rfl)
     have HAY : Hid ((Tryz.prog.info? 159).map (·.size) = some y.toArray.size) := Lib.hid (by rw [List.size_toArray, HLY.out]; kernel_rfl)
     have HOY : Hid (y.toArray.all (·.oneCell') = true) := Lib.hid (all_oneCell_toArray (fits_one FY.out))
     have HRX : Hid (∀ W, Below wr.heap.size wr W → W.rangeAt g (h * 8) x) := Lib.hid (fun W hW => row_at (own_below HO.out hW) HM.out (by decide) HN.out HXP.out)
     have HRY : Hid (∀ W, Below wr.heap.size wr W → W.rangeAt g (q * 8) y) := Lib.hid (fun W hW => row_at (own_below HO.out hW) HM.out (by decide) HN.out HYP.out)
     obtain ⟨r, hr⟩ : ∃ r, ord y x = r := ⟨_, rfl⟩
     have HCV : Hid (∀ W, Calls Tryz.prog K #[.agg y.toArray, .agg x.toArray] W fun e w' => e = .returned (.int .i64 r) ∧ Below W.heap.size W w') := Lib.hid (fun W => by rw [← hr]; exact HTC.out W y x FY.out FX.out)
     have hcl := lessO_int ord y x hr
     have hhn : h < n := by omega
     have HYD := Lib.hid (And.intro hx hy)
     clear hr hxx hyy hx hy hq hvd hud
     go_wp2_with fail
     refine wp_grow wr (by kernel_rfl) (by kernel_rfl) (Below.refl _ _) ?_
     simp only []
     iterate 6 go_big_quiet_step (fail)
     refine BigFrame.wpQuiet_want (by kernel_rfl) (fun K hK => quiet_load_mid 159 (.tmp 163) rfl g (q * 8) rfl y _ (fun W ⟨X, hX⟩ => by rw [hX]; exact HRY.out _ X.h) hu rfl HIY.out (hK _ ?_))
     simp only [ax]
     iterate 3 go_big_quiet_step (fail)
     refine BigFrame.wpQuiet_want (by kernel_rfl) (fun K hK => quiet_load_mid 159 (.tmp 167) rfl g (h * 8) rfl x _ (fun W ⟨X, hX⟩ => by rw [hX]; exact HRX.out _ X.h) hu rfl HIX.out (hK _ ?_))
     simp only [ax]
     go_big_quiet_step (exact grow_call _ (HCV.out _))
     iterate 2 go_big_quiet_step (fail)
     refine wpQuiet_nil ?_
     intro X
     have hb4 := X.h
     obtain ⟨W4, hW4⟩ : ∃ W, X.W = W := ⟨_, rfl⟩
     rw [hW4] at hb4 ⊢
     clear hW4 X
     have HB4 := Lib.hid hb4
     have HO4 := Lib.hid (own_below HO.out hb4)
     clear hb4
     cases hyv : lessO ord y x with
     | false =>
      have HBN : Hid (Pl.Bis (fun u => !lessO ord (D.getD (t - 1 - u) []) (A.getD u [])) (s0 - a) (r0 - a) (h + 1 - a) (j - a)) := Lib.hid (by rw [show h + 1 - a = h - a + 1 from by omega]; exact HBI.out.up HMO.out (by omega) (by omega) (by simp only [HYD.out.1, HYD.out.2, hyv, Bool.not_false]))
      rw [hyv] at hcl
      clear hyv
      go_wp2_with fail
      go_roundw
      case rel => exact ⟨h + 1, j, by omega, by omega, hjh, by go_num, rfl, HBN, HO4, Lib.hid (HB.out.trans (HB4.out.mono (Nat.le_trans HBW.out HB.out.size)))⟩
      case measure => simp [intOf]; omega
     | true =>
      have HBN : Hid (Pl.Bis (fun u => !lessO ord (D.getD (t - 1 - u) []) (A.getD u [])) (s0 - a) (r0 - a) (i - a) (h - a)) := Lib.hid (HBI.out.down HMO.out (by omega) (by omega) (by simp only [HYD.out.1, HYD.out.2, hyv, Bool.not_true]))
      rw [hyv] at hcl
      clear hyv
      go_wp2_with fail
      go_roundw
      case rel => exact ⟨i, h, hil, by omega, by omega, rfl, rfl, HBN, HO4, Lib.hid (HB.out.trans (HB4.out.mono (Nat.le_trans HBW.out HB.out.size)))⟩
      case measure => simp [intOf]; omega
   · obtain rfl : i = j := by omega
     obtain ⟨L1, L2, R1, R2, hAL, hDR, hl1, hr1', h1, h2⟩ := HCUT.out _ HBI.out
     obtain ⟨en, hen⟩ : ∃ q, nn - i = q := ⟨_, rfl⟩
     have hev : (nn : Int) - (i : Int) = (en : Int) := by have := HQ.out; omega
     have hbn : m ≤ en ∧ en ≤ b ∧ mid ≤ en ∧ a ≤ i ∧ i ≤ mid ∧ i ≤ m := by have := HQ.out; omega
     have HLL : Hid (L1.length = i - a ∧ L2.length = m - i ∧ R1.length = mid - i ∧ R2.length = b - en ∧ en - mid = m - i ∧ en - m = mid - i) := Lib.hid (by
      have q := HQ.out
      obtain ⟨q1, q2, q3⟩ := HLN.out
      rw [hAL, List.length_append] at q2
      rw [hDR, List.length_append] at q3
      refine ⟨hl1, ?_, ?_, ?_, ?_, ?_⟩ <;> omega)
     have HSA : Hid (Pl.Srt (lessO ord) (L1 ++ L2)) := Lib.hid (by rw [← hAL]; exact HSS.out.1)
     have HSD : Hid (Pl.Srt (lessO ord) (R1 ++ R2)) := Lib.hid (by rw [← hDR]; exact HSS.out.2)
     have HC1 := Lib.hid h1
     have HC2 := Lib.hid h2
     have HAL := Lib.hid hAL
     have HDR := Lib.hid hDR
     have hom := HO.out
     rw [show P ++ (A ++ (D ++ S)) = (P ++ L1) ++ (L2 ++ (R1 ++ (R2 ++ S))) from by rw [hAL, hDR]; simp] at hom
     have HOM := Lib.hid hom
     have HMM : Hid (n = ((P ++ L1) ++ (L2 ++ (R1 ++ (R2 ++ S)))).length ∧ Things kstand ((P ++ L1) ++ (L2 ++ (R1 ++ (R2 ++ S))))) := Lib.hid (by have h1 := HN.out; have h2 := HM.out; rw [show P ++ (A ++ (D ++ S)) = (P ++ L1) ++ (L2 ++ (R1 ++ (R2 ++ S))) from by rw [hAL, hDR]; simp] at h1 h2; exact ⟨h1, h2⟩)
     obtain ⟨hb1, hb2, hb3, hb4, hb5, hb6⟩ := hbn
     clear hAL hDR hl1 hr1' h1 h2 hom hlt hen HBI HO HCUT HB0 HX0 HY0 HMO
     obtain ⟨k1, hk1⟩ : ∃ k, (decide (i < m) && decide (m < en)) = k := ⟨_, rfl⟩
     obtain ⟨k2, hk2⟩ : ∃ k, (decide (a < i) && decide (i < mid)) = k := ⟨_, rfl⟩
     obtain ⟨k3, hk3⟩ : ∃ k, (decide (mid < en) && decide (en < b)) = k := ⟨_, rfl⟩
     have HK1 := Lib.hid hk1
     have HK2 := Lib.hid hk2
     have HK3 := Lib.hid hk3
     clear hk1 hk2 hk3
     go_upto_region 39 with fail
     go_cut [185] from 178 to 185 (fun q wx => q = .bool k1 ∧ wr = wx)
     case first =>
      by_cases q1 : i < m
      · by_cases q2 : m < en
        · have HV : Hid (k1 = true) := Lib.hid (by rw [← HK1.out]; simp; omega)
          go_wp2_with fail
          go_meet
          exact ⟨congrArg Value.bool (by rw [HV.out] <;> first | rfl | (simp; omega)), rfl⟩
        · have HV : Hid (k1 = false) := Lib.hid (by rw [← HK1.out]; simp; omega)
          go_wp2_with fail
          go_meet
          exact ⟨congrArg Value.bool (by rw [HV.out] <;> first | rfl | (simp; omega)), rfl⟩
      · have HV : Hid (k1 = false) := Lib.hid (by rw [← HK1.out]; simp; omega)
        go_wp2_with fail
        go_meet
        exact ⟨congrArg Value.bool (by rw [HV.out] <;> first | rfl | (simp; omega)), rfl⟩
     case rest =>
      obtain ⟨rfl, rfl⟩ := hcut
      go_upto_if 185 with fail
      go_cut [24] from 186 to 191 (fun q wx => q = .int .i64 (en : Int) ∧ ∃ W, W = wx ∧ Hid (W.ownsRow B 159 8 (.slice (some ⟨g, 0, none⟩) n c) n ((P ++ L1) ++ (R1 ++ (L2 ++ (R2 ++ S)))).flatten) ∧ Hid (Below B w W))
      case first =>
       cases k1 with
       | true =>
        have hk : i < m ∧ m < en := by have := HK1.out; simpa using this
        go_wp2_with fail
        refine (rotastand B g n c K (P ++ L1) L2 R1 (R2 ++ S) _ _ _ _ (by rw [List.length_append]; have := HLL.out; have := HLN.out; omega) (by rw [List.length_append]; have := HLL.out; have := HLN.out; omega) (by rw [List.length_append]; have := HLL.out; have := HLN.out; omega) (by have := HLL.out; omega) (by have := HLL.out; omega) HMM.out.1 hn6 HMM.out.2 HOM.out (Nat.le_trans HBW.out HB.out.size)).mono ?_
        rintro e w1 ⟨rfl, ho1, hb1⟩
        have HO1 := Lib.hid ho1
        have HB1 := Lib.hid (HB.out.trans hb1)
        clear ho1 hb1
        go_wp2_with fail
        go_meet
        exact ⟨rfl, _, rfl, HO1, HB1⟩
       | false =>
        have HO1 : Hid (wr.ownsRow B 159 8 (.slice (some ⟨g, 0, none⟩) n c) n ((P ++ L1) ++ (R1 ++ (L2 ++ (R2 ++ S)))).flatten) := Lib.hid (by
         have h := HOM.out
         have hq := HLL.out
         have hk : ¬ (i < m ∧ m < en) := by have := HK1.out; simpa using this
         have e : L2 = [] ∨ R1 = [] := by
          by_cases hm : i < m
          · exact .inr (List.length_eq_zero_iff.1 (by omega))
          · exact .inl (List.length_eq_zero_iff.1 (by omega))
         rcases e with e | e
         · rw [e] at h ⊢; exact h
         · rw [e] at h ⊢; exact h)
        go_wp2_with fail
        go_meet
        exact ⟨rfl, _, rfl, HO1, HB⟩
      case rest =>
       obtain ⟨rfl, W1, rfl, HO1, HB1⟩ := hcut
       have hm1 : (P ++ L1) ++ (R1 ++ (L2 ++ (R2 ++ S))) = P ++ (L1 ++ (R1 ++ (L2 ++ (R2 ++ S)))) := by simp
       have ho1 := HO1.out
       rw [hm1] at ho1
       have HO1' := Lib.hid ho1
       have HM1 : Hid (n = (P ++ (L1 ++ (R1 ++ (L2 ++ (R2 ++ S))))).length ∧ Things kstand (P ++ (L1 ++ (R1 ++ (L2 ++ (R2 ++ S)))))) := Lib.hid (by
        have e : (P ++ (L1 ++ (R1 ++ (L2 ++ (R2 ++ S))))).Perm ((P ++ L1) ++ (L2 ++ (R1 ++ (R2 ++ S)))) := by
         rw [← hm1]
         refine List.Perm.append_left _ ?_
         rw [← List.append_assoc, ← List.append_assoc L2]
         exact List.Perm.append_right _ List.perm_append_comm
        exact ⟨HMM.out.1.trans e.length_eq.symm, things_perm HMM.out.2 e⟩)
       clear hm1 ho1
       go_upto_region 41 with fail
       go_cut [199] from 192 to 199 (fun q wx => q = .bool k2 ∧ W1 = wx)
       case first =>
        by_cases q1 : a < i
        · by_cases q2 : i < mid
          · have HV : Hid (k2 = true) := Lib.hid (by rw [← HK2.out]; simp; omega)
            go_wp2_with fail
            go_meet
            exact ⟨congrArg Value.bool (by rw [HV.out] <;> first | rfl | (simp; omega)), rfl⟩
          · have HV : Hid (k2 = false) := Lib.hid (by rw [← HK2.out]; simp; omega)
            go_wp2_with fail
            go_meet
            exact ⟨congrArg Value.bool (by rw [HV.out] <;> first | rfl | (simp; omega)), rfl⟩
        · have HV : Hid (k2 = false) := Lib.hid (by rw [← HK2.out]; simp; omega)
          go_wp2_with fail
          go_meet
          exact ⟨congrArg Value.bool (by rw [HV.out] <;> first | rfl | (simp; omega)), rfl⟩
       case rest =>
        obtain ⟨rfl, rfl⟩ := hcut
        go_upto_if 199 with fail
        go_cut [24] from 200 to 205 (fun q wx => q = .int .i64 (en : Int) ∧ ∃ W, W = wx ∧ ∃ C1, Hid (Pl.Stb (lessO ord) C1 (L1 ++ R1)) ∧ Hid (Pl.Srt (lessO ord) C1) ∧ Hid (W.ownsRow B 159 8 (.slice (some ⟨g, 0, none⟩) n c) n (P ++ (C1 ++ (L2 ++ (R2 ++ S)))).flatten) ∧ Hid (Below B w W))
        case first =>
         cases k2 with
         | true =>
          have hk : a < i ∧ i < mid := by have := HK2.out; simpa using this
          go_wp2_with fail
          refine (HI.out P L1 R1 (L2 ++ (R2 ++ S)) _ _ _ _ (by have := HLL.out; have := HQ.out; omega) (by rw [HLN.out.1]) (by have := HLL.out; have := HLN.out; omega) (by have := HLL.out; have := HLN.out; omega) (by have := HLL.out; omega) (by have := HLL.out; omega) HM1.out.1 HM1.out.2 (Pl.srt_app.1 HSA.out).1 (Pl.srt_app.1 HSD.out).1 HO1'.out (Nat.le_trans HBW.out HB1.out.size)).mono ?_
          rintro e w1 ⟨rfl, C1, hp1, hs1, ho1, hb1⟩
          have HP2 := Lib.hid hp1
          have HS2 := Lib.hid hs1
          have HO2 := Lib.hid ho1
          have HB2 := Lib.hid (HB1.out.trans hb1)
          clear hp1 hs1 ho1 hb1
          go_wp2_with fail
          go_meet
          exact ⟨rfl, _, rfl, C1, HP2, HS2, HO2, HB2⟩
         | false =>
          have HS2 : Hid (Pl.Srt (lessO ord) (L1 ++ R1)) := Lib.hid (by
           have hq := HLL.out
           have hk : ¬ (a < i ∧ i < mid) := by have := HK2.out; simpa using this
           have e : L1 = [] ∨ R1 = [] := by
            by_cases hm : a < i
            · exact .inr (List.length_eq_zero_iff.1 (by omega))
            · exact .inl (List.length_eq_zero_iff.1 (by omega))
           rcases e with e | e
           · rw [e]; exact (Pl.srt_app.1 HSD.out).1
           · rw [e, List.append_nil]; exact (Pl.srt_app.1 HSA.out).1)
          have HO2 : Hid (W1.ownsRow B 159 8 (.slice (some ⟨g, 0, none⟩) n c) n (P ++ ((L1 ++ R1) ++ (L2 ++ (R2 ++ S)))).flatten) := Lib.hid (by have h := HO1'.out; rw [← List.append_assoc L1 R1] at h; exact h)
          go_wp2_with fail
          go_meet
          exact ⟨rfl, _, rfl, L1 ++ R1, Lib.hid (Pl.Stb.refl _ _), HS2, HO2, HB1⟩
        case rest =>
         obtain ⟨rfl, W2, rfl, C1, HP2, HS2, HO2, HB2⟩ := hcut
         have hm2 : P ++ (C1 ++ (L2 ++ (R2 ++ S))) = (P ++ C1) ++ (L2 ++ (R2 ++ S)) := by simp
         have ho2 := HO2.out
         rw [hm2] at ho2
         have HO2' := Lib.hid ho2
         have HM2 : Hid (n = ((P ++ C1) ++ (L2 ++ (R2 ++ S))).length ∧ Things kstand ((P ++ C1) ++ (L2 ++ (R2 ++ S)))) := Lib.hid (by
          have e : ((P ++ C1) ++ (L2 ++ (R2 ++ S))).Perm (P ++ (L1 ++ (R1 ++ (L2 ++ (R2 ++ S))))) := by
           rw [← hm2, ← List.append_assoc L1 R1]
           exact List.Perm.append_left _ (List.Perm.append_right _ HP2.out.perm)
          exact ⟨HM1.out.1.trans e.length_eq.symm, things_perm HM1.out.2 e⟩)
         have HL2 : Hid ((P ++ C1).length = mid) := Lib.hid (by have h := HP2.out.length_eq; have := HLL.out; have := HLN.out; rw [List.length_append] at h ⊢; omega)
         clear hm2 ho2
         go_upto_region 43 with fail
         go_cut [213] from 206 to 213 (fun q wx => q = .bool k3 ∧ W2 = wx)
         case first =>
          by_cases q1 : mid < en
          · by_cases q2 : en < b
            · have HV : Hid (k3 = true) := Lib.hid (by rw [← HK3.out]; simp; omega)
              go_wp2_with fail
              go_meet
              exact ⟨congrArg Value.bool (by rw [HV.out] <;> first | rfl | (simp; omega)), rfl⟩
            · have HV : Hid (k3 = false) := Lib.hid (by rw [← HK3.out]; simp; omega)
              go_wp2_with fail
              go_meet
              exact ⟨congrArg Value.bool (by rw [HV.out] <;> first | rfl | (simp; omega)), rfl⟩
          · have HV : Hid (k3 = false) := Lib.hid (by rw [← HK3.out]; simp; omega)
            go_wp2_with fail
            go_meet
            exact ⟨congrArg Value.bool (by rw [HV.out] <;> first | rfl | (simp; omega)), rfl⟩
         case rest =>
          obtain ⟨rfl, rfl⟩ := hcut
          have HEND : Hid (∀ C2, Pl.Stb (lessO ord) C2 (L2 ++ R2) → Pl.Srt (lessO ord) C2 → Pl.Srt (lessO ord) (C1 ++ C2) ∧ Pl.Stb (lessO ord) (C1 ++ C2) (A ++ D)) := Lib.hid (fun C2 hp hs => by rw [HAL.out, HDR.out]; exact Pl.srt_halves HW.out HSA.out HSD.out HC1.out HC2.out HP2.out hp HS2.out hs)
          cases k3 with
          | true =>
           have hk : mid < en ∧ en < b := by have := HK3.out; simpa using this
           go_wp2_with fail
           refine (HI.out (P ++ C1) L2 R2 S _ _ _ _ (by have := HLL.out; have := HQ.out; omega) (by rw [HL2.out]) (by rw [HL2.out]; have := HLL.out; omega) (by rw [HL2.out]; have := HLL.out; omega) (by have := HLL.out; omega) (by have := HLL.out; omega) HM2.out.1 HM2.out.2 (Pl.srt_app.1 HSA.out).2.1 (Pl.srt_app.1 HSD.out).2.1 HO2'.out (Nat.le_trans HBW.out HB2.out.size)).mono ?_
           rintro e w1 ⟨rfl, C2, hp1, hs1, ho1, hb1⟩
           have HE := Lib.hid (HEND.out C2 hp1 hs1)
           have HO3 := Lib.hid ho1
           have HB3 := Lib.hid (HB2.out.trans hb1)
           clear hp1 hs1 ho1 hb1
           go_wp2_with fail
           go_end0
           exact ⟨rfl, C1 ++ C2, HE.out.2, HE.out.1, by have h := HO3.out; rw [List.append_assoc] at h; rw [List.append_assoc]; exact h, HB3.out⟩
          | false =>
           have HE := Lib.hid (HEND.out (L2 ++ R2) (Pl.Stb.refl _ _) (by
            have hq := HLL.out
            have hk : ¬ (mid < en ∧ en < b) := by have := HK3.out; simpa using this
            have e : L2 = [] ∨ R2 = [] := by
             by_cases hm : mid < en
             · exact .inr (List.length_eq_zero_iff.1 (by omega))
             · exact .inl (List.length_eq_zero_iff.1 (by omega))
            rcases e with e | e
            · rw [e]; exact (Pl.srt_app.1 HSD.out).2.1
            · rw [e, List.append_nil]; exact (Pl.srt_app.1 HSA.out).2.1))
           go_wp2_with fail
           go_end0
           exact ⟨rfl, C1 ++ (L2 ++ R2), HE.out.2, HE.out.1, by have h := HO2'.out; simp only [List.append_assoc] at h ⊢; exact h, HB2.out⟩
theorem symmstand (B g n c K : Nat) (ord : List Value → List Value → Int) (hn6 : n ≤ 100000) (hT : TellsC kstand K ord) (hW : Pl.Weak (lessO ord)) : ∀ N, Mergesstand B g n c K ord N
 | 0 => fun P A D S za zm zb w h0 _ _ _ hA _ _ _ _ _ _ _ => by omega
 | N + 1 => fun P A D S za zm zb w hN hza hzm hzb hA hD hn hM hsA hsD ho hB => by
  have ih := symmstand B g n c K ord hn6 hT hW N
  by_cases h1 : A.length = 1
  · obtain ⟨x, hx⟩ := List.length_eq_one_iff.1 h1
    subst hx
    exact symm1stand B g n c K ord P D S x za zm zb w hza hzm hzb hD hn hn6 hM hT hW hsD ho hB
  · by_cases h2 : D.length = 1
    · obtain ⟨x, hx⟩ := List.length_eq_one_iff.1 h2
      subst hx
      exact (symm2stand B g n c K ord P A S x za zm zb w hza hzm hzb (by omega) hn hn6 hM hT hW hsA ho hB).mono (fun e w' ⟨he, C, hp, hs, ho, hb⟩ => ⟨he, C, hp, hs, ho, hb⟩)
    · exact symm3stand B g n c K ord N ih P A D S za zm zb w hN hza hzm hzb (by omega) (by omega) hn hn6 hM hT hW hsA hsD ho hB
end Go.Proofs.YtlkmccmbpnbgbaaGreat

namespace Go.Proofs.YtlkmccmbpnbgbaaGreat
set_option linter.unusedVariables false
open Go.RowKit

set_option maxRecDepth 100000 in
set_option maxHeartbeats 3200000 in
theorem stabstand (B g n c K : Nat) (ord : List Value → List Value → Int) (L : List (List Value)) (w : World) (hn : n = L.length) (hn6 : n ≤ 4000) (hM : Things kstand L) (hT : TellsC kstand K ord) (hW : Pl.Weak (lessO ord)) (ho : w.ownsRow B 159 8 (.slice (some ⟨g, 0, none⟩) n c) n (L).flatten) (hB : B ≤ w.heap.size) :
 Calls Tryz.prog 133 #[.slice (some ⟨g, 0, none⟩) n c, .int .i64 (n : Int), .func (.func K) #[] #[]] w fun e w' => e = .returned (.tuple #[]) ∧ ∃ C, Pl.Stb (lessO ord) C L ∧ Pl.Srt (lessO ord) C ∧ w'.ownsRow B 159 8 (.slice (some ⟨g, 0, none⟩) n c) n (C).flatten ∧ Below B w w' := by
 have HBW := Lib.hid hB
 have HT := Lib.hid hT
 have HW := Lib.hid hW
 have HPM : Hid (∀ M : List (List Value), Pl.Stb (lessO ord) M L → n = M.length ∧ Things kstand M) := Lib.hid (fun M h => ⟨hn.trans h.length_eq.symm, things_perm hM h.perm⟩)
 have HO0 : Hid (w.ownsRow B 159 8 (.slice (some ⟨g, 0, none⟩) n c) n ([] ++ L).flatten) := Lib.hid ho
 have HN6 := Lib.hid (show n ≤ 100000 by omega)
 have HR0 : Hid (Pl.Runs (lessO ord) 20 ([] : List (List Value))) := Lib.hid (Pl.Runs.nil 20)
 clear hn hM hT hW ho hB
 go_enter Tryz.func133, Tryz.ntmps133
 go_wp2_with fail
 go_loopw [7, 8] (fun av bv wr => ∃ (q : Nat) (X Y : List (List Value)), q ≤ n ∧ av = .int .i64 (q : Int) ∧ bv = .int .i64 ((q : Int) + 20) ∧ Hid (X.length = q) ∧ Hid (∃ k, X.length = k * 20) ∧ Hid (Pl.Stb (lessO ord) (X ++ Y) L) ∧ Hid (Pl.Runs (lessO ord) 20 X) ∧ Hid (wr.ownsRow B 159 8 (.slice (some ⟨g, 0, none⟩) n c) n (X ++ Y).flatten) ∧ Hid (Below B w wr)) (fun av _ _ => n - (intOf av).toNat)
 case atStart => exact ⟨0, [], L, by omega, rfl, rfl, Lib.hid rfl, Lib.hid ⟨0, rfl⟩, Lib.hid (Pl.Stb.refl _ _), HR0, HO0, Lib.hid (Below.refl _ _)⟩
 case round =>
  obtain ⟨q, X, Y, hqn, rfl, rfl, HXL, HXK, HXY, HRX, HO, HB⟩ := hrel
  by_cases hlt : q + 20 ≤ n
  · skip
    obtain ⟨A, Y', hY, hA⟩ := Pl.part_at Y 20 (by have := (HPM.out _ HXY.out).1; have := HXL.out; rw [List.length_append] at *; omega)
    subst hY
    have HA := Lib.hid hA
    have HPX := Lib.hid (HPM.out _ HXY.out)
    clear hA
    have hlt2 : (q : Int) + 20 ≤ (n : Int) := by omega
    go_wp2_with fail
    refine (inserstand B g n c K ord X A Y' _ _ _ (by rw [HXL.out]) (by rw [HXL.out, HA.out]; omega) HPX.out.1 HN6.out HPX.out.2 HT.out HW.out HO.out (Nat.le_trans HBW.out HB.out.size)).mono ?_
    rintro e w1 ⟨rfl, C, hp, hs, ho1, hb1⟩
    have HL1 : Hid (X.length + C.length = q + 20) := Lib.hid (by rw [hp.length_eq, HXL.out, HA.out])
    have HK1 : Hid (∃ k, (X ++ C).length = k * 20) := Lib.hid (by obtain ⟨k, hk⟩ := HXK.out; exact ⟨k + 1, by rw [List.length_append, hp.length_eq, hk, HA.out]; omega⟩)
    have HP1 : Hid (Pl.Stb (lessO ord) ((X ++ C) ++ Y') L) := Lib.hid (by rw [List.append_assoc]; exact (Pl.Stb.append_left X (hp.append_right Y')).trans HXY.out)
    have HR1 : Hid (Pl.Runs (lessO ord) 20 (X ++ C)) := Lib.hid (by obtain ⟨k, hk⟩ := HXK.out; exact HRX.out.snoc hk (by rw [hp.length_eq, HA.out]; omega) hs)
    have HO1 : Hid (w1.ownsRow B 159 8 (.slice (some ⟨g, 0, none⟩) n c) n ((X ++ C) ++ Y').flatten) := Lib.hid (by rw [List.append_assoc]; exact ho1)
    have HB1 := Lib.hid (HB.out.trans hb1)
    clear hp hs ho1 hb1
    go_wp2_with fail
    go_roundw
    case rel => exact ⟨q + 20, X ++ C, Y', hlt, by go_num, by go_num, Lib.hid (by rw [List.length_append]; exact HL1.out), HK1, HP1, HR1, HO1, HB1⟩
    case measure => simp [intOf]; omega
  · skip
    have hlt2 : ¬ (q : Int) + 20 ≤ (n : Int) := by omega
    have HPX := Lib.hid (HPM.out _ HXY.out)
    have HYL : Hid (q + Y.length = n) := Lib.hid (by have h := HPX.out.1; rw [List.length_append, HXL.out] at h; omega)
    have HOE : Hid (wr.ownsRow B 159 8 (.slice (some ⟨g, 0, none⟩) n c) n (X ++ (Y ++ [])).flatten) := Lib.hid (by rw [List.append_nil]; exact HO.out)
    have HPE : Hid (n = (X ++ (Y ++ [])).length ∧ Things kstand (X ++ (Y ++ []))) := Lib.hid (by rw [List.append_nil]; exact HPX.out)
    have hql : n ≤ q + 19 := by omega
    go_wp2_with fail
    refine (inserstand B g n c K ord X Y [] _ _ _ (by rw [HXL.out]) (by rw [HXL.out, HYL.out]) HPE.out.1 HN6.out HPE.out.2 HT.out HW.out HOE.out (Nat.le_trans HBW.out HB.out.size)).mono ?_
    rintro e w1 ⟨rfl, C, hp, hs, ho1, hb1⟩
    have HP1 : Hid (Pl.Stb (lessO ord) (X ++ C) L) := Lib.hid ((Pl.Stb.append_left X hp).trans HXY.out)
    have HR1 : Hid (Pl.Runs (lessO ord) 20 (X ++ C)) := Lib.hid (by obtain ⟨k, hk⟩ := HXK.out; exact HRX.out.snoc hk (by rw [hp.length_eq]; have := HYL.out; omega) hs)
    have HO1 : Hid (w1.ownsRow B 159 8 (.slice (some ⟨g, 0, none⟩) n c) n (X ++ C).flatten) := Lib.hid (by rw [List.append_nil] at ho1; exact ho1)
    have HB1 := Lib.hid (HB.out.trans hb1)
    clear hp hs ho1 hb1 hlt hlt2 hql
    obtain ⟨M1, hM1⟩ : ∃ M, X ++ C = M := ⟨_, rfl⟩
    rw [hM1] at HP1 HR1 HO1
    clear hM1 HXL HXK HXY HRX HO HB HPX HYL HOE HPE
    go_wp2_with fail
    go_loopw [6, 7, 8, 9] (fun sv av bv mv wr => ∃ (s : Nat) (M : List (List Value)), 1 ≤ s ∧ s ≤ 8000 ∧ sv = .int .i64 (s : Int) ∧ Hid (Pl.Stb (lessO ord) M L) ∧ Hid (Pl.Runs (lessO ord) s M) ∧ Hid (wr.ownsRow B 159 8 (.slice (some ⟨g, 0, none⟩) n c) n (M).flatten) ∧ Hid (Below B w wr)) (fun sv _ _ _ _ => n - (intOf sv).toNat)
    case atStart => exact ⟨20, M1, by omega, by omega, rfl, HP1, HR1, HO1, HB1⟩
    case round =>
     obtain ⟨s, M, hs1, hs8, rfl, HPS, HRS, HOS, HBS⟩ := hrel
     clear HO1 HB1 HR1 HP1
     by_cases hlt : s < n
     · skip
       have HRZ : Hid (Pl.Runs (lessO ord) (2 * s) ([] : List (List Value))) := Lib.hid (Pl.Runs.nil _)
       go_wp2_with fail
       go_loopw [7, 8] (fun av bv wr => ∃ (q : Nat) (X Y : List (List Value)), q ≤ n ∧ av = .int .i64 (q : Int) ∧ bv = .int .i64 ((q : Int) + 2 * (s : Int)) ∧ Hid (X.length = q) ∧ Hid (∃ k, X.length = k * (2 * s)) ∧ Hid (Pl.Stb (lessO ord) (X ++ Y) L) ∧ Hid (Pl.Runs (lessO ord) (2 * s) X) ∧ Hid (Pl.Runs (lessO ord) s Y) ∧ Hid (wr.ownsRow B 159 8 (.slice (some ⟨g, 0, none⟩) n c) n (X ++ Y).flatten) ∧ Hid (Below B w wr)) (fun av _ _ => n - (intOf av).toNat)
       case atStart => exact ⟨0, [], M, by omega, rfl, by first | rfl | go_num | simp, Lib.hid rfl, Lib.hid ⟨0, by simp⟩, HPS, HRZ, HRS, HOS, HBS⟩
       case round =>
        obtain ⟨q, X, Y, hqn, rfl, rfl, HXL, HXK, HXY, HRX, HRY, HO, HB⟩ := hrel
        have HPX := Lib.hid (HPM.out _ HXY.out)
        have HYL : Hid (q + Y.length = n) := Lib.hid (by have h := HPX.out.1; rw [List.length_append, HXL.out] at h; omega)
        by_cases hlt2 : q + 2 * s ≤ n
        · skip
          obtain ⟨A, Y1, hY, hA⟩ := Pl.part_at Y s (by have := HYL.out; omega)
          subst hY
          obtain ⟨D, Y', hY, hD⟩ := Pl.part_at Y1 s (by have h := HYL.out; rw [List.length_append] at h; omega)
          subst hY
          have HA := Lib.hid hA
          have HD := Lib.hid hD
          have HSA := Lib.hid (HRY.out.first hA)
          have HRY1 := Lib.hid (HRY.out.rest hA)
          have HSD := Lib.hid (HRY1.out.first hD)
          have HRY2 := Lib.hid (HRY1.out.rest hD)
          clear hA hD
          have hlt3 : (q : Int) + 2 * (s : Int) ≤ (n : Int) := by omega
          go_wp2_with fail
          refine (symmstand B g n c K ord HN6.out HT.out HW.out (2 * s) X A D Y' _ _ _ _ (by rw [HA.out, HD.out]; omega) (by rw [HXL.out]) (by rw [HXL.out, HA.out]; omega) (by rw [HXL.out, HA.out, HD.out]; omega) (by rw [HA.out]; exact hs1) (by rw [HD.out]; exact hs1) HPX.out.1 HPX.out.2 HSA.out HSD.out HO.out (Nat.le_trans HBW.out HB.out.size)).mono ?_
          rintro e w2 ⟨rfl, C, hp, hs, ho1, hb1⟩
          have HL1 : Hid (X.length + C.length = q + 2 * s) := Lib.hid (by rw [hp.length_eq, List.length_append, HXL.out, HA.out, HD.out]; omega)
          have HK1 : Hid (∃ k, (X ++ C).length = k * (2 * s)) := Lib.hid (by obtain ⟨k, hk⟩ := HXK.out; exact ⟨k + 1, by rw [List.length_append, hp.length_eq, List.length_append, hk, HA.out, HD.out, Nat.succ_mul k]; omega⟩)
          have HP1 : Hid (Pl.Stb (lessO ord) ((X ++ C) ++ Y') L) := Lib.hid (by have h := (Pl.Stb.append_left X (hp.append_right Y')); rw [List.append_assoc]; refine h.trans ?_; rw [List.append_assoc A]; exact HXY.out)
          have HR1 : Hid (Pl.Runs (lessO ord) (2 * s) (X ++ C)) := Lib.hid (by obtain ⟨k, hk⟩ := HXK.out; exact HRX.out.snoc hk (by rw [hp.length_eq, List.length_append, HA.out, HD.out]; omega) hs)
          have HO1 : Hid (w2.ownsRow B 159 8 (.slice (some ⟨g, 0, none⟩) n c) n ((X ++ C) ++ Y').flatten) := Lib.hid (by rw [List.append_assoc]; exact ho1)
          have HB1 := Lib.hid (HB.out.trans hb1)
          clear hp hs ho1 hb1
          go_wp2_with fail
          go_roundw
          case rel => exact ⟨q + 2 * s, X ++ C, Y', hlt2, by go_num, by go_num, Lib.hid (by rw [List.length_append]; exact HL1.out), HK1, HP1, HR1, HRY2, HO1, HB1⟩
          case measure => simp [intOf]; omega
        · skip
          have hlt3 : ¬ (q : Int) + 2 * (s : Int) ≤ (n : Int) := by omega
          by_cases hlt4 : q + s < n
          · skip
            obtain ⟨A, D, hY, hA⟩ := Pl.part_at Y s (by have := HYL.out; omega)
            subst hY
            have hD : D.length = n - q - s := by have h := HYL.out; rw [List.length_append] at h; omega
            have HA := Lib.hid hA
            have HD := Lib.hid hD
            have HSA := Lib.hid (HRY.out.first hA)
            have HRY1 := Lib.hid (HRY.out.rest hA)
            have HSD := Lib.hid (HRY1.out.all (by rw [hD]; omega))
            clear hA hD
            have hlt5 : (q : Int) + (s : Int) < (n : Int) := by omega
            have HOE : Hid (wr.ownsRow B 159 8 (.slice (some ⟨g, 0, none⟩) n c) n (X ++ (A ++ (D ++ []))).flatten) := Lib.hid (by rw [List.append_nil]; exact HO.out)
            have HPE : Hid (n = (X ++ (A ++ (D ++ []))).length ∧ Things kstand (X ++ (A ++ (D ++ [])))) := Lib.hid (by rw [List.append_nil]; exact HPX.out)
            go_wp2_with fail
            refine (symmstand B g n c K ord HN6.out HT.out HW.out (2 * s) X A D [] _ _ _ _ (by rw [HA.out, HD.out]; omega) (by rw [HXL.out]) (by rw [HXL.out, HA.out]; omega) (by rw [HXL.out, HA.out, HD.out]; omega) (by rw [HA.out]; exact hs1) (by rw [HD.out]; omega) HPE.out.1 HPE.out.2 HSA.out HSD.out HOE.out (Nat.le_trans HBW.out HB.out.size)).mono ?_
            rintro e w2 ⟨rfl, C, hp, hs, ho1, hb1⟩
            have HP1 : Hid (Pl.Stb (lessO ord) (X ++ C) L) := Lib.hid ((Pl.Stb.append_left X hp).trans HXY.out)
            have HR1 : Hid (Pl.Runs (lessO ord) (s * 2) (X ++ C)) := Lib.hid (by rw [Nat.mul_comm s 2]; obtain ⟨k, hk⟩ := HXK.out; exact HRX.out.snoc hk (by rw [hp.length_eq, List.length_append, HA.out, HD.out]; omega) hs)
            have HO1 : Hid (w2.ownsRow B 159 8 (.slice (some ⟨g, 0, none⟩) n c) n (X ++ C).flatten) := Lib.hid (by rw [List.append_nil] at ho1; exact ho1)
            have HB1 := Lib.hid (HB.out.trans hb1)
            clear hp hs ho1 hb1
            go_wp2_with fail
            go_roundw
            case rel => exact ⟨s * 2, X ++ C, by omega, by omega, by go_num, HP1, HR1, HO1, HB1⟩
            case measure => simp [intOf]; omega
          · skip
            have hlt5 : ¬ (q : Int) + (s : Int) < (n : Int) := by omega
            have HR1 : Hid (Pl.Runs (lessO ord) (s * 2) (X ++ Y)) := Lib.hid (by rw [Nat.mul_comm s 2]; obtain ⟨k, hk⟩ := HXK.out; have := HYL.out; exact HRX.out.snoc hk (by omega) (HRY.out.all (by omega)))
            go_wp2_with fail
            go_roundw
            case rel => exact ⟨s * 2, X ++ Y, by omega, by omega, by go_num, HXY, HR1, HO, HB⟩
            case measure => simp [intOf]; omega
     · have HSS := Lib.hid (HRS.out.all (by have := (HPM.out _ HPS.out).1; omega))
       go_wp2_with fail
       go_end0
       exact ⟨rfl, M, HPS.out, HSS.out, HOS.out, HBS.out⟩
set_option maxRecDepth 100000 in
theorem sortstand (B g n c K : Nat) (ord : List Value → List Value → Int) (L : List (List Value)) (w : World) (hn : n = L.length) (hn6 : n ≤ 4000) (hM : Things kstand L) (hT : TellsC kstand K ord) (hW : Pl.Weak (lessO ord)) (ho : w.ownsRow B 159 8 (.slice (some ⟨g, 0, none⟩) n c) n (L).flatten) (hB : B ≤ w.heap.size) :
 Calls Tryz.prog 100 #[.slice (some ⟨g, 0, none⟩) n c, .func (.func K) #[] #[]] w fun e w' => e = .returned (.tuple #[]) ∧ ∃ C, Pl.Stb (lessO ord) C L ∧ Pl.Srt (lessO ord) C ∧ w'.ownsRow B 159 8 (.slice (some ⟨g, 0, none⟩) n c) n (C).flatten ∧ Below B w w' := by
 have HI := Lib.hid (stabstand B g n c K ord L w hn hn6 hM hT hW ho hB)
 clear ho hn hM hT hW
 go_enter Tryz.func100, Tryz.ntmps100
 go_wp2_with fail
 refine HI.out.mono ?_
 rintro e w1 ⟨rfl, C, hp, hs, ho1, hb1⟩
 have HP := Lib.hid (And.intro hp hs)
 have HO := Lib.hid ho1
 have HB := Lib.hid hb1
 clear hp hs ho1 hb1
 go_wp2_with fail
 go_end0
 exact ⟨rfl, C, HP.out.1, HP.out.2, HO.out, HB.out⟩
end Go.Proofs.YtlkmccmbpnbgbaaGreat
