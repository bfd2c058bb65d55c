/-
  The walk of TableSorts.
-/
import Derived.Test.YtcpfhmipjpbhnaaTAwake
import Derived.Test.YtcpfhmipjpbhnaaTPlain2
import Derived.Test.YtcpfhmipjpbhnaaTStore
namespace Go.Proofs.Ytcpfhmipjpbhnaa.tableSorts
open Go.RowKit
open Pl (Up Dist putAll)

/-- Of the first i pairs no two have one name. -/
def Apart (l : List Pl.Pr) (i : Nat) : Prop := ∀ a b, (ha : a < l.length) → (hb : b < l.length) → a < b → b < i → l[a].1 ≠ l[b].1
theorem apart_dist {l : List Pl.Pr} (h : Apart l l.length) : Dist l := by
  unfold Dist
  rw [List.pairwise_iff_getElem]
  exact fun i j hi hj hij => h i j hi hj hij hj

set_option maxRecDepth 100000 in
set_option maxHeartbeats 1600000 in
theorem walk (A : Option Addr) (n c : Nat) (l : List Pl.Pr) (A1 : Option Addr) (n1 c1 : Nat) (os : List Int) (w : World) (hn : n = l.length) (_hnc : n ≤ c) (_hc : c ≤ 9223372036854775807) (hsz : n * 24 ≤ 140737488351232) (hr : Rd w w.heap.size A (pc l))
    (hn1 : n1 = os.length) (hsz1 : n1 * 8 ≤ 140737488351232) (hr1 : Rd w w.heap.size A1 (os.map (Value.int .i64))) :
    Calls Try.prog 5 #[.slice A n c, .slice A1 n1 c1] w fun e w' => e = .returned (.bool true) ∧ Below w.heap.size w w' := by
  by_cases h100 : 100 < n
  · clear hr hr1
    go_enter Try.func5, Try.ntmps5
    go_wp2_with fail
    refine (awake_any _).mono ?_
    rintro e w1 ⟨rfl, hb⟩
    go_wp2_with fail
    go_ret
    exact ⟨rfl, hb⟩
  obtain ⟨i0, hi0, hz0, hz1, hz2⟩ := info_parts infoP
  have HN := Lib.hid hn
  have HN1 := Lib.hid hn1
  have HR := Lib.hid hr
  have HR1 := Lib.hid hr1
  clear hn hn1 hr hr1
  go_enter Try.func5, Try.ntmps5
  go_wp2_with fail
  go_loopw [5] (fun ci wr => ∃ i : Nat, i ≤ n ∧ ci = .int .i64 (i : Int) ∧ Hid (Apart l i) ∧ Hid (∃ q, wr = w.drewN q)) (fun ci _ => n - (intOf ci).toNat)
  case atStart => exact ⟨0, by omega, rfl, Lib.hid (fun a b _ _ _ h => by omega), Lib.hid ⟨0, rfl⟩⟩
  case round =>
    obtain ⟨i, hi, rfl, hap, hq⟩ := hrel
    obtain ⟨q, hq⟩ := hq.out
    subst hq
    by_cases hlt : i < n
    · have hl : i < l.length := by rw [← HN.out]; exact hlt
      obtain ⟨b, off, hAe, hb, hcl⟩ := HR.out.pair hl
      have HCL := Lib.hid hcl
      clear hcl
      subst hAe
      go_wp2_with fail
      go_loopw [6] (fun ck wr => ∃ k : Nat, k ≤ i ∧ ck = .int .i64 (k : Int) ∧ Hid (∀ a, (ha : a < l.length) → a < k → l[a].1 ≠ l[i].1) ∧ Hid (∃ q, wr = w.drewN q)) (fun ck _ => i - (intOf ck).toNat)
      case atStart => exact ⟨0, by omega, rfl, Lib.hid (fun a _ h => by omega), Lib.hid ⟨q, rfl⟩⟩
      case round =>
        obtain ⟨k, hk, rfl, hap2, hq2⟩ := hrel
        obtain ⟨q2, hq2⟩ := hq2.out
        subst hq2
        by_cases hlt2 : k < i
        · have hlk : k < l.length := by omega
          have hc0 := (HCL.out k hlk).1
          have hd0 := (HCL.out i hl).1
          have hstep : l[k].1 ≠ l[i].1 → ∀ a, (ha : a < l.length) → a < k + 1 → l[a].1 ≠ l[i].1 := fun h a ha hak => by
            by_cases e : a = k
            · subst e; exact h
            · exact hap2.out a ha (by omega)
          generalize l[k].1 = s1 at hc0 hstep
          generalize l[i].1 = s2 at hd0 hstep
          have h1 : (0 : Int) ≤ (k : Int) := by omega
          have h2 : (k : Int) < (n : Int) := by omega
          have h3 : (0 : Int) ≤ (i : Int) := by omega
          have h4 : (i : Int) < (n : Int) := by omega
          by_cases he : (s1.toList == s2.toList) = true
          · clear hstep
            go_wp2_with fail
            go_quiet (fail)
            go_wp2_with fail
            refine (awake_any _).mono ?_
            rintro e w1 ⟨rfl, hbx⟩
            have HB := Lib.hid ((below_drewN (Below.refl w.heap.size w) _).trans hbx)
            clear hbx
            go_wp2_with fail
            go_ret
            exact ⟨rfl, HB.out⟩
          · have he' : (s1.toList == s2.toList) = false := by simpa using he
            have HS := Lib.hid (hstep (Pl.ne_of_eqv he'))
            clear hstep he
            go_wp2_with fail
            go_quiet (fail)
            go_wp2_with fail
            go_roundw
            case rel => exact ⟨k + 1, by omega, by go_num, HS, Lib.hid ⟨_, rfl⟩⟩
            case measure => simp [intOf]; omega
        · have HAP := Lib.hid (show Apart l (i + 1) from fun a b ha hb hab hbi => by
            by_cases e : b = i
            · subst e; exact hap2.out a ha (by omega)
            · exact hap.out a b ha hb hab (by omega))
          go_wp2_with fail
          go_roundw
          case rel => exact ⟨i + 1, by omega, by go_num, HAP, Lib.hid ⟨_, rfl⟩⟩
          case measure => simp [intOf]; omega
    · have HD := Lib.hid (show Dist l from apart_dist (fun a b ha hb hab h => hap.out a b ha hb hab (by have := HN.out; omega)))
      clear hap
      have hO1 := World.ownsRow_lit (base := w.heap.size) (e := 24) (size := 2) (w.drewN q) #[] 0 (Nat.le_refl _) (by omega) rfl
      rw [show (w.drewN q).heap.size = w.heap.size from rfl] at hO1
      have HO1 := Lib.hid hO1
      have HB1 := Lib.hid ((below_drewN (Below.refl w.heap.size w) q).alloc (Nat.le_refl _) (.cells #[] 24))
      clear hO1 hq
      go_wp2_with (at_builtin; refine wpList_app rfl (.tmp 42) (.tmp 43) _ rfl w.heap.size 24 i0 _ 2 24 Try.underlying22 hi0 hz0 hz1 hz2 rfl (by decide) _ 0 0 [] rfl HO1.out w.heap.size A n c (pc l) rfl (by rw [pc_length, HN.out.symm]) (HR.out.below HB1.out) (pc_oneCell _) (by simp only [maxLen]; omega) (by omega) (by simp) ?_; intro A2 c2 w2 hown2 hb2; simp only [Nat.zero_add, List.nil_append] at hown2; have HO2 := Lib.hid hown2; have HB2 := Lib.hid (HB1.out.trans hb2); clear hown2 hb2)
      go_loopw [8] (fun ci wr => ∃ (i : Nat) (M : List Pl.Pr), i ≤ n1 ∧ ci = .int .i64 (i : Int) ∧ Hid (M.Perm l) ∧ Hid (wr.ownsRow w.heap.size 24 2 (.slice A2 n c2) n (pc M)) ∧ Hid (Below w.heap.size w wr)) (fun ci _ => n1 - (intOf ci).toNat)
      case atStart => exact ⟨0, l, by omega, rfl, Lib.hid (List.Perm.refl _), HO2, HB2⟩
      case round =>
        clear HO2 HB2 hi hlt
        obtain ⟨i, M, hi, rfl, hpm, hown, hbel⟩ := hrel
        by_cases hlt : i < n1 ∧ 0 < n
        · obtain ⟨hlt, hpos⟩ := hlt
          have hMl : n = M.length := HN.out.trans hpm.out.length_eq.symm
          obtain ⟨g, rfl⟩ := own_some hown.out hpos
          have hgb := own_base hown.out g rfl
          obtain ⟨b1, off1, hA1, hb1, hcl1⟩ := HR1.out (by rw [List.length_map, ← HN1.out]; omega)
          have hil : i < os.length := by rw [← HN1.out]; exact hlt
          have hco := (hbel.out.cell (p := ⟨b1, off1 + i, none⟩) hb1).trans (hcl1 i (.int .i64 os[i]) (by rw [List.getElem?_map, List.getElem?_eq_getElem hil]; rfl))
          clear hcl1
          have HMl := Lib.hid hMl
          clear hMl
          generalize os[i] = ov at hco
          subst hA1
          have h1 : (0 : Int) ≤ (i : Int) := by omega
          have h2 : (i : Int) < (n1 : Int) := by omega
          have hnI : (0 : Int) < (n : Int) := by omega
          obtain ⟨t, ht⟩ : ∃ t, ov.tmod (n : Int) = t := ⟨_, rfl⟩
          have ht1 : t < (n : Int) := by rw [← ht]; exact Int.tmod_lt_of_pos _ hnI
          have ht2 : -(n : Int) < t := by
            have := Int.lt_tmod_of_pos ov hnI
            rw [← ht]; omega
          obtain ⟨jn, hj⟩ := Int.eq_ofNat_of_zero_le (Int.emod_nonneg (t + (n : Int)) (by omega : (n : Int) ≠ 0))
          have hjn : jn < n := by have := Int.emod_lt_of_pos (t + (n : Int)) hnI; omega
          obtain ⟨kn, hk⟩ := Int.eq_ofNat_of_zero_le (Int.emod_nonneg (i : Int) (by omega : (n : Int) ≠ 0))
          have hkn : kn < n := by have := Int.emod_lt_of_pos (i : Int) hnI; omega
          have hk2 : i % n = kn := by omega
          have h3 : (0 : Int) ≤ (kn : Int) := by omega
          have h4 : (kn : Int) < (n : Int) := by omega
          have h5 : (0 : Int) ≤ (jn : Int) := by omega
          have h6 : (jn : Int) < (n : Int) := by omega
          have hkM : kn < M.length := by rw [← HMl.out]; exact hkn
          have hjM : jn < M.length := by rw [← HMl.out]; exact hjn
          have hck0 := (hown.out.cellAt (kn * 2) (by omega)).trans (pc_at0 M kn hkM)
          have hck1 := (hown.out.cellAt (kn * 2 + 1) (by omega)).trans (pc_at1 M kn hkM)
          have hcj0 := (hown.out.cellAt (jn * 2) (by omega)).trans (pc_at0 M jn hjM)
          have hcj1 := (hown.out.cellAt (jn * 2 + 1) (by omega)).trans (pc_at1 M jn hjM)
          have hsw := Pl.swap_perm M kn jn hkM hjM
          generalize M[kn] = p at hck0 hck1 hsw
          generalize M[jn] = r at hcj0 hcj1 hsw
          obtain ⟨s1, z1⟩ := p
          obtain ⟨s2, z2⟩ := r
          have HSW := Lib.hid (hsw.trans hpm.out)
          have hsz1 := hbel.out.size
          have HOw := Lib.hid (hown.out.alloc (.cells #[.string s1, .int .i64 z1] 24))
          have HBw := Lib.hid (hbel.out.alloc hbel.out.size (.cells #[.string s1, .int .i64 z1] 24))
          have hgl : g < wr.heap.size := by have := hown.out; rcases this.2 with ⟨h, _⟩ | ⟨g', cap', cur, h, _, hh, _⟩; { cases h }; { injection h with h _ _; injection h with h; injection h with h; subst h; exact lt_of_block hh }
          have hx0 : (wr.alloc (.cells #[.string s1, .int .i64 z1] 24)).cell? ⟨wr.heap.size, 0, none⟩ = some (.string s1) := by simp [go_sem]
          have hx1 : (wr.alloc (.cells #[.string s1, .int .i64 z1] 24)).cell? ⟨wr.heap.size, 1, none⟩ = some (.int .i64 z1) := by simp [go_sem]
          have HX0 := Lib.hid hx0
          have HX1 := Lib.hid hx1
          clear hsw hown hbel hx0 hx1
          go_wp2_with (first
            | ((with_reducible refine wpList_store_pair rfl (.tmp 83) (.tmp 82) rfl w.heap.size g n c2 kn M s2 z2 rfl rfl HOw.out hgb HMl.out hkn ?_); intro w4 hown4 hb4 hfar4; have HO4 := Lib.hid hown4; have HB4 := Lib.hid (HBw.out.trans hb4); have hq0 := (hfar4 wr.heap.size 0 (by omega)).trans HX0.out; have hq1 := (hfar4 wr.heap.size 1 (by omega)).trans HX1.out; clear hown4 hb4 hfar4)
            | ((with_reducible refine wpList_store_pair rfl (.tmp 87) (.tmp 86) rfl w.heap.size g n c2 jn (M.set kn (s2, z2)) s1 z1 rfl rfl HO4.out hgb (by rw [List.length_set]; exact HMl.out) hjn ?_); intro w5 hown5 hb5 hfar5; have HO5 := Lib.hid hown5; have HB5 := Lib.hid (HB4.out.trans hb5); clear hown5 hb5 hfar5))
          go_roundw
          case rel => exact ⟨i + 1, _, by omega, by go_num, HSW, HO5, HB5⟩
          case measure => simp [intOf]; omega
        · have hcase : i < n1 ∨ ¬ i < n1 := by omega
          have hRM := Rd.of_own hown.out
          have HRM := Lib.hid hRM
          have HPM := Lib.hid (Pl.putAll_same HD.out hpm.out)
          have HML := Lib.hid (show M.length = l.length from hpm.out.length_eq)
          have HB := hbel
          clear hown hRM hbel hpm
          generalize wr = W3 at *
          rcases hcase with h1 | h1
          · have h2 : ¬ 0 < n := fun h => hlt ⟨h1, h⟩
            clear hlt
            go_wp2_with fail
            go_loopw [12, 13, 14] (fun va vb ci wq => ∃ (i na ca nb cb : Nat) (Aa Ab : Option Addr), i ≤ n ∧ ci = .int .i64 (i : Int) ∧ na ≤ i ∧ nb ≤ i ∧ va = .slice Aa na ca ∧ vb = .slice Ab nb cb ∧ na ≤ ca ∧ ca ≤ 9223372036854775807 ∧ nb ≤ cb ∧ cb ≤ 9223372036854775807 ∧
                Hid (na = (putAll (l.take i)).length) ∧ Hid (nb = (putAll (M.take i)).length) ∧ Hid (Rd wq wq.heap.size Aa (pc (putAll (l.take i)))) ∧ Hid (Rd wq wq.heap.size Ab (pc (putAll (M.take i)))) ∧ Hid (Below W3.heap.size W3 wq)) (fun _ _ ci _ => n - (intOf ci).toNat)
            case atStart => exact ⟨0, 0, 0, 0, 0, none, none, by omega, rfl, by omega, by omega, rfl, rfl, by omega, by omega, by omega, by omega, Lib.hid rfl, Lib.hid rfl, Lib.hid Rd.none_, Lib.hid Rd.none_, Lib.hid (Below.refl _ _)⟩
            case round =>
              clear hi h1
              obtain ⟨i, na, ca, nb, cb, Aa, Ab, hi, rfl, hna, hnb, rfl, rfl, hca, hma, hcb, hmb, HNa, HNb, RA, RB, H⟩ := hrel
              by_cases hlt : i < n
              · have hl : i < l.length := by rw [← HN.out]; exact hlt
                have hM : i < M.length := by rw [HML.out]; exact hl
                obtain ⟨b, off, hAe, hb, hcl⟩ := HR.out.pair hl
                obtain ⟨b2, off2, hAe2, hb2, hcl2⟩ := HRM.out.pair hM
                have hlb : b < W3.heap.size := by have := HB.out.size; omega
                have hlb2 : b2 < W3.heap.size := hb2
                have hc0 := (HB.out.cell (p := ⟨b, off + i * 2, none⟩) hb).trans (hcl i hl).1
                have hc1 := (HB.out.cell (p := ⟨b, off + i * 2 + 1, none⟩) hb).trans (hcl i hl).2
                have hd0 := (hcl2 i hM).1
                have hd1 := (hcl2 i hM).2
                have hs1 := Pl.putAll_succ l i hl
                have hs2 := Pl.putAll_succ M i hM
                clear hcl hcl2
                generalize l[i] = p at hc0 hc1 hs1
                generalize M[i] = r at hd0 hd1 hs2
                obtain ⟨s1, z1⟩ := p
                obtain ⟨s2, z2⟩ := r
                have HCb0 := Lib.hid hc0
                have HCb1 := Lib.hid hc1
                have HCb20 := Lib.hid hd0
                have HCb21 := Lib.hid hd1
                have HS1 := Lib.hid hs1
                have HS2 := Lib.hid hs2
                have hLa := Pl.putAll_le (l.take (i + 1))
                have hLb := Pl.putAll_le (M.take (i + 1))
                rw [List.length_take] at hLa hLb
                have HLa := Lib.hid hLa
                have HLb := Lib.hid hLb
                have h3 : (0 : Int) ≤ (i : Int) := by omega
                have h4 : (i : Int) < (n : Int) := by omega
                clear hc0 hc1 hd0 hd1 hs1 hs2 hLa hLb
                subst hAe
                subst hAe2
                have hq0 := (H.out.cell (p := ⟨b, off + i * 2, none⟩) hlb).trans HCb0.out
                have hq1 := (H.out.cell (p := ⟨b, off + i * 2 + 1, none⟩) hlb).trans HCb1.out
                go_wp2_with fail
                go_region_held3 (fun w' => w'.cell? ⟨b, off + i * 2, none⟩ = some (.string s1) ∧ w'.cell? ⟨b, off + i * 2 + 1, none⟩ = some (.int .i64 z1))
                  (first
                    | go_keep
                    | (exact ⟨(H.out.cell (p := ⟨b, off + i * 2, none⟩) hlb).trans HCb0.out, (H.out.cell (p := ⟨b, off + i * 2 + 1, none⟩) hlb).trans HCb1.out⟩))
                  (first
                    | (go_at_call 9; (with_reducible refine (pairs_any _).mono ?_); rintro e wp ⟨rfl, hbx⟩; have H := Lib.hid (show Below W3.heap.size W3 wp from by first | exact H.out.trans (hbx.mono H.out.size) | exact H.out.drew.trans (hbx.mono H.out.drew.size)); have RA := Lib.hid (show Rd wp wp.heap.size _ _ from by first | exact (RA.out.below hbx).mono hbx.size | exact (RA.out.below ((World.drew_below _).trans hbx)).mono hbx.size); have RB := Lib.hid (show Rd wp wp.heap.size _ _ from by first | exact (RB.out.below hbx).mono hbx.size | exact (RB.out.below ((World.drew_below _).trans hbx)).mono hbx.size); clear hbx)
                    | (go_at_call 12; (with_reducible refine (put_any Aa na ca s1 z1 (putAll (l.take i)) _ HNa.out hca hma (by omega) (by first | exact RA.out | exact (RA.out.below (World.drew_below _)))).mono ?_); rintro e wz ⟨Ax, nx, cx, hnz, rfl, hown, hbx⟩; have H := Lib.hid (show Below W3.heap.size W3 wz from by first | exact H.out.trans (hbx.mono H.out.size) | exact H.out.drew.trans (hbx.mono H.out.drew.size)); have RA := Lib.hid (show Rd wz wz.heap.size _ _ from by first | exact (RA.out.below hbx).mono hbx.size | exact (RA.out.below ((World.drew_below _).trans hbx)).mono hbx.size); have RB := Lib.hid (show Rd wz wz.heap.size _ _ from by first | exact (RB.out.below hbx).mono hbx.size | exact (RB.out.below ((World.drew_below _).trans hbx)).mono hbx.size); have HNxc := own_cap hown; have HNxm := own_max hown; have RA := Lib.hid (Rd.of_own hown); have HNx := Lib.hid hnz; clear hbx hown hnz))
                clear hq0 hq1
                have hq0 := (H.out.cell (p := ⟨b2, off2 + i * 2, none⟩) hlb2).trans HCb20.out
                have hq1 := (H.out.cell (p := ⟨b2, off2 + i * 2 + 1, none⟩) hlb2).trans HCb21.out
                go_wp2_with fail
                go_region_held3 (fun w' => w'.cell? ⟨b2, off2 + i * 2, none⟩ = some (.string s2) ∧ w'.cell? ⟨b2, off2 + i * 2 + 1, none⟩ = some (.int .i64 z2))
                  (first
                    | go_keep
                    | (exact ⟨(H.out.cell (p := ⟨b2, off2 + i * 2, none⟩) hlb2).trans HCb20.out, (H.out.cell (p := ⟨b2, off2 + i * 2 + 1, none⟩) hlb2).trans HCb21.out⟩))
                  (first
                    | (go_at_call 9; (with_reducible refine (pairs_any _).mono ?_); rintro e wp ⟨rfl, hbx⟩; have H := Lib.hid (show Below W3.heap.size W3 wp from by first | exact H.out.trans (hbx.mono H.out.size) | exact H.out.drew.trans (hbx.mono H.out.drew.size)); have RA := Lib.hid (show Rd wp wp.heap.size _ _ from by first | exact (RA.out.below hbx).mono hbx.size | exact (RA.out.below ((World.drew_below _).trans hbx)).mono hbx.size); have RB := Lib.hid (show Rd wp wp.heap.size _ _ from by first | exact (RB.out.below hbx).mono hbx.size | exact (RB.out.below ((World.drew_below _).trans hbx)).mono hbx.size); clear hbx)
                    | (go_at_call 12; (with_reducible refine (put_any Ab nb cb s2 z2 (putAll (M.take i)) _ HNb.out hcb hmb (by omega) (by first | exact RB.out | exact (RB.out.below (World.drew_below _)))).mono ?_); rintro e wz ⟨Ay, ny, cy, hnz, rfl, hown, hbx⟩; have H := Lib.hid (show Below W3.heap.size W3 wz from by first | exact H.out.trans (hbx.mono H.out.size) | exact H.out.drew.trans (hbx.mono H.out.drew.size)); have RA := Lib.hid (show Rd wz wz.heap.size _ _ from by first | exact (RA.out.below hbx).mono hbx.size | exact (RA.out.below ((World.drew_below _).trans hbx)).mono hbx.size); have RB := Lib.hid (show Rd wz wz.heap.size _ _ from by first | exact (RB.out.below hbx).mono hbx.size | exact (RB.out.below ((World.drew_below _).trans hbx)).mono hbx.size); have HNyc := own_cap hown; have HNym := own_max hown; have RB := Lib.hid (Rd.of_own hown); have HNy := Lib.hid hnz; clear hbx hown hnz))
                clear hq0 hq1
                have hNx : nx ≤ i + 1 := by have h := HLa.out; rw [HS1.out, ← HNx.out] at h; omega
                have hNy : ny ≤ i + 1 := by have h := HLb.out; rw [HS2.out, ← HNy.out] at h; omega
                have HNx' := Lib.hid (show nx = (putAll (l.take (i + 1))).length from by rw [HS1.out]; exact HNx.out)
                have HNy' := Lib.hid (show ny = (putAll (M.take (i + 1))).length from by rw [HS2.out]; exact HNy.out)
                have RA' := Lib.hid (show Rd wz wz.heap.size Ax (pc (putAll (l.take (i + 1)))) from by rw [HS1.out]; exact RA.out)
                have RB' := Lib.hid (show Rd wz wz.heap.size Ay (pc (putAll (M.take (i + 1)))) from by rw [HS2.out]; exact RB.out)
                go_wp2_with fail
                go_roundw
                case rel => exact ⟨i + 1, nx, cx, ny, cy, Ax, Ay, by omega, by go_num, hNx, hNy, rfl, rfl, HNxc, HNxm, HNyc, HNym, HNx', HNy', RA', RB', H⟩
                case measure => simp [intOf]; omega
              · have hin : i = l.length := by have := HN.out; omega
                rw [hin, List.take_length] at HNa RA
                rw [hin, ← HML.out, List.take_length, HPM.out] at HNb RB
                have e1 : nb = na := HNb.out.trans HNa.out.symm
                have e2 : na = n := by rw [HNa.out, Pl.putAll_len HD.out, HN.out]
                clear hin
                subst e1
                subst e2
                go_wp2_with fail
                refine (same_ex Aa Ab _ ca cb (putAll l) _ HNa.out (by omega) RA.out RB.out).mono ?_
                rintro e w7 ⟨rfl, hbx⟩
                have H := Lib.hid (H.out.trans (hbx.mono H.out.size))
                clear hbx
                go_wp2_with fail
                refine (awake_any _).mono ?_
                rintro e w8 ⟨rfl, hbx⟩
                have H := Lib.hid (H.out.trans (hbx.mono H.out.size))
                clear hbx
                go_wp2_with fail
                go_ret
                exact ⟨rfl, HB.out.trans (H.out.mono HB.out.size)⟩
          · clear hlt
            go_wp2_with fail
            go_loopw [12, 13, 14] (fun va vb ci wq => ∃ (i na ca nb cb : Nat) (Aa Ab : Option Addr), i ≤ n ∧ ci = .int .i64 (i : Int) ∧ na ≤ i ∧ nb ≤ i ∧ va = .slice Aa na ca ∧ vb = .slice Ab nb cb ∧ na ≤ ca ∧ ca ≤ 9223372036854775807 ∧ nb ≤ cb ∧ cb ≤ 9223372036854775807 ∧
                Hid (na = (putAll (l.take i)).length) ∧ Hid (nb = (putAll (M.take i)).length) ∧ Hid (Rd wq wq.heap.size Aa (pc (putAll (l.take i)))) ∧ Hid (Rd wq wq.heap.size Ab (pc (putAll (M.take i)))) ∧ Hid (Below W3.heap.size W3 wq)) (fun _ _ ci _ => n - (intOf ci).toNat)
            case atStart => exact ⟨0, 0, 0, 0, 0, none, none, by omega, rfl, by omega, by omega, rfl, rfl, by omega, by omega, by omega, by omega, Lib.hid rfl, Lib.hid rfl, Lib.hid Rd.none_, Lib.hid Rd.none_, Lib.hid (Below.refl _ _)⟩
            case round =>
              clear hi h1
              obtain ⟨i, na, ca, nb, cb, Aa, Ab, hi, rfl, hna, hnb, rfl, rfl, hca, hma, hcb, hmb, HNa, HNb, RA, RB, H⟩ := hrel
              by_cases hlt : i < n
              · have hl : i < l.length := by rw [← HN.out]; exact hlt
                have hM : i < M.length := by rw [HML.out]; exact hl
                obtain ⟨b, off, hAe, hb, hcl⟩ := HR.out.pair hl
                obtain ⟨b2, off2, hAe2, hb2, hcl2⟩ := HRM.out.pair hM
                have hlb : b < W3.heap.size := by have := HB.out.size; omega
                have hlb2 : b2 < W3.heap.size := hb2
                have hc0 := (HB.out.cell (p := ⟨b, off + i * 2, none⟩) hb).trans (hcl i hl).1
                have hc1 := (HB.out.cell (p := ⟨b, off + i * 2 + 1, none⟩) hb).trans (hcl i hl).2
                have hd0 := (hcl2 i hM).1
                have hd1 := (hcl2 i hM).2
                have hs1 := Pl.putAll_succ l i hl
                have hs2 := Pl.putAll_succ M i hM
                clear hcl hcl2
                generalize l[i] = p at hc0 hc1 hs1
                generalize M[i] = r at hd0 hd1 hs2
                obtain ⟨s1, z1⟩ := p
                obtain ⟨s2, z2⟩ := r
                have HCb0 := Lib.hid hc0
                have HCb1 := Lib.hid hc1
                have HCb20 := Lib.hid hd0
                have HCb21 := Lib.hid hd1
                have HS1 := Lib.hid hs1
                have HS2 := Lib.hid hs2
                have hLa := Pl.putAll_le (l.take (i + 1))
                have hLb := Pl.putAll_le (M.take (i + 1))
                rw [List.length_take] at hLa hLb
                have HLa := Lib.hid hLa
                have HLb := Lib.hid hLb
                have h3 : (0 : Int) ≤ (i : Int) := by omega
                have h4 : (i : Int) < (n : Int) := by omega
                clear hc0 hc1 hd0 hd1 hs1 hs2 hLa hLb
                subst hAe
                subst hAe2
                have hq0 := (H.out.cell (p := ⟨b, off + i * 2, none⟩) hlb).trans HCb0.out
                have hq1 := (H.out.cell (p := ⟨b, off + i * 2 + 1, none⟩) hlb).trans HCb1.out
                go_wp2_with fail
                go_region_held3 (fun w' => w'.cell? ⟨b, off + i * 2, none⟩ = some (.string s1) ∧ w'.cell? ⟨b, off + i * 2 + 1, none⟩ = some (.int .i64 z1))
                  (first
                    | go_keep
                    | (exact ⟨(H.out.cell (p := ⟨b, off + i * 2, none⟩) hlb).trans HCb0.out, (H.out.cell (p := ⟨b, off + i * 2 + 1, none⟩) hlb).trans HCb1.out⟩))
                  (first
                    | (go_at_call 9; (with_reducible refine (pairs_any _).mono ?_); rintro e wp ⟨rfl, hbx⟩; have H := Lib.hid (show Below W3.heap.size W3 wp from by first | exact H.out.trans (hbx.mono H.out.size) | exact H.out.drew.trans (hbx.mono H.out.drew.size)); have RA := Lib.hid (show Rd wp wp.heap.size _ _ from by first | exact (RA.out.below hbx).mono hbx.size | exact (RA.out.below ((World.drew_below _).trans hbx)).mono hbx.size); have RB := Lib.hid (show Rd wp wp.heap.size _ _ from by first | exact (RB.out.below hbx).mono hbx.size | exact (RB.out.below ((World.drew_below _).trans hbx)).mono hbx.size); clear hbx)
                    | (go_at_call 12; (with_reducible refine (put_any Aa na ca s1 z1 (putAll (l.take i)) _ HNa.out hca hma (by omega) (by first | exact RA.out | exact (RA.out.below (World.drew_below _)))).mono ?_); rintro e wz ⟨Ax, nx, cx, hnz, rfl, hown, hbx⟩; have H := Lib.hid (show Below W3.heap.size W3 wz from by first | exact H.out.trans (hbx.mono H.out.size) | exact H.out.drew.trans (hbx.mono H.out.drew.size)); have RA := Lib.hid (show Rd wz wz.heap.size _ _ from by first | exact (RA.out.below hbx).mono hbx.size | exact (RA.out.below ((World.drew_below _).trans hbx)).mono hbx.size); have RB := Lib.hid (show Rd wz wz.heap.size _ _ from by first | exact (RB.out.below hbx).mono hbx.size | exact (RB.out.below ((World.drew_below _).trans hbx)).mono hbx.size); have HNxc := own_cap hown; have HNxm := own_max hown; have RA := Lib.hid (Rd.of_own hown); have HNx := Lib.hid hnz; clear hbx hown hnz))
                clear hq0 hq1
                have hq0 := (H.out.cell (p := ⟨b2, off2 + i * 2, none⟩) hlb2).trans HCb20.out
                have hq1 := (H.out.cell (p := ⟨b2, off2 + i * 2 + 1, none⟩) hlb2).trans HCb21.out
                go_wp2_with fail
                go_region_held3 (fun w' => w'.cell? ⟨b2, off2 + i * 2, none⟩ = some (.string s2) ∧ w'.cell? ⟨b2, off2 + i * 2 + 1, none⟩ = some (.int .i64 z2))
                  (first
                    | go_keep
                    | (exact ⟨(H.out.cell (p := ⟨b2, off2 + i * 2, none⟩) hlb2).trans HCb20.out, (H.out.cell (p := ⟨b2, off2 + i * 2 + 1, none⟩) hlb2).trans HCb21.out⟩))
                  (first
                    | (go_at_call 9; (with_reducible refine (pairs_any _).mono ?_); rintro e wp ⟨rfl, hbx⟩; have H := Lib.hid (show Below W3.heap.size W3 wp from by first | exact H.out.trans (hbx.mono H.out.size) | exact H.out.drew.trans (hbx.mono H.out.drew.size)); have RA := Lib.hid (show Rd wp wp.heap.size _ _ from by first | exact (RA.out.below hbx).mono hbx.size | exact (RA.out.below ((World.drew_below _).trans hbx)).mono hbx.size); have RB := Lib.hid (show Rd wp wp.heap.size _ _ from by first | exact (RB.out.below hbx).mono hbx.size | exact (RB.out.below ((World.drew_below _).trans hbx)).mono hbx.size); clear hbx)
                    | (go_at_call 12; (with_reducible refine (put_any Ab nb cb s2 z2 (putAll (M.take i)) _ HNb.out hcb hmb (by omega) (by first | exact RB.out | exact (RB.out.below (World.drew_below _)))).mono ?_); rintro e wz ⟨Ay, ny, cy, hnz, rfl, hown, hbx⟩; have H := Lib.hid (show Below W3.heap.size W3 wz from by first | exact H.out.trans (hbx.mono H.out.size) | exact H.out.drew.trans (hbx.mono H.out.drew.size)); have RA := Lib.hid (show Rd wz wz.heap.size _ _ from by first | exact (RA.out.below hbx).mono hbx.size | exact (RA.out.below ((World.drew_below _).trans hbx)).mono hbx.size); have RB := Lib.hid (show Rd wz wz.heap.size _ _ from by first | exact (RB.out.below hbx).mono hbx.size | exact (RB.out.below ((World.drew_below _).trans hbx)).mono hbx.size); have HNyc := own_cap hown; have HNym := own_max hown; have RB := Lib.hid (Rd.of_own hown); have HNy := Lib.hid hnz; clear hbx hown hnz))
                clear hq0 hq1
                have hNx : nx ≤ i + 1 := by have h := HLa.out; rw [HS1.out, ← HNx.out] at h; omega
                have hNy : ny ≤ i + 1 := by have h := HLb.out; rw [HS2.out, ← HNy.out] at h; omega
                have HNx' := Lib.hid (show nx = (putAll (l.take (i + 1))).length from by rw [HS1.out]; exact HNx.out)
                have HNy' := Lib.hid (show ny = (putAll (M.take (i + 1))).length from by rw [HS2.out]; exact HNy.out)
                have RA' := Lib.hid (show Rd wz wz.heap.size Ax (pc (putAll (l.take (i + 1)))) from by rw [HS1.out]; exact RA.out)
                have RB' := Lib.hid (show Rd wz wz.heap.size Ay (pc (putAll (M.take (i + 1)))) from by rw [HS2.out]; exact RB.out)
                go_wp2_with fail
                go_roundw
                case rel => exact ⟨i + 1, nx, cx, ny, cy, Ax, Ay, by omega, by go_num, hNx, hNy, rfl, rfl, HNxc, HNxm, HNyc, HNym, HNx', HNy', RA', RB', H⟩
                case measure => simp [intOf]; omega
              · have hin : i = l.length := by have := HN.out; omega
                rw [hin, List.take_length] at HNa RA
                rw [hin, ← HML.out, List.take_length, HPM.out] at HNb RB
                have e1 : nb = na := HNb.out.trans HNa.out.symm
                have e2 : na = n := by rw [HNa.out, Pl.putAll_len HD.out, HN.out]
                clear hin
                subst e1
                subst e2
                go_wp2_with fail
                refine (same_ex Aa Ab _ ca cb (putAll l) _ HNa.out (by omega) RA.out RB.out).mono ?_
                rintro e w7 ⟨rfl, hbx⟩
                have H := Lib.hid (H.out.trans (hbx.mono H.out.size))
                clear hbx
                go_wp2_with fail
                refine (awake_any _).mono ?_
                rintro e w8 ⟨rfl, hbx⟩
                have H := Lib.hid (H.out.trans (hbx.mono H.out.size))
                clear hbx
                go_wp2_with fail
                go_ret
                exact ⟨rfl, HB.out.trans (H.out.mono HB.out.size)⟩
end Go.Proofs.Ytcpfhmipjpbhnaa.tableSorts
