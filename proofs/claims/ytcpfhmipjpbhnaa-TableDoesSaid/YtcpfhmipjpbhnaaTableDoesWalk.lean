/-
  The walk of TableDoes.
-/
import Derived.Test.YtcpfhmipjpbhnaaTDoes
namespace Go.Proofs.Ytcpfhmipjpbhnaa.tableDoes
open Go.RowKit

abbrev beh : ByteArray := ⟨#[98, 101, 104, 105, 110, 100]⟩

set_option maxRecDepth 100000 in
set_option maxHeartbeats 3200000 in
theorem walk (A : Option Addr) (n c : Nat) (l : List Pl.Pr) (xs : ByteArray) (xn : Int) (w : World) (hn : n = l.length) (_hnc : n ≤ c) (_hc : c ≤ 9223372036854775807) (hsz : n * 24 ≤ 140737488351232) (hr : Rd w w.heap.size A (pc l)) :
    Calls Try.prog 3 #[.slice A n c, pv xs xn] w fun e w' => e = .returned (.bool true) ∧ Below w.heap.size w w' := by
  obtain ⟨i0, hi0, hz0, hz1, hz2⟩ := info_parts infoP
  have hn63 : n ≤ 140737488355328 := by omega
  have hsz1 : (n + 1) * 24 ≤ 140737488355328 := by omega
  have hsz0 : n * 24 ≤ 140737488355328 := by omega
  have HN := Lib.hid hn
  have HR := Lib.hid hr
  have hB1 : Below w.heap.size w ((w.alloc (.cells #[.string xs, .int .i64 xn] 24)).alloc (.cells #[] 24)) := ((Below.refl _ w).alloc (Nat.le_refl _) _).alloc (by simp) _
  have HB1 := Lib.hid hB1
  have hO1 := World.ownsRow_lit (base := w.heap.size + 1) (e := 24) (size := 2) (w.alloc (.cells #[.string xs, .int .i64 xn] 24)) #[] 0 (by simp) (by omega) rfl
  rw [show (w.alloc (.cells #[.string xs, .int .i64 xn] 24)).heap.size = w.heap.size + 1 from by simp] at hO1
  have HO1 := Lib.hid hO1
  clear hn hr hB1 hO1
  go_enter Try.func3, Try.ntmps3
  go_wp2_with (first
    | (at_builtin; refine wpList_app rfl (.tmp 23) (.tmp 25) _ rfl (w.heap.size + 1) 24 i0 _ 2 24 Try.underlying22 hi0 hz0 hz1 hz2 rfl (by decide) A2 n c2 _ rfl (HO2.out.alloc _) (w2.heap.size + 1) (some ⟨w2.heap.size, 0, none⟩) 1 1 (pc [(beh, 0)]) rfl rfl (Rd.one w2 beh 0 _) (pc_oneCell _) (by simp only [maxLen]; omega) (by omega) (by simp; omega) ?_; intro A3 c3 w3 hown3 hb3; have hcap3 := own_cap hown3; have hmax3 := own_max hown3; have HO3 := Lib.hid hown3; have HB3 := Lib.hid ((HB2.out.alloc (by omega) (.cells #[.string beh, .int .i64 0] 24)).trans hb3); clear hown3 hb3)
    | (at_builtin; refine wpList_app rfl (.tmp 20) (.tmp 21) _ rfl (w.heap.size + 1) 24 i0 _ 2 24 Try.underlying22 hi0 hz0 hz1 hz2 rfl (by decide) _ 0 0 [] rfl HO1.out w.heap.size A n c (pc l) rfl (by rw [pc_length, HN.out.symm]) (HR.out.below HB1.out) (pc_oneCell _) (by simp only [maxLen]; omega) (by omega) (by simp) ?_; intro A2 c2 w2 hown2 hb2; simp only [Nat.zero_add, List.nil_append] at hown2; have HO2 := Lib.hid hown2; have HB2 := Lib.hid hb2; have hs2 : w.heap.size + 2 ≤ w2.heap.size := (by have := hb2.size; simpa using this); clear hown2 hb2))
  have hs3 : w.heap.size + 2 ≤ w3.heap.size := by have := HB3.out.size; simpa using this
  have hK3 : Below (w.heap.size + 1) ((w.alloc (.cells #[.string xs, .int .i64 xn] 24)).alloc (.cells #[] 24)) w3 := HB3.out
  have hB3 : Below w.heap.size w w3 := HB1.out.trans (hK3.mono (by omega))
  have HA := Lib.hid (show ∀ W, Below w3.heap.size w3 W → Rd W W.heap.size A (pc l) from fun W h => (HR.out.below (hB3.trans (h.mono (by omega)))).mono ((hB3.trans (h.mono (by omega))).size))
  have HRO := Lib.hid (show ∀ W, Below w3.heap.size w3 W → Rd W W.heap.size A3 (pc l ++ pc [(beh, 0)]) from fun W h => ((Rd.of_own HO3.out).below h).mono h.size)
  have HOW := Lib.hid (show ∀ W, Below w3.heap.size w3 W → Rd W W.heap.size A3 (pc l) from fun W h => (HRO.out W h).take)
  have HC0 := Lib.hid (show w3.cell? ⟨w.heap.size, 0, none⟩ = some (.string xs) from (hK3.cell (p := ⟨w.heap.size, 0, none⟩) (by simp)).trans (by simp [go_sem]))
  have HC1 := Lib.hid (show w3.cell? ⟨w.heap.size, 1, none⟩ = some (.int .i64 xn) from (hK3.cell (p := ⟨w.heap.size, 1, none⟩) (by simp)).trans (by simp [go_sem]))
  have H := Lib.hid (Below.refl w3.heap.size w3)
  have HB0 := Lib.hid hB3
  have hnc3 : n ≤ c3 := by omega
  clear hK3 hB3
  have hq0 := (H.out.cell (p := ⟨w.heap.size, 0, none⟩) (by simp; omega)).trans HC0.out
  have hq1 := (H.out.cell (p := ⟨w.heap.size, 1, none⟩) (by simp; omega)).trans HC1.out
  go_region_held3 (fun w' => w'.cell? ⟨w.heap.size, 0, none⟩ = some (.string xs) ∧ w'.cell? ⟨w.heap.size, 1, none⟩ = some (.int .i64 xn))
    (first
      | go_keep
      | (exact ⟨(H.out.cell (p := ⟨w.heap.size, 0, none⟩) (by simp; omega)).trans HC0.out, (H.out.cell (p := ⟨w.heap.size, 1, none⟩) (by simp; omega)).trans HC1.out⟩))
    (first
      | (go_at_call 9; (with_reducible refine (pairs_any _).mono ?_); rintro e wp ⟨rfl, hb⟩; have H := Lib.hid (show Below w3.heap.size w3 wp from by first | exact H.out.trans (hb.mono H.out.size) | exact H.out.drew.trans (hb.mono H.out.size) | exact H.out.drew.drew.trans (hb.mono H.out.size)); clear hb)
      | (go_at_call 10; (with_reducible refine (find_any A3 n c3 xs xn l _ HN.out hn63 (by exact HOW.out _ (by first | exact H.out | exact H.out.drew | exact H.out.drew.drew))).mono ?_); rintro e w4 ⟨rfl, hb⟩; have H := Lib.hid (show Below w3.heap.size w3 w4 from by first | exact H.out.trans (hb.mono H.out.size) | exact H.out.drew.trans (hb.mono H.out.size) | exact H.out.drew.drew.trans (hb.mono H.out.size)); clear hb))
  clear hq0 hq1
  have hq0 := (H.out.cell (p := ⟨w.heap.size, 0, none⟩) (by simp; omega)).trans HC0.out
  have hq1 := (H.out.cell (p := ⟨w.heap.size, 1, none⟩) (by simp; omega)).trans HC1.out
  go_wp2_with fail
  refine (refFind_any A n c xs xn l _ HN.out hn63 (HA.out _ H.out)).mono ?_
  rintro e w5 ⟨rfl, hb⟩
  have H := Lib.hid (show Below w3.heap.size w3 w5 from by first | exact H.out.trans (hb.mono H.out.size) | exact H.out.drew.trans (hb.mono H.out.size) | exact H.out.drew.drew.trans (hb.mono H.out.size))
  clear hb hq0 hq1
  have hq0 := (H.out.cell (p := ⟨w.heap.size, 0, none⟩) (by simp; omega)).trans HC0.out
  have hq1 := (H.out.cell (p := ⟨w.heap.size, 1, none⟩) (by simp; omega)).trans HC1.out
  go_wp2_with fail
  go_region_held3 (fun w' => w'.cell? ⟨w.heap.size, 0, none⟩ = some (.string xs) ∧ w'.cell? ⟨w.heap.size, 1, none⟩ = some (.int .i64 xn))
    (first
      | go_keep
      | (exact ⟨(H.out.cell (p := ⟨w.heap.size, 0, none⟩) (by simp; omega)).trans HC0.out, (H.out.cell (p := ⟨w.heap.size, 1, none⟩) (by simp; omega)).trans HC1.out⟩))
    (first
      | (go_at_call 9; (with_reducible refine (pairs_any _).mono ?_); rintro e wp ⟨rfl, hb⟩; have H := Lib.hid (show Below w3.heap.size w3 wp from by first | exact H.out.trans (hb.mono H.out.size) | exact H.out.drew.trans (hb.mono H.out.size) | exact H.out.drew.drew.trans (hb.mono H.out.size)); clear hb)
      | (go_at_call 12; (with_reducible refine (put_any A3 n c3 xs xn l _ HN.out hnc3 hmax3 hsz1 (by exact HOW.out _ (by first | exact H.out | exact H.out.drew | exact H.out.drew.drew))).mono ?_); rintro e w6 ⟨Ap, np, cp, hnp, rfl, hown, hb⟩; have hbp := H.out.size; have H := Lib.hid (show Below w3.heap.size w3 w6 from by first | exact H.out.trans (hb.mono H.out.size) | exact H.out.drew.trans (hb.mono H.out.size) | exact H.out.drew.drew.trans (hb.mono H.out.size)); have FP := Lib.hid (Free.lower (B' := w3.heap.size) (Free.of_own hown) (by first | exact hbp | (simp; omega))); have RP := Lib.hid (Rd.of_own hown); have HNP := Lib.hid hnp; clear hb hown hnp hbp))
  clear hq0 hq1
  have hq0 := (H.out.cell (p := ⟨w.heap.size, 0, none⟩) (by simp; omega)).trans HC0.out
  have hq1 := (H.out.cell (p := ⟨w.heap.size, 1, none⟩) (by simp; omega)).trans HC1.out
  go_wp2_with fail
  refine (refPut_any A n c xs xn l _ HN.out hsz1 (HA.out _ H.out)).mono ?_
  rintro e w7 ⟨Aq, nq, cq, hnq, rfl, hown, hb⟩
  have H := Lib.hid (show Below w3.heap.size w3 w7 from by first | exact H.out.trans (hb.mono H.out.size) | exact H.out.drew.trans (hb.mono H.out.size) | exact H.out.drew.drew.trans (hb.mono H.out.size))
  have FP := Lib.hid (FP.out.below hb)
  have RP := Lib.hid ((RP.out.below hb).mono hb.size)
  have RQ := Lib.hid (Rd.of_own hown)
  have HNQ := Lib.hid hnq
  clear hb hown hnq hq0 hq1
  have hq0 := (H.out.cell (p := ⟨w.heap.size, 0, none⟩) (by simp; omega)).trans HC0.out
  have hq1 := (H.out.cell (p := ⟨w.heap.size, 1, none⟩) (by simp; omega)).trans HC1.out
  go_wp2_with fail
  go_region_held3 (fun w' => w'.cell? ⟨w.heap.size, 0, none⟩ = some (.string xs) ∧ w'.cell? ⟨w.heap.size, 1, none⟩ = some (.int .i64 xn))
    (first
      | go_keep
      | (exact ⟨(H.out.cell (p := ⟨w.heap.size, 0, none⟩) (by simp; omega)).trans HC0.out, (H.out.cell (p := ⟨w.heap.size, 1, none⟩) (by simp; omega)).trans HC1.out⟩))
    (first
      | (go_at_call 9; (with_reducible refine (pairs_any _).mono ?_); rintro e wp ⟨rfl, hb⟩; have H := Lib.hid (show Below w3.heap.size w3 wp from by first | exact H.out.trans (hb.mono H.out.size) | exact H.out.drew.trans (hb.mono H.out.size) | exact H.out.drew.drew.trans (hb.mono H.out.size)); have FP := Lib.hid (show Free wp w3.heap.size _ _ from by first | exact FP.out.below hb | exact FP.out.below ((World.drew_below _).trans hb)); have RP := Lib.hid (show Rd wp wp.heap.size _ _ from by first | exact (RP.out.below hb).mono hb.size | exact (RP.out.below ((World.drew_below _).trans hb)).mono hb.size); have RQ := Lib.hid (show Rd wp wp.heap.size _ _ from by first | exact (RQ.out.below hb).mono hb.size | exact (RQ.out.below ((World.drew_below _).trans hb)).mono hb.size); clear hb)
      | (go_at_call 14; (with_reducible refine (drop_any A3 n c3 xs xn l _ HN.out hnc3 hmax3 hsz0 (by exact HOW.out _ (by first | exact H.out | exact H.out.drew | exact H.out.drew.drew))).mono ?_); rintro e w8 ⟨Ad, nd, cd, hnd, rfl, hown, hb⟩; have hbp := H.out.size; have H := Lib.hid (show Below w3.heap.size w3 w8 from by first | exact H.out.trans (hb.mono H.out.size) | exact H.out.drew.trans (hb.mono H.out.size) | exact H.out.drew.drew.trans (hb.mono H.out.size)); have FP := Lib.hid (show Free w8 w3.heap.size _ _ from by first | exact FP.out.below hb | exact FP.out.below ((World.drew_below _).trans hb)); have RP := Lib.hid (show Rd w8 w8.heap.size _ _ from by first | exact (RP.out.below hb).mono hb.size | exact (RP.out.below ((World.drew_below _).trans hb)).mono hb.size); have RQ := Lib.hid (show Rd w8 w8.heap.size _ _ from by first | exact (RQ.out.below hb).mono hb.size | exact (RQ.out.below ((World.drew_below _).trans hb)).mono hb.size); have FD := Lib.hid (Free.lower (B' := w3.heap.size) (Free.of_own hown) (by first | exact hbp | (simp; omega))); have RD := Lib.hid (Rd.of_own hown); have HND := Lib.hid hnd; clear hb hown hnd hbp))
  clear hq0 hq1
  have hq0 := (H.out.cell (p := ⟨w.heap.size, 0, none⟩) (by simp; omega)).trans HC0.out
  have hq1 := (H.out.cell (p := ⟨w.heap.size, 1, none⟩) (by simp; omega)).trans HC1.out
  have hT := tells_does w.heap.size xn w8 hq1
  go_wp2_with fail
  refine (keep_any A3 n c3 _ _ _ l _ HN.out hsz0 (HOW.out _ H.out) hT).mono ?_
  rintro e w9 ⟨Ak, nk, ck, hnk, rfl, hown, hb⟩
  have FK := Lib.hid (Free.lower (B' := w3.heap.size) (Free.of_own hown) H.out.size)
  have H := Lib.hid (show Below w3.heap.size w3 w9 from by first | exact H.out.trans (hb.mono H.out.size) | exact H.out.drew.trans (hb.mono H.out.size) | exact H.out.drew.drew.trans (hb.mono H.out.size))
  have FP := Lib.hid (FP.out.below hb)
  have RP := Lib.hid ((RP.out.below hb).mono hb.size)
  have RQ := Lib.hid ((RQ.out.below hb).mono hb.size)
  have FD := Lib.hid (FD.out.below hb)
  have RD := Lib.hid ((RD.out.below hb).mono hb.size)
  have RK := Lib.hid (Rd.of_own hown)
  have HNK := Lib.hid hnk
  have HKL := Lib.hid (keepL_le (fun _ z => decide (xn ≤ z)) l)
  have hkn : nk ≤ n := by have := keepL_le (fun _ z => decide (xn ≤ z)) l n; rw [List.take_of_length_le (by rw [HN.out]; exact Nat.le_refl _), ← hnk] at this; exact this
  clear hb hown hnk hT hq0 hq1
  go_wp2_with fail
  go_loopw [14, 15] (fun cn ca wr => ∃ a m : Nat, a ≤ n ∧ ca = .int .i64 (a : Int) ∧ m ≤ a ∧ cn = .int .i64 (m : Int) ∧ Hid (m = (keepL (fun _ z => decide (xn ≤ z)) (l.take a)).length) ∧ Hid (∃ q, wr = w9.drewN q)) (fun _ ca _ => n - (intOf ca).toNat)
  case atStart => exact ⟨0, 0, by omega, rfl, by omega, rfl, Lib.hid (by simp [keepL]), Lib.hid ⟨0, rfl⟩⟩
  case round =>
    obtain ⟨a, m, ha, rfl, hma, rfl, hm, hq⟩ := hrel
    obtain ⟨q, hq⟩ := hq.out
    subst hq
    by_cases hlt : a < n
    · have hl : a < l.length := by rw [← HN.out]; exact hlt
      obtain ⟨b, off, hA, hb, hcl⟩ := (HA.out w9 H.out).pair hl
      have hc0 := (hcl a hl).1
      have hc1 := (hcl a hl).2
      clear hcl
      have hks := keepL_split (fun _ z => decide (xn ≤ z)) l a hl
      have hksu := keepL_succ (fun _ z => decide (xn ≤ z)) l a hl
      rw [← hm.out] at hks
      generalize l[a] = p at hc0 hc1 hks hksu
      obtain ⟨s, z⟩ := p
      have h1 : (0 : Int) ≤ (a : Int) := by omega
      have h2 : (a : Int) < (n : Int) := by omega
      have hq1 := (H.out.cell (p := ⟨w.heap.size, 1, none⟩) (by simp; omega)).trans HC1.out
      subst hA
      by_cases hxz : xn ≤ z
      · have hks' := hks (decide_eq_true hxz)
        have hmk : m < (keepL (fun _ z => decide (xn ≤ z)) l).length := (List.getElem?_eq_some_iff.1 hks').1
        have hmk' : m < nk := by rw [HNK.out]; exact hmk
        obtain ⟨b2, off2, hA2, hb2, hck⟩ := RK.out.pair hmk
        have hd0 := (hck m hmk).1
        have hd1 := (hck m hmk).2
        rw [(List.getElem?_eq_some_iff.1 hks').2] at hd0 hd1
        clear hck
        have HS := Lib.hid (show m + 1 = (keepL (fun _ z => decide (xn ≤ z)) (l.take (a + 1))).length from by rw [hksu, if_pos (decide_eq_true hxz), List.length_append, ← hm.out]; rfl)
        clear hks hksu hks' hmk
        have hne := neq_pair
        have hsp : samePr (s, z) (s, z) = true := by simp [samePr]
        have hg : decide (nk ≤ m) = false := by simpa using hmk'
        have h3 : (0 : Int) ≤ (m : Int) := by omega
        have h4 : (m : Int) < (nk : Int) := by omega
        subst hA2
        go_wp2_with fail
        go_quiet (fail)
        go_wp2_with fail
        go_quiet (fail)
        go_wp2_with fail
        go_roundw
        case rel => exact ⟨a + 1, m + 1, by omega, by go_num, by omega, by go_num, HS, Lib.hid ⟨_, rfl⟩⟩
        case measure => simp [intOf]; omega
      · have HS := Lib.hid (show m = (keepL (fun _ z => decide (xn ≤ z)) (l.take (a + 1))).length from by rw [hksu, if_neg (by simpa using hxz), List.append_nil]; exact hm.out)
        clear hks hksu
        go_wp2_with fail
        go_quiet (fail)
        go_wp2_with fail
        go_roundw
        case rel => exact ⟨a + 1, m, by omega, by go_num, by omega, rfl, HS, Lib.hid ⟨_, rfl⟩⟩
        case measure => simp [intOf]; omega
    · have hmn : m = nk := by
        rw [hm.out, HNK.out, List.take_of_length_le (by have := HN.out; omega)]
      have hnq : nq = np := HNQ.out.trans HNP.out.symm
      have hnpb : np ≤ 140737488355328 := by have := Pl.putL_len l (xs, xn); have := HNP.out; have := HN.out; omega
      have hndb : nd ≤ 140737488355328 := by have := Pl.dropL_len l xs; have := HND.out; have := HN.out; omega
      subst hmn hnq
      have hbq : Below w9.heap.size w9 (w9.drewN q) := below_drewN (Below.refl _ _) q
      have H := Lib.hid (H.out.trans (hbq.mono H.out.size))
      have FP := Lib.hid (FP.out.below hbq)
      have RP := Lib.hid ((RP.out.below hbq).mono hbq.size)
      have RQ := Lib.hid ((RQ.out.below hbq).mono hbq.size)
      have FD := Lib.hid (FD.out.below hbq)
      have RD := Lib.hid ((RD.out.below hbq).mono hbq.size)
      have FK := Lib.hid (FK.out.below hbq)
      clear hbq hq RK HKL hm
      generalize w9.drewN q = wL at *
      have hq0 := (H.out.cell (p := ⟨w.heap.size, 0, none⟩) (by simp; omega)).trans HC0.out
      have hq1 := (H.out.cell (p := ⟨w.heap.size, 1, none⟩) (by simp; omega)).trans HC1.out
      go_wp2_with fail
      refine (same_ex Ap Aq _ cp cq _ _ HNP.out hnpb RP.out RQ.out).mono ?_
      rintro e w10 ⟨rfl, hb⟩
      have H := Lib.hid (H.out.trans (hb.mono H.out.size))
      have FP := Lib.hid (FP.out.below hb)
      have FD := Lib.hid (FD.out.below hb)
      have FK := Lib.hid (FK.out.below hb)
      have RD := Lib.hid ((RD.out.below hb).mono hb.size)
      clear hb hq0 hq1 RP RQ
      have hq0 := (H.out.cell (p := ⟨w.heap.size, 0, none⟩) (by simp; omega)).trans HC0.out
      have hq1 := (H.out.cell (p := ⟨w.heap.size, 1, none⟩) (by simp; omega)).trans HC1.out
      go_wp2_with fail
      refine (refDrop_any A n c xs xn l _ HN.out hsz0 (HA.out _ H.out)).mono ?_
      rintro e w11 ⟨Ar, nr, cr, hnr, rfl, hown, hb⟩
      have H := Lib.hid (H.out.trans (hb.mono H.out.size))
      have FP := Lib.hid (FP.out.below hb)
      have FD := Lib.hid (FD.out.below hb)
      have FK := Lib.hid (FK.out.below hb)
      have RD := Lib.hid ((RD.out.below hb).mono hb.size)
      have RR := Lib.hid (Rd.of_own hown)
      have hnr' : nr = nd := hnr.trans HND.out.symm
      subst hnr'
      clear hb hown hnr hq0 hq1
      go_wp2_with fail
      refine (same_ex Ad Ar _ cd cr _ _ HND.out hndb RD.out RR.out).mono ?_
      rintro e w12 ⟨rfl, hb⟩
      have H := Lib.hid (H.out.trans (hb.mono H.out.size))
      have FP := Lib.hid (FP.out.below hb)
      have FD := Lib.hid (FD.out.below hb)
      have FK := Lib.hid (FK.out.below hb)
      clear hb RD RR
      go_wp2_with fail
      refine (pairs_any _).mono ?_
      rintro e w13 ⟨rfl, hb⟩
      have H := Lib.hid (H.out.trans (hb.mono H.out.size))
      have FP := Lib.hid (FP.out.below hb)
      have FD := Lib.hid (FD.out.below hb)
      have FK := Lib.hid (FK.out.below hb)
      clear hb
      go_wp2_with fail
      refine (rises_any A3 n c3 l _ HN.out hn63 (HOW.out _ H.out)).mono ?_
      rintro e w14 ⟨rfl, hb⟩
      have H := Lib.hid (H.out.trans (hb.mono H.out.size))
      have FP := Lib.hid (FP.out.below hb)
      have FD := Lib.hid (FD.out.below hb)
      have FK := Lib.hid (FK.out.below hb)
      clear hb
      go_wp2_with fail
      refine (refRises_any A n c l _ HN.out hn63 (HA.out _ H.out)).mono ?_
      rintro e w15 ⟨rfl, hb⟩
      have H := Lib.hid (H.out.trans (hb.mono H.out.size))
      have FP := Lib.hid (FP.out.below hb)
      have FD := Lib.hid (FD.out.below hb)
      have FK := Lib.hid (FK.out.below hb)
      clear hb
      go_wp2_with fail
      refine (same_ex A3 A n c3 c l _ HN.out hn63 (HOW.out _ H.out) (HA.out _ H.out)).mono ?_
      rintro e w16 ⟨rfl, hb⟩
      have H := Lib.hid (H.out.trans (hb.mono H.out.size))
      have FP := Lib.hid (FP.out.below hb)
      have FD := Lib.hid (FD.out.below hb)
      have FK := Lib.hid (FK.out.below hb)
      clear hb
      go_wp2_with fail
      go_loopw [17] (fun i wr => ∃ a : Nat, a ≤ nq ∧ i = .int .i64 (a : Int) ∧ Hid (Free wr w3.heap.size Ap nq) ∧ Hid (Free wr w3.heap.size Ad nr) ∧ Hid (Free wr w3.heap.size Ak m) ∧ Hid (Below w3.heap.size w3 wr)) (fun i _ => nq - (intOf i).toNat)
      case atStart => exact ⟨0, by omega, rfl, FP, FD, FK, H⟩
      case round =>
        clear H FP FD FK hlt
        try clear ha
        try clear hma
        obtain ⟨a, ha, rfl, FP, FD, FK, H⟩ := hrel
        by_cases hlt : a < nq
        · obtain ⟨g, hA, hg, ⟨u0, hx0⟩, ⟨u1, hx1⟩, hf0, hf1⟩ := FP.out.at_ hlt
          have h1 : (0 : Int) ≤ (a : Int) := by omega
          have h2 : (a : Int) < (nq : Int) := by omega
          have FP := Lib.hid ((FP.out.setCell g (a * 2) (.string ⟨#[119, 114, 105, 116, 116, 101, 110]⟩)).setCell g (a * 2 + 1) (.int .i64 0)); have FD := Lib.hid ((FD.out.setCell g (a * 2) (.string ⟨#[119, 114, 105, 116, 116, 101, 110]⟩)).setCell g (a * 2 + 1) (.int .i64 0)); have FK := Lib.hid ((FK.out.setCell g (a * 2) (.string ⟨#[119, 114, 105, 116, 116, 101, 110]⟩)).setCell g (a * 2 + 1) (.int .i64 0))
          have H := Lib.hid ((H.out.setCell (p := ⟨g, a * 2, none⟩) hg (.string ⟨#[119, 114, 105, 116, 116, 101, 110]⟩)).setCell (p := ⟨g, a * 2 + 1, none⟩) hg (.int .i64 0))
          subst hA
          go_wp2_with fail
          go_roundw
          case rel => exact ⟨a + 1, by omega, by go_num, FP, FD, FK, H⟩
          case measure => simp [intOf]; omega
        · go_wp2_with fail
          go_loopw [18] (fun i wr => ∃ a : Nat, a ≤ nr ∧ i = .int .i64 (a : Int) ∧ Hid (Free wr w3.heap.size Ap nq) ∧ Hid (Free wr w3.heap.size Ad nr) ∧ Hid (Free wr w3.heap.size Ak m) ∧ Hid (Below w3.heap.size w3 wr)) (fun i _ => nr - (intOf i).toNat)
          case atStart => exact ⟨0, by omega, rfl, FP, FD, FK, H⟩
          case round =>
            clear H FP FD FK hlt
            try clear ha
            obtain ⟨a, ha, rfl, FP, FD, FK, H⟩ := hrel
            by_cases hlt : a < nr
            · obtain ⟨g, hA, hg, ⟨u0, hx0⟩, ⟨u1, hx1⟩, hf0, hf1⟩ := FD.out.at_ hlt
              have h1 : (0 : Int) ≤ (a : Int) := by omega
              have h2 : (a : Int) < (nr : Int) := by omega
              have FP := Lib.hid ((FP.out.setCell g (a * 2) (.string ⟨#[119, 114, 105, 116, 116, 101, 110]⟩)).setCell g (a * 2 + 1) (.int .i64 0)); have FD := Lib.hid ((FD.out.setCell g (a * 2) (.string ⟨#[119, 114, 105, 116, 116, 101, 110]⟩)).setCell g (a * 2 + 1) (.int .i64 0)); have FK := Lib.hid ((FK.out.setCell g (a * 2) (.string ⟨#[119, 114, 105, 116, 116, 101, 110]⟩)).setCell g (a * 2 + 1) (.int .i64 0))
              have H := Lib.hid ((H.out.setCell (p := ⟨g, a * 2, none⟩) hg (.string ⟨#[119, 114, 105, 116, 116, 101, 110]⟩)).setCell (p := ⟨g, a * 2 + 1, none⟩) hg (.int .i64 0))
              subst hA
              go_wp2_with fail
              go_roundw
              case rel => exact ⟨a + 1, by omega, by go_num, FP, FD, FK, H⟩
              case measure => simp [intOf]; omega
            · go_wp2_with fail
              go_loopw [19] (fun i wr => ∃ a : Nat, a ≤ m ∧ i = .int .i64 (a : Int) ∧ Hid (Free wr w3.heap.size Ap nq) ∧ Hid (Free wr w3.heap.size Ad nr) ∧ Hid (Free wr w3.heap.size Ak m) ∧ Hid (Below w3.heap.size w3 wr)) (fun i _ => m - (intOf i).toNat)
              case atStart => exact ⟨0, by omega, rfl, FP, FD, FK, H⟩
              case round =>
                clear H FP FD FK hlt
                try clear ha
                obtain ⟨a, ha, rfl, FP, FD, FK, H⟩ := hrel
                by_cases hlt : a < m
                · obtain ⟨g, hA, hg, ⟨u0, hx0⟩, ⟨u1, hx1⟩, hf0, hf1⟩ := FK.out.at_ hlt
                  have h1 : (0 : Int) ≤ (a : Int) := by omega
                  have h2 : (a : Int) < (m : Int) := by omega
                  have FP := Lib.hid ((FP.out.setCell g (a * 2) (.string ⟨#[119, 114, 105, 116, 116, 101, 110]⟩)).setCell g (a * 2 + 1) (.int .i64 0)); have FD := Lib.hid ((FD.out.setCell g (a * 2) (.string ⟨#[119, 114, 105, 116, 116, 101, 110]⟩)).setCell g (a * 2 + 1) (.int .i64 0)); have FK := Lib.hid ((FK.out.setCell g (a * 2) (.string ⟨#[119, 114, 105, 116, 116, 101, 110]⟩)).setCell g (a * 2 + 1) (.int .i64 0))
                  have H := Lib.hid ((H.out.setCell (p := ⟨g, a * 2, none⟩) hg (.string ⟨#[119, 114, 105, 116, 116, 101, 110]⟩)).setCell (p := ⟨g, a * 2 + 1, none⟩) hg (.int .i64 0))
                  subst hA
                  go_wp2_with fail
                  go_roundw
                  case rel => exact ⟨a + 1, by omega, by go_num, FP, FD, FK, H⟩
                  case measure => simp [intOf]; omega
                · go_wp2_with fail
                  have hre := (HRO.out _ H.out) (by rw [List.length_append, pc_length, pc_length]; simp)
                  obtain ⟨g, off, hA3, hg, hce⟩ := hre
                  have hbe := hce (n * 2) (.string beh) (by rw [HN.out, ← pc_length, List.getElem?_append_right (Nat.le_refl _), Nat.sub_self]; rfl)
                  have h1 : (0 : Int) ≤ (n : Int) := by omega
                  have h2 : (n : Int) < ((n + 1 : Nat) : Int) := by omega
                  refine (same_ex A3 A n c3 c l _ HN.out hn63 (HOW.out _ H.out) (HA.out _ H.out)).mono ?_
                  rintro e w17 ⟨rfl, hb⟩
                  have hbe1 := (hb.cell (p := ⟨g, off + n * 2, none⟩) hg).trans hbe
                  have H := Lib.hid (H.out.trans (hb.mono H.out.size))
                  clear hb hce hbe
                  subst hA3
                  go_wp2_with fail
                  refine (awake_any _).mono ?_
                  rintro e w18 ⟨rfl, hb⟩
                  have H := Lib.hid (H.out.trans (hb.mono H.out.size))
                  clear hb
                  go_wp2_with fail
                  go_ret
                  exact ⟨rfl, HB0.out.trans (H.out.mono (by omega))⟩
end Go.Proofs.Ytcpfhmipjpbhnaa.tableDoes
