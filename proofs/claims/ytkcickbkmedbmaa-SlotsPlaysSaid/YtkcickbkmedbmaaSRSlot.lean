/-
  CONTRACT of the reference's slot.
-/
import Derived.Test.YtkcickbkmedbmaaSRSave
import Derived.BigQuiet
namespace Go.Proofs.Ytkcickbkmedbmaa
open Go.RowKit Go.Maps
open Fm (bv bv_length)

namespace Ps
theorem slot_bad {T : Md} {f : Nat} {s0 : ByteArray} (h0 : T f 0 = some s0) (hb : ¬ (1 ≤ numB s0 ∧ numB s0 ≤ 2147483647 ∧ numB s0 % 2 = f ∧ 1 ≤ cntB s0)) : slotF T f = none := by
  cases hs : slotF T f with
  | none => rfl
  | some q =>
    exfalso
    obtain ⟨n, x⟩ := q
    obtain ⟨s1, e1, en, ec, _, n1, n2, _, hf⟩ := slot_inv hs
    rw [h0] at e1
    injection e1 with e1
    subst e1
    have := partsN_pos x.length
    exact hb ⟨by omega, by omega, by rw [en]; exact hf, by omega⟩
theorem slot_over {T : Md} {f i : Nat} {s0 d : ByteArray} (h0 : T f 0 = some s0) (hi : i < cntB s0) (h : T f i = some d) (hd : 53 < byteAt d 8) : slotF T f = none := by
  cases hs : slotF T f with
  | none => rfl
  | some q =>
    exfalso
    obtain ⟨n, x⟩ := q
    obtain ⟨s1, e1, _, ec, hat, n1, n2, hx, _⟩ := slot_inv hs
    rw [h0] at e1
    injection e1 with e1
    subst e1
    have hsz : (⟨x.toArray⟩ : ByteArray).size = x.length := by show x.toArray.size = _; simp
    have hi' : i < partsN (⟨x.toArray⟩ : ByteArray).size := by rw [hsz]; omega
    have h1 := hat i _ (secs_get n ⟨x.toArray⟩ i hi')
    rw [Nat.zero_add, h] at h1
    injection h1 with h1
    have ht := tell_secs n ⟨x.toArray⟩ i n1 n2 (by rw [hsz]; exact hx) hi'
    rw [← h1] at ht
    have := (tell_parts ht).2.2.2.2
    omega
end Ps

/-- What slot answers. -/
def SlotV (r : Option (Nat × List UInt8)) : Value := .tuple #[.int .i64 (Ps.numO r : Int), .string ⟨(Ps.datO r).toArray⟩]
def SlotPost (r : Option (Nat × List UInt8)) (w : World) (e : Ending) (w' : World) : Prop := e = .returned (SlotV r) ∧ Below w.heap.size w w'
theorem RR {Y : Nat → Prop} {br n : Nat} {s : St} {w0 w : World} (h : RM w0 Y br n s) (hb : Below w0.heap.size w0 w) (hn : n ≤ 1000000) (f i : Nat) (hoff : s.off = false) (hf : f < 1048576) (hi : i < 65536) :
    Calls Try.prog 45 #[.pointer (some ⟨br, 0, none⟩), .int .i64 (f : Int), .int .i64 (i : Int)] w fun e w' => (∃ d c, (match mdT s f i with | none => ((⟨#[]⟩ : ByteArray), (41 : Int)) | some d => (d, 0)) = (d, c) ∧ e = .returned (.tuple #[.string d, .int .i64 c])) ∧ w = w' := by
  have := rreadX Y br n s (f : Int) (i : Int) w (h.below hb) hn
  rw [read_at s f i hoff hf hi] at this
  exact this.mono fun e w' ⟨he, hw⟩ => ⟨⟨_, _, rfl, he⟩, hw⟩
theorem RM.good {w : World} {Y : Nat → Prop} {b n : Nat} {s : St} (h : RM w Y b n s) : s.Good n := by obtain ⟨_, _, _, _, _, hr, _⟩ := h; exact hr.good

set_option maxRecDepth 100000 in
set_option maxHeartbeats 6400000 in
theorem rslot_any (Y : Nat → Prop) (br n : Nat) (s : St) (f : Nat) (w : World) (h : RM w Y br n s) (hn : n ≤ 1000000) (hoff : s.off = false) (hf : f < 2) :
    Calls Try.prog 31 #[.pointer (some ⟨br, 0, none⟩), .int .i64 (f : Int)] w (SlotPost (Ps.slotF (mdT s) f) w) := by
  obtain ⟨iU, hU, zU, sU, bU⟩ := info_parts Fm.infoU
  have HGOOD := Lib.hid h.good
  have HRN : Hid (∀ (W : World), Below w.heap.size w W → ∀ i, i < 65536 → mdT s f i = none → Calls Try.prog 45 #[.pointer (some ⟨br, 0, none⟩), .int .i64 (f : Int), .int .i64 (i : Int)] W fun e w' => e = .returned (.tuple #[.string ⟨#[]⟩, .int .i64 41]) ∧ W = w') := Lib.hid (fun W hW i hi ht => (RR h hW hn f i hoff (by omega) hi).mono fun e w' ⟨⟨d, c, h1, h2⟩, h3⟩ => by
    rw [ht] at h1
    simp only [Prod.mk.injEq] at h1
    obtain ⟨rfl, rfl⟩ := h1
    exact ⟨h2, h3⟩)
  have HRS : Hid (∀ (W : World), Below w.heap.size w W → ∀ i d, i < 65536 → mdT s f i = some d → Calls Try.prog 45 #[.pointer (some ⟨br, 0, none⟩), .int .i64 (f : Int), .int .i64 (i : Int)] W fun e w' => e = .returned (.tuple #[.string d, .int .i64 0]) ∧ W = w') := Lib.hid (fun W hW i d hi ht => (RR h hW hn f i hoff (by omega) hi).mono fun e w' ⟨⟨d', c, h1, h2⟩, h3⟩ => by
    rw [ht] at h1
    simp only [Prod.mk.injEq] at h1
    obtain ⟨rfl, rfl⟩ := h1
    exact ⟨h2, h3⟩)
  clear h hoff hn
  cases h0 : mdT s f 0 with
  | none =>
    have HR := Lib.hid (HRN.out w (Below.refl _ _) 0 (by omega) h0)
    have HP := Lib.hid (Ps.slot_none h0)
    clear h0 HRN HRS
    go_enter Try.func31, Try.ntmps31
    go_wp2_with fail
    refine HR.out.mono ?_
    rintro e w1 ⟨rfl, rfl⟩
    go_wp2_with fail
    go_ret2
    exact ⟨by rw [HP.out]; rfl, Below.refl _ _⟩
  | some s0 =>
    have HR := Lib.hid (HRS.out w (Below.refl _ _) 0 s0 (by omega) h0)
    have H0 := Lib.hid h0
    have hs0 := md_size HGOOD.out h0
    have e0 := Ps.byteAt_get s0 0 (by omega)
    have e1 := Ps.byteAt_get s0 1 (by omega)
    have e2 := Ps.byteAt_get s0 2 (by omega)
    have e3 := Ps.byteAt_get s0 3 (by omega)
    have e6 := Ps.byteAt_get s0 6 (by omega)
    have e7 := Ps.byteAt_get s0 7 (by omega)
    have l0 := Ps.byteAt_lt s0 0
    have l1 := Ps.byteAt_lt s0 1
    have l2 := Ps.byteAt_lt s0 2
    have l3 := Ps.byteAt_lt s0 3
    have l6 := Ps.byteAt_lt s0 6
    have l7 := Ps.byteAt_lt s0 7
    obtain ⟨K, hK⟩ : ∃ K, K = Ps.cntB s0 := ⟨_, rfl⟩
    obtain ⟨N, hN⟩ : ∃ N, N = Ps.numB s0 := ⟨_, rfl⟩
    have hNs : (Ps.byteAt s0 0 : Int) * 16777216 + (Ps.byteAt s0 1 : Int) * 65536 + (Ps.byteAt s0 2 : Int) * 256 + (Ps.byteAt s0 3 : Int) = (N : Int) := by rw [hN]; unfold Ps.numB; omega
    have hKs : (Ps.byteAt s0 6 : Int) * 256 + (Ps.byteAt s0 7 : Int) = (K : Int) := by rw [hK]; unfold Ps.cntB; omega
    have hKb : K ≤ 65535 := by omega
    have hNb : N ≤ 4294967295 := by omega
    have HK := Lib.hid hK
    have HNN := Lib.hid hN
    have HNS := Lib.hid hNs
    have HKS := Lib.hid hKs
    clear h0 hK hN hNs hKs
    go_enter Try.func31, Try.ntmps31
    go_wp2_with fail
    refine HR.out.mono ?_
    rintro e w1 ⟨rfl, rfl⟩
    clear HR
    generalize Ps.byteAt s0 0 = b0 at e0 l0 HNS
    generalize Ps.byteAt s0 1 = b1 at e1 l1 HNS
    generalize Ps.byteAt s0 2 = b2 at e2 l2 HNS
    generalize Ps.byteAt s0 3 = b3 at e3 l3 HNS
    generalize Ps.byteAt s0 6 = b6 at e6 l6 HKS
    generalize Ps.byteAt s0 7 = b7 at e7 l7 HKS
    go_wp2_with fail
    go_quiet (fail)
    rw [HNS.out]
    have HWA : Hid (Below w.heap.size w (w.drewN nq)) := Lib.hid (below_drewN (Below.refl _ _) nq)
    generalize w.drewN nq = wa at HWA ⊢
    go_wp2_with fail
    go_quiet (fail)
    rw [HKS.out]
    have HWB : Hid (Below w.heap.size w (wa.drewN nq)) := Lib.hid (below_drewN HWA.out nq)
    generalize wa.drewN nq = wb at HWB ⊢
    clear HWA HNS HKS e0 e1 e2 e3 e6 e7 l0 l1 l2 l3 l6 l7
    have HBAD : Hid (¬ (1 ≤ N ∧ N ≤ 2147483647 ∧ N % 2 = f ∧ 1 ≤ K) → Ps.slotF (mdT s) f = none) := Lib.hid (fun h => Ps.slot_bad H0.out (by rw [← HNN.out, ← HK.out]; exact h))
    by_cases k1 : N < 1
    · have HP := Lib.hid (HBAD.out (by omega))
      have g1 : decide ((N : Int) < 1) = true := decide_eq_true (by omega)
      have g1' : decide (N < 1) = true := decide_eq_true (by omega)
      clear HBAD k1
      go_wp2_with fail
      go_ret2
      exact ⟨by rw [HP.out]; rfl, HWB.out⟩
    · have g1 : decide ((N : Int) < 1) = false := decide_eq_false (by omega)
      have g1' : decide (N < 1) = false := decide_eq_false (by omega)
      by_cases k2 : 2147483647 < N
      · have HP := Lib.hid (HBAD.out (by omega))
        have g2 : decide ((2147483647 : Int) < (N : Int)) = true := decide_eq_true (by omega)
        have g2' : decide (2147483647 < N) = true := decide_eq_true (by omega)
        clear HBAD k2
        go_wp2_with fail
        go_ret2
        exact ⟨by rw [HP.out]; rfl, HWB.out⟩
      · have g2 : decide ((2147483647 : Int) < (N : Int)) = false := decide_eq_false (by omega)
        have g2' : decide (2147483647 < N) = false := decide_eq_false (by omega)
        obtain ⟨r, hr⟩ : ∃ r, N % 2 = r := ⟨_, rfl⟩
        have hri : (N : Int) % 2 = (r : Int) := by omega
        by_cases k3 : r = f
        · have g3 : ((r : Int) != (f : Int)) = false := by simp [k3]
          by_cases k4 : K < 1
          · have HP := Lib.hid (HBAD.out (by omega))
            have g4 : decide ((K : Int) < 1) = true := decide_eq_true (by omega)
            have g4' : decide (K < 1) = true := decide_eq_true (by omega)
            clear HBAD k4 k3 hr
            go_wp2_with fail
            go_ret2
            exact ⟨by rw [HP.out]; rfl, HWB.out⟩
          · have g4 : decide ((K : Int) < 1) = false := decide_eq_false (by omega)
            have g4' : decide (K < 1) = false := decide_eq_false (by omega)
            have HMOD : Hid (N % 2 = f) := Lib.hid (hr.trans k3)
            have hN1 : 1 ≤ N := by omega
            have hN2 : N ≤ 2147483647 := by omega
            have hK1 : 1 ≤ K := by omega
            clear HBAD k3 k4 k1 k2 hr
            go_wp2_with fail
            clear g1 g1' g2 g2' g3 g4 g4' hri
            go_loopw [10, 11] (fun v10 v11 wr => ∃ (k dl c : Nat) (A : Option Addr) (L : List ByteArray), k ≤ K ∧ v10 = .slice A dl c ∧ v11 = .int .i64 (k : Int) ∧ dl ≤ k * 53 ∧
                Hid (SR (mdT s) f k L ∧ dl = (Ps.claimL L).length) ∧ Hid (wr.ownsRow w.heap.size 5 1 (.slice A dl c) dl (bv (Ps.claimL L)) ∧ Below w.heap.size w wr))
              (fun _ v11 _ => K - (RowKit.intOf v11).toNat)
            case atStart => exact ⟨0, 0, 0, none, [], by omega, rfl, rfl, by omega, Lib.hid ⟨⟨rfl, fun i s hi => by simp at hi, fun d hd => by simp at hd⟩, rfl⟩, Lib.hid ⟨World.ownsRow_nil _ _ _ _, HWB.out⟩⟩
            case round =>
              obtain ⟨k, dl, c, A, L, hk, rfl, rfl, hdl, HSR, HOW⟩ := hrel
              clear HWB
              by_cases hlt : k < K
              · cases hT : mdT s f k with
                | none =>
                  have HR := Lib.hid (HRN.out wr HOW.out.2 k (by omega) hT)
                  have HP : Hid (Ps.slotF (mdT s) f = none) := Lib.hid (Ps.slot_miss H0.out (by have := HK.out; omega) hT)
                  clear hT HRN HRS
                  go_wp2_with fail
                  refine HR.out.mono ?_
                  rintro e w1 ⟨rfl, rfl⟩
                  clear HR
                  go_wp2_with fail
                  go_ret2
                  exact ⟨by rw [HP.out]; rfl, HOW.out.2⟩
                | some d =>
                  have HR := Lib.hid (HRS.out wr HOW.out.2 k d (by omega) hT)
                  have hd64 := md_size HGOOD.out hT
                  have e8 := Ps.byteAt_get d 8 (by omega)
                  have l8 := Ps.byteAt_lt d 8
                  by_cases hov : 53 < Ps.byteAt d 8
                  · have HP : Hid (Ps.slotF (mdT s) f = none) := Lib.hid (Ps.slot_over H0.out (by have := HK.out; omega) hT hov)
                    generalize Ps.byteAt d 8 = b8 at e8 l8 hov
                    have g8 : decide ((53 : Int) < (b8 : Int)) = true := decide_eq_true (by omega)
                    have g8' : decide (53 < b8) = true := decide_eq_true (by omega)
                    clear hT HRN HRS hov
                    go_wp2_with fail
                    refine HR.out.mono ?_
                    rintro e w1 ⟨rfl, rfl⟩
                    clear HR
                    go_wp2_with fail
                    go_ret2
                    exact ⟨by rw [HP.out]; rfl, HOW.out.2⟩
                  · have HSR' := Lib.hid (HSR.out.1.more hT hd64)
                    have hcz := Ps.claimS_size hd64
                    have HCS : Hid (d.extract 9 (9 + Ps.byteAt d 8) = Ps.claimS d) := Lib.hid (by unfold Ps.claimS; rw [Nat.min_eq_left (by omega)])
                    have HCZ : Hid (dl + (Ps.claimS d).size = (Ps.claimL (L ++ [d])).length) := Lib.hid (by rw [Ps.claimL_snoc, List.length_append, Ps.length_toList, HSR.out.2])
                    have hcz2 : (Ps.claimS d).size ≤ 53 := by rw [hcz]; omega
                    generalize Ps.byteAt d 8 = b8 at e8 l8 hov HCS
                    have g8 : decide ((53 : Int) < (b8 : Int)) = false := decide_eq_false (by omega)
                    have g8' : decide (53 < b8) = false := decide_eq_false (by omega)
                    have r1 : (9 : Int) ≤ 9 + (b8 : Int) := by omega
                    have r2 : 9 + (b8 : Int) ≤ (d.size : Int) := by omega
                    have r2' : 9 + (b8 : Int) ≤ 64 := by omega
                    have r3 : (9 + (b8 : Int)).toNat = 9 + b8 := by omega
                    have HHS := Lib.hid HOW.out.2.size
                    clear hT hcz hov
                    go_wp2_with fail
                    refine HR.out.mono ?_
                    rintro e w1 ⟨rfl, rfl⟩
                    clear HR
                    have hxs : (d.extract 9 (9 + b8)).size ≤ 53 := by rw [HCS.out]; exact hcz2
                    go_wp2_with (first
                      | (refine Lib.wpList_append_own_string _ rfl (.tmp 89) (.tmp 95) 59 9 rfl w.heap.size 5 iU Try.underlying59 Try.underlying9 hU zU sU bU _ dl _ rfl HOW.out.1 (d.extract 9 (9 + b8)) rfl (by simp only [maxLen]; omega) (by omega) HHS.out ?_; intro v8 w8 ho8 hg8 _)
                      | fail)
                    rw [HCS.out] at ho8
                    obtain ⟨A8, c8, rfl, _⟩ := own_form ho8
                    have hb8 : Below w.heap.size w w8 := HOW.out.2.grown hg8 HHS.out (fun q hq => own_base HOW.out.1 q hq)
                    have HOW8 : Hid (w8.ownsRow w.heap.size 5 1 (.slice A8 (dl + (Ps.claimS d).size) c8) (dl + (Ps.claimS d).size) (bv (Ps.claimL (L ++ [d]))) ∧ Below w.heap.size w w8) := Lib.hid ⟨by rw [Ps.claimL_snoc, Fm.bv_append, ← str_bv]; exact ho8, hb8⟩
                    clear ho8 hg8 hb8 HOW hxs
                    go_roundw
                    case rel => exact ⟨k + 1, dl + (Ps.claimS d).size, c8, A8, L ++ [d], by omega, rfl, by go_num, by omega, Lib.hid ⟨HSR'.out, HCZ.out⟩, HOW8⟩
                    case measure => simp [RowKit.intOf]; omega
              · obtain rfl : k = K := by omega
                have HCH := Lib.hid (Ps.slot_char H0.out (by rw [HSR.out.1.1, HK.out]) HSR.out.1.2.1)
                rw [← HNN.out] at HCH
                have htx := own_string HOW.out.1 HSR.out.2
                obtain ⟨D, hD⟩ : ∃ D, D = Ps.claimL L := ⟨_, rfl⟩
                rw [← hD] at HCH htx
                have HDD := Lib.hid hD
                have HZL : Hid ((⟨D.toArray⟩ : ByteArray).size = D.length) := Lib.hid (by show D.toArray.size = _; exact List.size_toArray)
                clear hD HRN
                go_wp2_with fail
                clear htx
                by_cases hbig : 1000000 < (⟨D.toArray⟩ : ByteArray).size
                · have HP : Hid (Ps.slotF (mdT s) f = none) := Lib.hid (by
                    rw [HCH.out, if_neg]
                    rintro ⟨_, _, h3, _⟩
                    rw [HZL.out] at hbig
                    omega)
                  have HL := Lib.hid (rlay_none (N : Int) ⟨D.toArray⟩ wr (.inr hbig))
                  clear hbig
                  refine HL.out.mono ?_
                  rintro e w1 ⟨rfl, hb1⟩
                  have HB1 := Lib.hid (HOW.out.2.trans (hb1.mono HOW.out.2.size))
                  clear HL hb1
                  go_wp2_with fail
                  go_ret2
                  exact ⟨by rw [HP.out]; rfl, HB1.out⟩
                · have HL := Lib.hid (rlay_some N ⟨D.toArray⟩ wr hN1 hN2 (by omega))
                  have HSML : Hid ((⟨D.toArray⟩ : ByteArray).size ≤ 1000000) := Lib.hid (by omega)
                  clear hbig
                  refine HL.out.mono ?_
                  rintro e w2 ⟨A2, c2, rfl, hc2, hrd, hb2, _⟩
                  have HB2 := Lib.hid (HOW.out.2.trans (hb2.mono HOW.out.2.size))
                  have HRD := Lib.hid hrd
                  obtain ⟨ls, hls⟩ : ∃ ls, ls = Ps.secs N ⟨D.toArray⟩ := ⟨_, rfl⟩
                  have HLS := Lib.hid hls
                  rw [← hls] at HRD HCH hc2 ⊢
                  obtain ⟨m, hm⟩ : ∃ m, ls.length = m := ⟨_, rfl⟩
                  have HM := Lib.hid hm
                  rw [hm] at hc2 ⊢
                  clear HL hrd hb2 hls hm
                  by_cases hmk : m = k
                  · subst hmk
                    have gm : ((m : Int) != (m : Int)) = false := bne_self_eq_false _
                    go_wp2_with fail
                    go_loopw [16] (fun v16 wr2 => ∃ i : Nat, i ≤ m ∧ v16 = .int .i64 (i : Int) ∧ Hid (ls.take i = L.take i) ∧ wr2 = w2) (fun v16 _ => m - (RowKit.intOf v16).toNat)
                    case atStart => exact ⟨0, by omega, rfl, Lib.hid (by simp), rfl⟩
                    case round =>
                      obtain ⟨i, hi, rfl, HT, rfl⟩ := hrel
                      by_cases hlt2 : i < m
                      · have hi1 : i < L.length := by rw [HSR.out.1.1]; exact hlt2
                        have hi2 : i < ls.length := by rw [HM.out]; exact hlt2
                        obtain ⟨gb, off, rfl, hgb, hcs⟩ := Fm.Rd.str_at (w := wr) (B := wr.heap.size) (A := A2) (l := ls) HRD.out hi2
                        have c0 := hcs i hi2
                        have hTi : mdT s f i = some L[i] := by have := HSR.out.1.2.1 i _ (List.getElem?_eq_getElem hi1); rwa [Nat.zero_add] at this
                        have HR := Lib.hid (HRS.out wr HB2.out i _ (by omega) hTi)
                        have HN : Hid (ls.take (i + 1) = ls.take i ++ [ls[i]] ∧ L.take (i + 1) = L.take i ++ [L[i]]) := Lib.hid ⟨List.take_succ_eq_append_getElem hi2, List.take_succ_eq_append_getElem hi1⟩
                        have HG : Hid (ls = L → ls[i] = L[i]) := Lib.hid (fun h => by subst h; rfl)
                        generalize L[i] = x at HR HN HG
                        generalize ls[i] = y at c0 HN HG
                        have i1 : (0 : Int) ≤ (i : Int) := by omega
                        have i2 : (i : Int) < (m : Int) := by omega
                        clear hcs hTi hi1 hi2 gm
                        by_cases hxy : x = y
                        · have qs : (x.toList == y.toList) = true := by rw [hxy]; exact beq_self_eq_true _
                          have HXY := Lib.hid hxy
                          clear hxy
                          go_wp2_with fail
                          refine HR.out.mono ?_
                          rintro e w3 ⟨rfl, rfl⟩
                          clear HR
                          go_wp2_with fail
                          go_roundw
                          case rel => exact ⟨i + 1, by omega, by go_num, Lib.hid (by rw [HN.out.1, HN.out.2, HT.out, HXY.out]), by first | rfl | trivial⟩
                          case measure => simp [RowKit.intOf]; omega
                        · have qs : (x.toList == y.toList) = false := by
                            rw [beq_eq_false_iff_ne]
                            intro h
                            rw [ByteArray.toList_eq, ByteArray.toList_eq] at h
                            exact hxy (Pl.ba_ext h)
                          have HP : Hid (Ps.slotF (mdT s) f = none) := Lib.hid (by
                            rw [HCH.out, if_neg]
                            rintro ⟨_, _, _, _, h5⟩
                            exact hxy (HG.out h5).symm)
                          clear hxy HG
                          go_wp2_with fail
                          refine HR.out.mono ?_
                          rintro e w3 ⟨rfl, rfl⟩
                          clear HR
                          go_wp2_with fail
                          go_ret2
                          exact ⟨by rw [HP.out]; rfl, HB2.out⟩
                      · obtain rfl : i = m := by omega
                        have HP : Hid (Ps.slotF (mdT s) f = some (N, D)) := Lib.hid (by
                          have hh := HT.out
                          rw [List.take_of_length_le (by rw [HM.out]; exact Nat.le_refl _), List.take_of_length_le (by rw [HSR.out.1.1]; exact Nat.le_refl _)] at hh
                          have h3 := HSML.out
                          rw [HZL.out] at h3
                          rw [HCH.out, if_pos ⟨hN1, hN2, h3, HMOD.out, hh⟩])
                        go_wp2_with fail
                        go_ret2
                        exact ⟨by rw [HP.out]; rfl, HB2.out⟩
                  · have HP : Hid (Ps.slotF (mdT s) f = none) := Lib.hid (by
                      rw [HCH.out, if_neg]
                      rintro ⟨_, _, _, _, h5⟩
                      exact hmk (by rw [← HM.out, h5, HSR.out.1.1]))
                    have gm : ((m : Int) != (k : Int)) = true := by simp; omega
                    clear hmk
                    go_wp2_with fail
                    go_ret2
                    exact ⟨by rw [HP.out]; rfl, HB2.out⟩
        · have HP := Lib.hid (HBAD.out (by omega))
          have g3 : ((r : Int) != (f : Int)) = true := by simp; omega
          clear HBAD k3 hr
          go_wp2_with fail
          go_ret2
          exact ⟨by rw [HP.out]; rfl, HWB.out⟩
end Go.Proofs.Ytkcickbkmedbmaa
