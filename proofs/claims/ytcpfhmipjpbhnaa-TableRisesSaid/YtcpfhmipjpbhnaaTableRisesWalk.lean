/-
  The walk of TableRises.
-/
import Derived.Test.YtcpfhmipjpbhnaaTAwake
import Derived.Test.YtcpfhmipjpbhnaaTPlain2
import Derived.Maps.Own
import Derived.Maps.OwnOps
import Derived.Maps.OwnSet
namespace Go.Proofs.Ytcpfhmipjpbhnaa.tableRises
open Go.RowKit Go.Maps
open Pl (Up)

theorem law : Keyed Try.prog 9 := string_keyed Try.underlying9
theorem zeroE (w : World) : (zeroValue 3).run Try.prog w = .ok (.int .i64 0) w := by kernel_rfl
abbrev kl (s : ByteArray) : Lit := .string s.data.toList
theorem kl_ne {a b : ByteArray} (h : Pl.eqv a b = false) : kl b ≠ kl a := by
  intro e
  have hne := Pl.ne_of_eqv h
  injection e with e
  exact hne (by cases a; cases b; simp at e; simp [e])

abbrev D1 := DataW Unit
/-- The map has just what the list has. -/
def Agree (D : D1) (l : List Pl.Pr) : Prop :=
  (∀ s, Maps.has D (kl s) = (Pl.look l s).isSome) ∧ (∀ s n, Pl.look l s = some n → D.atKey (kl s) (.lit (.int .i64 0)) = .lit (.int .i64 n)) ∧ Maps.size D = l.length ∧ Maps.Tidy D

theorem agree_nil : Agree (.map []) [] := ⟨fun s => rfl, fun s n h => by simp [Pl.look] at h, rfl, tidy_empty⟩
theorem keyLit (s : ByteArray) : WideAt.IsKeyLit (kl s) := trivial
theorem agree_put {D : D1} {l : List Pl.Pr} (hu : Up l) (h : Agree D l) (s : ByteArray) (n : Int) : Agree (D.put (kl s) (.lit (.int .i64 n))) (Pl.putL l (s, n)) := by
  obtain ⟨h1, h2, h3, h4⟩ := h
  refine ⟨fun t => ?_, fun t m hm => ?_, ?_, h4.put (keyLit s) _⟩
  · rw [Pl.look_put hu]
    by_cases e : Pl.eqv s t = true
    · rw [if_pos e]
      have := (Pl.eqv_iff s t).1 e
      subst this
      exact has_put_same h4.isMap (keyLit s) _
    · rw [if_neg e, has_put_other (kl_ne (by simpa using e))]
      exact h1 t
  · rw [Pl.look_put hu] at hm
    by_cases e : Pl.eqv s t = true
    · rw [if_pos e] at hm
      have := (Pl.eqv_iff s t).1 e
      subst this
      injection hm with hm
      subst hm
      exact atKey_put_same h4.isMap (keyLit s) _ _
    · rw [if_neg e] at hm
      rw [atKey_put_other (kl_ne (by simpa using e))]
      exact h2 t m hm
  · rw [size_put h4, h1 s, h3, Pl.len_put hu]
theorem agree_drop {D : D1} {l : List Pl.Pr} (hu : Up l) (h : Agree D l) (s : ByteArray) : Agree (D.del (kl s)) (Pl.dropL l s) := by
  obtain ⟨h1, h2, h3, h4⟩ := h
  refine ⟨fun t => ?_, fun t m hm => ?_, ?_, h4.del _⟩
  · rw [Pl.look_drop hu]
    by_cases e : Pl.eqv s t = true
    · rw [if_pos e]
      have := (Pl.eqv_iff s t).1 e
      subst this
      exact has_del_same
    · rw [if_neg e, has_del_other (kl_ne (by simpa using e))]
      exact h1 t
  · rw [Pl.look_drop hu] at hm
    by_cases e : Pl.eqv s t = true
    · rw [if_pos e] at hm; cases hm
    · rw [if_neg e] at hm
      rw [atKey_del_other (kl_ne (by simpa using e))]
      exact h2 t m hm
  · have e1 := size_del h4 (k := kl s)
    have e2 := Pl.len_drop hu s
    rw [h1 s, h3] at e1
    omega

theorem map_below {w w' : World} {b n : Nat} {D : D1} {R : Value → Option (DataW Unit × List MemPlace)} (h : w.ownsMap Try.prog 9 R b n D) (hb : Below w.heap.size w w') : w'.ownsMap Try.prog 9 R b n D := by
  obtain ⟨es, clock, hh, hr⟩ := h
  refine ⟨es, clock, (hb.block b ?_).trans hh, hr⟩
  rcases Nat.lt_or_ge b w.heap.size with h | h
  · exact h
  · rw [Array.getElem?_eq_none h] at hh; cases hh

abbrev wfP (p : Pl.Pr) : Prop := p.1.size ≤ maxLen ∧ (Lit.int .i64 p.2).wf = true

theorem rd_turned {w w' : World} {B b n : Nat} {D : D1} {R : Value → Option (DataW Unit × List MemPlace)} {A : Option Addr} {xs : List Value} (h : Rd w B A xs) (hm : w.ownsMap Try.prog 9 R b n D) (hg : w.grownBy w' (some b)) : Rd w' w'.heap.size A xs := fun hx => by
  obtain ⟨b2, off, rfl, hb, hc⟩ := h hx
  have hlt : b2 < w.heap.size := by
    have h0 : xs[0]? = some xs[0] := List.getElem?_eq_getElem hx
    exact World.block_lt_of_cell? w _ (hc 0 _ h0)
  have hne : b2 ≠ b := by
    rintro rfl
    obtain ⟨es, clock, hh, _⟩ := hm
    have h0 : xs[0]? = some xs[0] := List.getElem?_eq_getElem hx
    have := hc 0 _ h0
    simp [World.cell?, hh] at this
  refine ⟨b2, off, rfl, Nat.lt_of_lt_of_le hlt hg.size, fun j u hu => (World.cell?_of_block (hg.block b2 hlt (fun e => hne (by injection e)))).trans (hc j u hu)⟩

set_option maxRecDepth 100000 in
set_option maxHeartbeats 600000 in
theorem walk (A : Option Addr) (n c : Nat) (l : List Pl.Pr) (w : World) (hn : n = l.length) (_hnc : n ≤ c) (_hc : c ≤ 9223372036854775807) (hsz : n * 24 ≤ 140737488351232) (hr : Rd w w.heap.size A (pc l)) (hwf : ∀ p ∈ l, wfP p) :
    Calls Try.prog 4 #[.slice A n c] w fun e w' => e = .returned (.bool true) ∧ Below w.heap.size w w' := by
  have hmm := @run_makeMap Try.prog
  have hn63 : n ≤ 140737488355328 := by omega
  have HN := Lib.hid hn
  have HR := Lib.hid hr
  have HWF := Lib.hid hwf
  have HM0 := Lib.hid (World.ownsMap_made w Try.prog 9 (plainElem (H := Unit) Try.prog 3))
  have HB0 := Lib.hid ((Below.refl _ w).alloc (Nat.le_refl _) (.map #[] 0))
  clear hn hr hwf
  go_enter Try.func4, Try.ntmps4
  go_wp2_with fail
  go_loopw [3, 5] (fun v ci wr => ∃ (k m c' : Nat) (A' : Option Addr) (all : List Pl.Pr) (D : D1), k ≤ n ∧ k ≤ 200 ∧ ci = .int .i64 (k : Int) ∧ m ≤ k ∧ m ≤ c' ∧ c' ≤ 9223372036854775807 ∧ v = .slice A' m c' ∧ Hid (m = all.length) ∧ Hid (Rd wr wr.heap.size A' (pc all)) ∧ Hid (Up all) ∧ Hid (Agree D all) ∧
      Hid (∀ p ∈ all, wfP p) ∧ Hid (wr.ownsMap Try.prog 9 (plainElem Try.prog 3) w.heap.size k D) ∧ Hid (Below w.heap.size w wr)) (fun _ ci _ => n - (intOf ci).toNat)
  case atStart => exact ⟨0, 0, 0, none, [], _, by omega, by omega, rfl, by omega, by omega, by omega, rfl, Lib.hid rfl, Lib.hid Rd.none_, Lib.hid List.Pairwise.nil, Lib.hid agree_nil, Lib.hid (by simp), HM0, HB0⟩
  case round =>
    obtain ⟨k, m, c', A', all, D, hk, hk2, rfl, hmk, hmc, hcm, rfl, hm, RA, hup, hag, hwa, MM, H⟩ := hrel
    by_cases hlt : k < n ∧ k < 200
    · obtain ⟨hlt, hlt2⟩ := hlt
      have hl : k < l.length := by rw [← HN.out]; exact hlt
      obtain ⟨b, off, hAe, hb, hcl⟩ := HR.out.pair hl
      have hc0 := (hcl k hl).1
      have hc1 := (hcl k hl).2
      have hp := HWF.out l[k] (List.getElem_mem hl)
      clear hcl
      generalize l[k] = p at hc0 hc1 hp
      obtain ⟨s, z⟩ := p
      subst hAe
      have HC0 := Lib.hid hc0
      have HC1 := Lib.hid hc1
      have HKEY := Lib.hid (show keyOf Try.prog 9 (.string s) = some (kl s) from Go.WideMaps.keyOf_string_mk Try.underlying9 hp.1)
      have HWZ := Lib.hid hp.2
      have HP := Lib.hid hp
      clear hc0 hc1 hp
      by_cases hz : z < 0
      · have hq0 := (H.out.cell (p := ⟨b, off + k * 2, none⟩) hb).trans HC0.out
        have hq1 := (H.out.cell (p := ⟨b, off + k * 2 + 1, none⟩) hb).trans HC1.out
        go_wp2_with fail
        go_region_held3 (fun w' => w'.cell? ⟨b, off + k * 2, none⟩ = some (.string s) ∧ w'.cell? ⟨b, off + k * 2 + 1, none⟩ = some (.int .i64 z))
          (first
            | go_keep
            | (exact ⟨(H.out.cell (p := ⟨b, off + k * 2, none⟩) (by simpa using hb)).trans HC0.out, (H.out.cell (p := ⟨b, off + k * 2 + 1, none⟩) (by simpa using hb)).trans HC1.out⟩))
          (first
            | (go_at_call 9; (with_reducible refine (pairs_any _).mono ?_); rintro e wp ⟨rfl, hbx⟩; have H := Lib.hid (show Below w.heap.size w wp from by first | exact H.out.trans (hbx.mono H.out.size) | exact H.out.drew.trans (hbx.mono H.out.drew.size)); have RA := Lib.hid (show Rd wp wp.heap.size _ _ from by first | exact (RA.out.below hbx).mono hbx.size | exact (RA.out.below ((World.drew_below _).trans hbx)).mono hbx.size); have MM := Lib.hid (by first | exact map_below MM.out hbx | exact map_below MM.out ((World.drew_below _).trans hbx)); clear hbx)
            | (go_at_call 14; (with_reducible refine (drop_any A' m c' s z all _ hm.out hmc hcm (by omega) (by first | exact RA.out | exact (RA.out.below (World.drew_below _)))).mono ?_); rintro e w2 ⟨A2, m2, c2, hn2, rfl, hown, hbx⟩; have H := Lib.hid (show Below w.heap.size w w2 from by first | exact H.out.trans (hbx.mono H.out.size) | exact H.out.drew.trans (hbx.mono H.out.drew.size)); have MM := Lib.hid (by first | exact map_below MM.out hbx | exact map_below MM.out ((World.drew_below _).trans hbx)); have hmc2 := own_cap hown; have hcm2 := own_max hown; have RA := Lib.hid (Rd.of_own hown); have HN2 := Lib.hid hn2; clear hbx hown hn2))
        clear hq0 hq1
        have hq0 := (H.out.cell (p := ⟨b, off + k * 2, none⟩) hb).trans HC0.out
        have hq1 := (H.out.cell (p := ⟨b, off + k * 2 + 1, none⟩) hb).trans HC1.out
        have UP := Lib.hid (Pl.up_drop hup.out s)
        have AG := Lib.hid (agree_drop hup.out hag.out s)
        have HSZ := Lib.hid (show Maps.size (D.del (kl s)) = m2 from AG.out.2.2.1.trans HN2.out.symm)
        have WA := Lib.hid (show ∀ p ∈ Pl.dropL all s, wfP p from fun p hp => hwa.out p (Pl.mem_drop hp))
        have hm2k : m2 ≤ k + 1 := by have := Pl.dropL_len all s; have := HN2.out; have := hm.out; omega
        have HFI := Lib.hid (Pl.find_drop hup.out s)
        go_wp2_with (at_delete; refine wpList_delete_own _ rfl _ _ 38 9 rfl 3 law Try.underlying38 _ w.heap.size k D rfl MM.out _ _ rfl HKEY.out ?_; intro w3 hown3 hturn3; have RA := Lib.hid (rd_turned RA.out MM.out hturn3.grown); have H := Lib.hid (H.out.grown hturn3.grown H.out.size (fun j hj => by cases hj; exact Nat.le_refl _)); have MM := Lib.hid hown3; clear hown3 hturn3)
        go_wp2_with fail
        refine (pairs_any _).mono ?_
        rintro e w4 ⟨rfl, hbx⟩
        have H := Lib.hid (show Below w.heap.size w w4 from by first | exact H.out.trans (hbx.mono H.out.size) | exact H.out.drew.trans (hbx.mono H.out.drew.size))
        have RA := Lib.hid (show Rd w4 w4.heap.size _ _ from by first | exact (RA.out.below hbx).mono hbx.size | exact (RA.out.below ((World.drew_below _).trans hbx)).mono hbx.size)
        have MM := Lib.hid (by first | exact map_below MM.out hbx | exact map_below MM.out ((World.drew_below _).trans hbx))
        clear hbx
        go_wp2_with fail
        refine (rises_any A2 m2 c2 (Pl.dropL all s) _ HN2.out (by omega) RA.out).mono ?_
        rw [Pl.up_rises UP.out]
        rintro e w5 ⟨rfl, hbx⟩
        have H := Lib.hid (show Below w.heap.size w w5 from by first | exact H.out.trans (hbx.mono H.out.size) | exact H.out.drew.trans (hbx.mono H.out.drew.size))
        have RA := Lib.hid (show Rd w5 w5.heap.size _ _ from by first | exact (RA.out.below hbx).mono hbx.size | exact (RA.out.below ((World.drew_below _).trans hbx)).mono hbx.size)
        have MM := Lib.hid (by first | exact map_below MM.out hbx | exact map_below MM.out ((World.drew_below _).trans hbx))
        clear hbx
        have hlen := MM.out.len Try.underlying38 3
        rw [HSZ.out] at hlen
        go_wp2_with fail
        clear hlen
        have hq0 := (H.out.cell (p := ⟨b, off + k * 2, none⟩) hb).trans HC0.out
        have hq1 := (H.out.cell (p := ⟨b, off + k * 2 + 1, none⟩) hb).trans HC1.out
        go_region_held3 (fun w' => w'.cell? ⟨b, off + k * 2, none⟩ = some (.string s) ∧ w'.cell? ⟨b, off + k * 2 + 1, none⟩ = some (.int .i64 z))
          (first
            | go_keep
            | (exact ⟨(H.out.cell (p := ⟨b, off + k * 2, none⟩) (by simpa using hb)).trans HC0.out, (H.out.cell (p := ⟨b, off + k * 2 + 1, none⟩) (by simpa using hb)).trans HC1.out⟩))
          (first
            | (go_at_call 9; (with_reducible refine (pairs_any _).mono ?_); rintro e wp ⟨rfl, hbx⟩; have H := Lib.hid (show Below w.heap.size w wp from by first | exact H.out.trans (hbx.mono H.out.size) | exact H.out.drew.trans (hbx.mono H.out.drew.size)); have RA := Lib.hid (show Rd wp wp.heap.size _ _ from by first | exact (RA.out.below hbx).mono hbx.size | exact (RA.out.below ((World.drew_below _).trans hbx)).mono hbx.size); have MM := Lib.hid (by first | exact map_below MM.out hbx | exact map_below MM.out ((World.drew_below _).trans hbx)); clear hbx)
            | (go_at_call 10; (with_reducible refine (find_any A2 m2 c2 s z (Pl.dropL all s) _ HN2.out (by omega) (by first | exact RA.out | exact (RA.out.below (World.drew_below _)))).mono ?_); rw [HFI.out]; (first | rw [firstV_some] | rw [firstV_none]); rintro e w6 ⟨rfl, hbx⟩; have H := Lib.hid (show Below w.heap.size w w6 from by first | exact H.out.trans (hbx.mono H.out.size) | exact H.out.drew.trans (hbx.mono H.out.drew.size)); have RA := Lib.hid (show Rd w6 w6.heap.size _ _ from by first | exact (RA.out.below hbx).mono hbx.size | exact (RA.out.below ((World.drew_below _).trans hbx)).mono hbx.size); have MM := Lib.hid (by first | exact map_below MM.out hbx | exact map_below MM.out ((World.drew_below _).trans hbx)); clear hbx))
        clear hq0 hq1
        have hq0 := (H.out.cell (p := ⟨b, off + k * 2, none⟩) hb).trans HC0.out
        have hq1 := (H.out.cell (p := ⟨b, off + k * 2 + 1, none⟩) hb).trans HC1.out
        have hge : decide (0 ≤ z) = false := by simpa using hz
        go_wp2_with fail
        go_quiet (fail)
        rename_i nq
        have hbq : Below w6.heap.size w6 (w6.drewN nq) := below_drewN (Below.refl _ _) nq
        have RA := Lib.hid ((RA.out.below hbq).mono hbq.size)
        have MM := Lib.hid (map_below MM.out hbq)
        have H := Lib.hid (H.out.trans (hbq.mono H.out.size))
        clear hbq
        go_wp2_with fail
        go_roundw
        case rel => exact ⟨k + 1, m2, c2, _, Pl.dropL all s, _, by omega, by omega, by go_num, hm2k, hmc2, hcm2, rfl, HN2, RA, UP, AG, WA, Lib.hid (MM.out.mono (by omega)), H⟩
        case measure => simp [intOf]; omega
      · have hz0 : 0 ≤ z := by omega
        have hq0 := (H.out.cell (p := ⟨b, off + k * 2, none⟩) hb).trans HC0.out
        have hq1 := (H.out.cell (p := ⟨b, off + k * 2 + 1, none⟩) hb).trans HC1.out
        go_wp2_with fail
        go_region_held3 (fun w' => w'.cell? ⟨b, off + k * 2, none⟩ = some (.string s) ∧ w'.cell? ⟨b, off + k * 2 + 1, none⟩ = some (.int .i64 z))
          (first
            | go_keep
            | (exact ⟨(H.out.cell (p := ⟨b, off + k * 2, none⟩) (by simpa using hb)).trans HC0.out, (H.out.cell (p := ⟨b, off + k * 2 + 1, none⟩) (by simpa using hb)).trans HC1.out⟩))
          (first
            | (go_at_call 9; (with_reducible refine (pairs_any _).mono ?_); rintro e wp ⟨rfl, hbx⟩; have H := Lib.hid (show Below w.heap.size w wp from by first | exact H.out.trans (hbx.mono H.out.size) | exact H.out.drew.trans (hbx.mono H.out.drew.size)); have RA := Lib.hid (show Rd wp wp.heap.size _ _ from by first | exact (RA.out.below hbx).mono hbx.size | exact (RA.out.below ((World.drew_below _).trans hbx)).mono hbx.size); have MM := Lib.hid (by first | exact map_below MM.out hbx | exact map_below MM.out ((World.drew_below _).trans hbx)); clear hbx)
            | (go_at_call 12; (with_reducible refine (put_any A' m c' s z all _ hm.out hmc hcm (by omega) (by first | exact RA.out | exact (RA.out.below (World.drew_below _)))).mono ?_); rintro e w2 ⟨A2, m2, c2, hn2, rfl, hown, hbx⟩; have H := Lib.hid (show Below w.heap.size w w2 from by first | exact H.out.trans (hbx.mono H.out.size) | exact H.out.drew.trans (hbx.mono H.out.drew.size)); have MM := Lib.hid (by first | exact map_below MM.out hbx | exact map_below MM.out ((World.drew_below _).trans hbx)); have hmc2 := own_cap hown; have hcm2 := own_max hown; have RA := Lib.hid (Rd.of_own hown); have HN2 := Lib.hid hn2; clear hbx hown hn2))
        clear hq0 hq1
        have hq0 := (H.out.cell (p := ⟨b, off + k * 2, none⟩) hb).trans HC0.out
        have hq1 := (H.out.cell (p := ⟨b, off + k * 2 + 1, none⟩) hb).trans HC1.out
        have UP := Lib.hid (Pl.up_put hup.out (s, z))
        have AG := Lib.hid (agree_put hup.out hag.out s z)
        have HSZ := Lib.hid (show Maps.size (D.put (kl s) (.lit (.int .i64 z))) = m2 from AG.out.2.2.1.trans HN2.out.symm)
        have WA := Lib.hid (show ∀ p ∈ Pl.putL all (s, z), wfP p from fun p hp => (Pl.mem_put hp).elim (fun e => e ▸ HP.out) (fun h => hwa.out p h))
        have hm2k : m2 ≤ k + 1 := by have := Pl.putL_len all (s, z); have := HN2.out; have := hm.out; omega
        obtain ⟨fi, hfi, hgi⟩ := Pl.find_put hup.out (s, z)
        have HFI := Lib.hid (show Pl.findO (Pl.putL all (s, z)) s = some fi from hfi)
        have HGI := Lib.hid hgi
        clear hfi hgi
        obtain ⟨w3, hupd, hown3, hgrow3⟩ := (map_below MM.out (World.drew_below w2)).update law Try.underlying38 (by simp only [maxLen]; omega) HKEY.out (plainElem_int (H := Unit) Try.underlying3 HWZ.out)
        have RA := Lib.hid (rd_turned (RA.out.below (World.drew_below w2)) (map_below MM.out (World.drew_below w2)) hgrow3)
        have H := Lib.hid (H.out.drew.grown hgrow3 H.out.drew.size (fun j hj => by cases hj; exact Nat.le_refl _))
        have MM := Lib.hid hown3
        clear hown3 hgrow3
        go_wp2_with fail
        go_region_held3 (fun w' => w'.cell? ⟨b, off + k * 2, none⟩ = some (.string s) ∧ w'.cell? ⟨b, off + k * 2 + 1, none⟩ = some (.int .i64 z))
          (first
            | go_keep
            | (exact ⟨(H.out.cell (p := ⟨b, off + k * 2, none⟩) (by simpa using hb)).trans HC0.out, (H.out.cell (p := ⟨b, off + k * 2 + 1, none⟩) (by simpa using hb)).trans HC1.out⟩))
          (fail)
        go_wp2_with fail
        refine (pairs_any _).mono ?_
        rintro e w4 ⟨rfl, hbx⟩
        have H := Lib.hid (show Below w.heap.size w w4 from by first | exact H.out.trans (hbx.mono H.out.size) | exact H.out.drew.trans (hbx.mono H.out.drew.size))
        have RA := Lib.hid (show Rd w4 w4.heap.size _ _ from by first | exact (RA.out.below hbx).mono hbx.size | exact (RA.out.below ((World.drew_below _).trans hbx)).mono hbx.size)
        have MM := Lib.hid (by first | exact map_below MM.out hbx | exact map_below MM.out ((World.drew_below _).trans hbx))
        clear hbx
        go_wp2_with fail
        refine (rises_any A2 m2 c2 (Pl.putL all (s, z)) _ HN2.out (by omega) RA.out).mono ?_
        rw [Pl.up_rises UP.out]
        rintro e w5 ⟨rfl, hbx⟩
        have H := Lib.hid (show Below w.heap.size w w5 from by first | exact H.out.trans (hbx.mono H.out.size) | exact H.out.drew.trans (hbx.mono H.out.drew.size))
        have RA := Lib.hid (show Rd w5 w5.heap.size _ _ from by first | exact (RA.out.below hbx).mono hbx.size | exact (RA.out.below ((World.drew_below _).trans hbx)).mono hbx.size)
        have MM := Lib.hid (by first | exact map_below MM.out hbx | exact map_below MM.out ((World.drew_below _).trans hbx))
        clear hbx
        have hlen := MM.out.len Try.underlying38 3
        rw [HSZ.out] at hlen
        go_wp2_with fail
        clear hlen
        have hq0 := (H.out.cell (p := ⟨b, off + k * 2, none⟩) hb).trans HC0.out
        have hq1 := (H.out.cell (p := ⟨b, off + k * 2 + 1, none⟩) hb).trans HC1.out
        go_region_held3 (fun w' => w'.cell? ⟨b, off + k * 2, none⟩ = some (.string s) ∧ w'.cell? ⟨b, off + k * 2 + 1, none⟩ = some (.int .i64 z))
          (first
            | go_keep
            | (exact ⟨(H.out.cell (p := ⟨b, off + k * 2, none⟩) (by simpa using hb)).trans HC0.out, (H.out.cell (p := ⟨b, off + k * 2 + 1, none⟩) (by simpa using hb)).trans HC1.out⟩))
          (first
            | (go_at_call 9; (with_reducible refine (pairs_any _).mono ?_); rintro e wp ⟨rfl, hbx⟩; have H := Lib.hid (show Below w.heap.size w wp from by first | exact H.out.trans (hbx.mono H.out.size) | exact H.out.drew.trans (hbx.mono H.out.drew.size)); have RA := Lib.hid (show Rd wp wp.heap.size _ _ from by first | exact (RA.out.below hbx).mono hbx.size | exact (RA.out.below ((World.drew_below _).trans hbx)).mono hbx.size); have MM := Lib.hid (by first | exact map_below MM.out hbx | exact map_below MM.out ((World.drew_below _).trans hbx)); clear hbx)
            | (go_at_call 10; (with_reducible refine (find_any A2 m2 c2 s z (Pl.putL all (s, z)) _ HN2.out (by omega) (by first | exact RA.out | exact (RA.out.below (World.drew_below _)))).mono ?_); rw [HFI.out]; (first | rw [firstV_some] | rw [firstV_none]); rintro e w6 ⟨rfl, hbx⟩; have H := Lib.hid (show Below w.heap.size w w6 from by first | exact H.out.trans (hbx.mono H.out.size) | exact H.out.drew.trans (hbx.mono H.out.drew.size)); have RA := Lib.hid (show Rd w6 w6.heap.size _ _ from by first | exact (RA.out.below hbx).mono hbx.size | exact (RA.out.below ((World.drew_below _).trans hbx)).mono hbx.size); have MM := Lib.hid (by first | exact map_below MM.out hbx | exact map_below MM.out ((World.drew_below _).trans hbx)); clear hbx))
        clear hq0 hq1
        have hq0 := (H.out.cell (p := ⟨b, off + k * 2, none⟩) hb).trans HC0.out
        have hq1 := (H.out.cell (p := ⟨b, off + k * 2 + 1, none⟩) hb).trans HC1.out
        obtain ⟨hfl, hfe⟩ := List.getElem?_eq_some_iff.1 HGI.out
        obtain ⟨b2, off2, hA2, hb2, hck⟩ := RA.out.pair hfl
        have hd0 := (hck fi hfl).1
        have hd1 := (hck fi hfl).2
        rw [hfe] at hd0 hd1
        clear hck
        have hfm : fi < m2 := by rw [HN2.out]; exact hfl
        have hne := neq_pair
        have hsp : samePr (s, z) (s, z) = true := by simp [samePr]
        have g0 : decide (0 ≤ z) = true := decide_eq_true hz0
        have g1 : decide ((fi : Int) < 0) = false := by simp
        have g2 : decide (m2 ≤ fi) = false := by simpa using hfm
        have h3 : (0 : Int) ≤ (fi : Int) := by omega
        have h4 : (fi : Int) < (m2 : Int) := by omega
        clear hfe hfl
        subst hA2
        go_wp2_with fail
        go_quiet (fail)
        rename_i nq
        have hbq : Below w6.heap.size w6 (w6.drewN nq) := below_drewN (Below.refl _ _) nq
        have RA := Lib.hid ((RA.out.below hbq).mono hbq.size)
        have MM := Lib.hid (map_below MM.out hbq)
        have H := Lib.hid (H.out.trans (hbq.mono H.out.size))
        clear hbq
        go_wp2_with fail
        go_roundw
        case rel => exact ⟨k + 1, m2, c2, _, Pl.putL all (s, z), _, by omega, by omega, by go_num, hm2k, hmc2, hcm2, rfl, HN2, RA, UP, AG, WA, MM, H⟩
        case measure => simp [intOf]; omega
    · have hlt' : k < n ∨ ¬ k < n := by omega
      have hdone : ∀ (W : World), Below wr.heap.size wr W → Below w.heap.size w W := fun W h => H.out.trans (h.mono H.out.size)
      have HD := Lib.hid hdone
      clear hdone
      rcases hlt' with h1 | h1
      · have h2 : ¬ k < 200 := by omega
        clear hlt
        go_wp2_with fail
        go_loopw [8] (fun ci wq => ∃ i : Nat, i ≤ m ∧ ci = .int .i64 (i : Int) ∧ Hid (∃ q, wq = wr.drewN q)) (fun ci _ => m - (intOf ci).toNat)
        case atStart => exact ⟨0, by omega, rfl, Lib.hid ⟨0, rfl⟩⟩
        case round =>
          obtain ⟨i, hi, rfl, hq⟩ := hrel
          obtain ⟨q, hq⟩ := hq.out
          subst hq
          by_cases hlti : i < m
          · have hl : i < all.length := by rw [← hm.out]; exact hlti
            obtain ⟨b, off, hAe, hb, hcl⟩ := RA.out.pair hl
            have hc0 := (hcl i hl).1
            have hc1 := (hcl i hl).2
            have hp := hwa.out all[i] (List.getElem_mem hl)
            have hlook := Pl.look_up hup.out (List.getElem_mem hl)
            clear hcl
            generalize all[i] = p at hc0 hc1 hp hlook
            obtain ⟨s, z⟩ := p
            have HKEY := Lib.hid (show keyOf Try.prog 9 (.string s) = some (kl s) from Go.WideMaps.keyOf_string_mk Try.underlying9 hp.1)
            have HAT := Lib.hid (hag.out.2.1 s z hlook)
            have HHAS := Lib.hid (show Maps.has D (kl s) = true from by rw [hag.out.1 s, hlook]; rfl)
            have HMQ := Lib.hid (map_below MM.out (below_drewN (Below.refl _ wr) q))
            clear hp hlook
            have h3 : (0 : Int) ≤ (i : Int) := by omega
            have h4 : (i : Int) < (m : Int) := by omega
            subst hAe
            go_wp2_with (at_lookup; refine wpList_lookup_own_ok_int _ rfl _ _ 38 rfl 9 3 .i64 law Try.underlying38 Try.underlying3 (zeroE _) w.heap.size k D rfl HMQ.out _ _ rfl HKEY.out ?_; intro cc hat hwc; rw [HAT.out] at hat; injection hat with hat; injection hat with _ hat; subst hat; clear hwc; rw [HHAS.out])
            go_roundw
            case rel => exact ⟨i + 1, by omega, by go_num, Lib.hid ⟨_, rfl⟩⟩
            case measure => simp [intOf]; omega
          · go_wp2_with fail
            refine (awake_any _).mono ?_
            rintro e w4 ⟨rfl, hbx⟩
            have H4 := Lib.hid (HD.out _ ((below_drewN (Below.refl wr.heap.size wr) q).trans hbx))
            clear hbx
            go_wp2_with fail
            go_ret
            exact ⟨rfl, H4.out⟩
      · clear hlt
        go_wp2_with fail
        go_loopw [8] (fun ci wq => ∃ i : Nat, i ≤ m ∧ ci = .int .i64 (i : Int) ∧ Hid (∃ q, wq = wr.drewN q)) (fun ci _ => m - (intOf ci).toNat)
        case atStart => exact ⟨0, by omega, rfl, Lib.hid ⟨0, rfl⟩⟩
        case round =>
          obtain ⟨i, hi, rfl, hq⟩ := hrel
          obtain ⟨q, hq⟩ := hq.out
          subst hq
          by_cases hlti : i < m
          · have hl : i < all.length := by rw [← hm.out]; exact hlti
            obtain ⟨b, off, hAe, hb, hcl⟩ := RA.out.pair hl
            have hc0 := (hcl i hl).1
            have hc1 := (hcl i hl).2
            have hp := hwa.out all[i] (List.getElem_mem hl)
            have hlook := Pl.look_up hup.out (List.getElem_mem hl)
            clear hcl
            generalize all[i] = p at hc0 hc1 hp hlook
            obtain ⟨s, z⟩ := p
            have HKEY := Lib.hid (show keyOf Try.prog 9 (.string s) = some (kl s) from Go.WideMaps.keyOf_string_mk Try.underlying9 hp.1)
            have HAT := Lib.hid (hag.out.2.1 s z hlook)
            have HHAS := Lib.hid (show Maps.has D (kl s) = true from by rw [hag.out.1 s, hlook]; rfl)
            have HMQ := Lib.hid (map_below MM.out (below_drewN (Below.refl _ wr) q))
            clear hp hlook
            have h3 : (0 : Int) ≤ (i : Int) := by omega
            have h4 : (i : Int) < (m : Int) := by omega
            subst hAe
            go_wp2_with (at_lookup; refine wpList_lookup_own_ok_int _ rfl _ _ 38 rfl 9 3 .i64 law Try.underlying38 Try.underlying3 (zeroE _) w.heap.size k D rfl HMQ.out _ _ rfl HKEY.out ?_; intro cc hat hwc; rw [HAT.out] at hat; injection hat with hat; injection hat with _ hat; subst hat; clear hwc; rw [HHAS.out])
            go_roundw
            case rel => exact ⟨i + 1, by omega, by go_num, Lib.hid ⟨_, rfl⟩⟩
            case measure => simp [intOf]; omega
          · go_wp2_with fail
            refine (awake_any _).mono ?_
            rintro e w4 ⟨rfl, hbx⟩
            have H4 := Lib.hid (HD.out _ ((below_drewN (Below.refl wr.heap.size wr) q).trans hbx))
            clear hbx
            go_wp2_with fail
            go_ret
            exact ⟨rfl, H4.out⟩
end Go.Proofs.Ytcpfhmipjpbhnaa.tableRises
