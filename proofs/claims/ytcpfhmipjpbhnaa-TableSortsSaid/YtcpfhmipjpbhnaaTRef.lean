/-
  CONTRACTS of the reference's Put and Drop.
-/
import Derived.Test.YtcpfhmipjpbhnaaTSame
namespace Go.Proofs.Ytcpfhmipjpbhnaa
open Go.RowKit
open Pl (findO overO insK insS insK_succ insK_len)

theorem pc_set (l : List Pl.Pr) (i : Nat) (p : Pl.Pr) : pc (l.set i p) = ((pc l).set (i * 2) (.string p.1)).set (i * 2 + 1) (.int .i64 p.2) := by
  induction l generalizing i with
  | nil => simp [pc_nil]
  | cons q l ih =>
    cases i with
    | zero => simp [pc_cons]
    | succ i =>
      rw [List.set_cons_succ, pc_cons, pc_cons, ih i, show (i + 1) * 2 = i * 2 + 1 + 1 from by omega]
      simp [List.set_cons_succ]

/-- A pair stored into a row of the call's own. -/
theorem own_set {w : World} {B g n c i : Nat} {l : List Pl.Pr} {s : ByteArray} {z : Int} (h : w.ownsRow B 24 2 (.slice (some ⟨g, 0, none⟩) n c) n (pc l)) (hg : B ≤ g) :
    ((w.setCell ⟨g, i * 2, none⟩ (.string s)).setCell ⟨g, i * 2 + 1, none⟩ (.int .i64 z)).ownsRow B 24 2 (.slice (some ⟨g, 0, none⟩) n c) n (pc (l.set i (s, z))) ∧
      Below B w ((w.setCell ⟨g, i * 2, none⟩ (.string s)).setCell ⟨g, i * 2 + 1, none⟩ (.int .i64 z)) := by
  have h1 := h.stored (i * 2) (.string s)
  have h2 := h1.1.stored (i * 2 + 1) (.int .i64 z)
  rw [pc_set]
  exact ⟨h2.1, ((Below.refl B w).setCell (p := ⟨g, i * 2, none⟩) hg _).setCell (p := ⟨g, i * 2 + 1, none⟩) hg _⟩

theorem refFind_some {A : Option Addr} {n c i : Nat} {xs : ByteArray} {xn : Int} {l : List Pl.Pr} {w : World} (h : findO l xs = some i) (hn : n = l.length) (hn63 : n ≤ 140737488355328) (hr : Rd w w.heap.size A (pc l)) :
    Calls Try.prog 11 #[.slice A n c, pv xs xn] w fun e w' => e = .returned (.tuple #[.int .i64 (i : Int), .bool true]) ∧ Below w.heap.size w w' := by
  have := refFind_any A n c xs xn l w hn hn63 hr
  rw [h, firstV_some] at this
  exact this
theorem refFind_none {A : Option Addr} {n c : Nat} {xs : ByteArray} {xn : Int} {l : List Pl.Pr} {w : World} (h : findO l xs = none) (hn : n = l.length) (hn63 : n ≤ 140737488355328) (hr : Rd w w.heap.size A (pc l)) :
    Calls Try.prog 11 #[.slice A n c, pv xs xn] w fun e w' => e = .returned (.tuple #[.int .i64 0, .bool false]) ∧ Below w.heap.size w w' := by
  have := refFind_any A n c xs xn l w hn hn63 hr
  rw [h, firstV_none] at this
  exact this

set_option maxRecDepth 100000 in
set_option maxHeartbeats 1600000 in
theorem refPut_found (A : Option Addr) (n c i : Nat) (xs : ByteArray) (xn : Int) (l : List Pl.Pr) (w : World) (hF : findO l xs = some i) (hn : n = l.length) (hsz : (n + 1) * 24 ≤ 140737488355328) (hr : Rd w w.heap.size A (pc l)) :
    Calls Try.prog 13 #[.slice A n c, pv xs xn] w (NewL w (Pl.putL l (xs, xn))) := by
  obtain ⟨i0, hi0, hz0, hz1, hz2⟩ := info_parts infoP
  have hB : Below w.heap.size w (w.alloc (.cells #[.string xs, .int .i64 xn] 24)) := (Below.refl _ _).alloc (Nat.le_refl _) _
  have hfind := refFind_some (A := A) (c := c) (xn := xn) (w := w.alloc (.cells #[.string xs, .int .i64 xn] 24)) hF hn (by omega) ((hr.below hB).mono (by simp))
  have hi := findO_lt hF
  have hin : i < n := by omega
  have HN := Lib.hid hn
  have HR := Lib.hid hr
  have HB := Lib.hid hB
  have HF := Lib.hid hfind
  have HP := Lib.hid (Pl.put_set (xs, xn) l i hF)
  clear hn hr hB hF hfind
  go_enter Try.func13, Try.ntmps13
  go_wp2_with fail
  refine HF.out.mono ?_
  rintro e w1 ⟨rfl, hb1⟩
  have hq0 : w1.cell? ⟨w.heap.size, 0, none⟩ = some (.string xs) := (hb1.cell (p := ⟨w.heap.size, 0, none⟩) (by simp)).trans (by simp [go_sem])
  have hq1 : w1.cell? ⟨w.heap.size, 1, none⟩ = some (.int .i64 xn) := (hb1.cell (p := ⟨w.heap.size, 1, none⟩) (by simp)).trans (by simp [go_sem])
  have B1 := Lib.hid (HB.out.trans (hb1.mono (by simp)))
  clear hb1
  have Hq0 := Lib.hid hq0
  have Hq1 := Lib.hid hq1
  have lq := World.block_lt_of_cell? w1 _ hq0
  clear hq0 hq1
  go_wp2_with (at_builtin; refine wpList_app rfl (.tmp 17) (.tmp 18) _ rfl w1.heap.size 24 i0 _ 2 24 Try.underlying22 hi0 hz0 hz1 hz2 rfl (by decide) none 0 0 [] rfl (World.ownsRow_nil _ _ _ _) w.heap.size A n c (pc l) rfl (by rw [pc_length, HN.out.symm]) (HR.out.below B1.out) (pc_oneCell _) (by simp only [maxLen]; omega) (by omega) (Nat.le_refl _) ?_; intro A3 c3 w2 hown2 hb2; simp only [Nat.zero_add, List.nil_append] at hown2; obtain ⟨g, rfl⟩ := own_some hown2 (by omega); have hg := own_base hown2 g rfl; have hq0 := (hb2.cell (p := ⟨w.heap.size, 0, none⟩) lq).trans Hq0.out; have hq1 := (hb2.cell (p := ⟨w.heap.size, 1, none⟩) lq).trans Hq1.out; have HO2 := Lib.hid hown2; have HB2 := Lib.hid hb2; obtain ⟨u0, hx0⟩ : ∃ u, w2.cell? ⟨g, i * 2, none⟩ = some u := ⟨_, (hown2.cellAt (i * 2) (by omega)).trans (pc_at0 l i hi)⟩; obtain ⟨u1, hx1⟩ : ∃ u, w2.cell? ⟨g, i * 2 + 1, none⟩ = some u := ⟨_, (hown2.cellAt (i * 2 + 1) (by omega)).trans (pc_at1 l i hi)⟩; have hf0 := hown2.frozenAt (i * 2); have hf1 := hown2.frozenAt (i * 2 + 1); clear hown2 hb2)
  go_ret
  have hS := own_set (i := i) (s := xs) (z := xn) HO2.out hg
  refine ⟨_, n, c3, by rw [HP.out, List.length_set]; exact HN.out, rfl, ?_, B1.out.trans ((HB2.out.trans (hS.2.mono (Nat.le_refl _))).mono (by omega))⟩
  rw [HP.out]
  exact own_down hS.1 (by omega)

set_option maxRecDepth 100000 in
set_option maxHeartbeats 1600000 in
theorem refPut_new (A : Option Addr) (n c : Nat) (xs : ByteArray) (xn : Int) (l : List Pl.Pr) (w : World) (hF : findO l xs = none) (hn : n = l.length) (hsz : (n + 1) * 24 ≤ 140737488355328) (hr : Rd w w.heap.size A (pc l)) :
    Calls Try.prog 13 #[.slice A n c, pv xs xn] w (NewL w (Pl.putL l (xs, xn))) := by
  obtain ⟨i0, hi0, hz0, hz1, hz2⟩ := info_parts infoP
  have hB : Below w.heap.size w (w.alloc (.cells #[.string xs, .int .i64 xn] 24)) := (Below.refl _ _).alloc (Nat.le_refl _) _
  have hfind := refFind_none (A := A) (c := c) (xn := xn) (w := w.alloc (.cells #[.string xs, .int .i64 xn] 24)) hF hn (by omega) ((hr.below hB).mono (by simp))
  have HN := Lib.hid hn
  have HR := Lib.hid hr
  have HB := Lib.hid hB
  have HF := Lib.hid hfind
  have HP := Lib.hid (Pl.insK_put (xs, xn) l hF)
  clear hn hr hB hF hfind
  go_enter Try.func13, Try.ntmps13
  go_wp2_with fail
  refine HF.out.mono ?_
  rintro e w1 ⟨rfl, hb1⟩
  have hq0 : w1.cell? ⟨w.heap.size, 0, none⟩ = some (.string xs) := (hb1.cell (p := ⟨w.heap.size, 0, none⟩) (by simp)).trans (by simp [go_sem])
  have hq1 : w1.cell? ⟨w.heap.size, 1, none⟩ = some (.int .i64 xn) := (hb1.cell (p := ⟨w.heap.size, 1, none⟩) (by simp)).trans (by simp [go_sem])
  have B1 := Lib.hid (HB.out.trans (hb1.mono (by simp)))
  clear hb1
  have Hq0 := Lib.hid hq0
  have Hq1 := Lib.hid hq1
  have lq := World.block_lt_of_cell? w1 _ hq0
  clear hq0 hq1
  go_wp2_with fail
  go_loopw [5, 8, 9] (fun v d i wr => ∃ (k m c' : Nat) (A' : Option Addr) (b : Bool), k ≤ n ∧ i = .int .i64 (k : Int) ∧ m ≤ n + 1 ∧ v = .slice A' m c' ∧ d = .bool b ∧ Hid (m = (insK (xs, xn) l k).1.length ∧ b = (insK (xs, xn) l k).2) ∧
      Hid (wr.ownsRow w1.heap.size 24 2 (.slice A' m c') m (pc (insK (xs, xn) l k).1)) ∧ Hid (Below w1.heap.size w1 wr)) (fun _ _ i _ => n - (intOf i).toNat)
  case atStart => exact ⟨0, 0, 0, none, false, by omega, rfl, by omega, rfl, rfl, Lib.hid ⟨rfl, rfl⟩, Lib.hid (by simpa [insK, pc] using World.ownsRow_nil _ _ _ _), Lib.hid (Below.refl _ _)⟩
  case round =>
    obtain ⟨k, m, c', A', d, hk, rfl, hm1, rfl, rfl, hmd, hown, hbel⟩ := hrel
    have hq0 := (hbel.out.cell (p := ⟨w.heap.size, 0, none⟩) lq).trans Hq0.out
    have hq1 := (hbel.out.cell (p := ⟨w.heap.size, 1, none⟩) lq).trans Hq1.out
    have hsz1 := hbel.out.size
    by_cases hlt : k < n
    · have hl : k < l.length := by rw [← HN.out]; exact hlt
      obtain ⟨b, off, rfl, hb, hc⟩ := HR.out.pair hl
      have hbb := B1.out.trans (hbel.out.mono (by have := B1.out.size; omega))
      have hc0 := (hbb.cell (p := ⟨b, off + k * 2, none⟩) hb).trans (hc k hl).1
      have hc1 := (hbb.cell (p := ⟨b, off + k * 2 + 1, none⟩) hb).trans (hc k hl).2
      have hbw : b < w1.heap.size := by have := B1.out.size; omega
      clear hc hbb
      have hK := insK_succ (xs, xn) l k hl
      have hL1 := insK_len (xs, xn) l (k + 1)
      generalize l[k] = p at hc0 hc1 hK
      obtain ⟨s, z⟩ := p
      have h1 : (0 : Int) ≤ (k : Int) := by omega
      have h2 : (k : Int) < (n : Int) := by omega
      have hL2 : (insK (xs, xn) l (k + 1)).1.length ≤ n + 1 := by split at hL1 <;> omega
      clear hL1
      by_cases hins : (!d && Pl.lt xs s) = true
      · have hd : d = false := by cases d <;> simp_all
        have hls : Pl.lt xs s = true := by cases d <;> simp_all
        subst hd
        have hx : insK (xs, xn) l (k + 1) = ((insK (xs, xn) l k).1 ++ [(xs, xn)] ++ [(s, z)], true) := by
          rw [hK]; unfold insS; rw [← hmd.out.2]; simp [hls]
        rw [hx] at hL2
        have hmm : m + 2 ≤ n + 1 := by have := hmd.out.1; simp only [List.length_append, List.length_cons, List.length_nil] at hL2; omega
        have Hbd : Hid ((m + 1 + 1) * 24 ≤ 140737488355328) := Lib.hid <| Nat.le_trans (Nat.mul_le_mul_right 24 hmm) hsz
        have Hmx : Hid (m + 1 + 1 ≤ maxLen) := Lib.hid (by simp only [maxLen]; omega)
        have HX := Lib.hid hx
        have g1 : Op.bytesLess s.toList xs.toList = false := Pl.lt_asymm hls
        have g2 : (s.toList == xs.toList) = false := by
          rw [Bool.eq_false_iff]; intro e
          have := (Pl.eqv_iff s xs).1 e
          subst this
          rw [Pl.lt_irrefl] at hls; cases hls
        clear hx hK hins hls hL2
        go_wp2_with fail
        go_quiet (fail)
        rename_i nq
        have Bq : Below w1.heap.size w1 (wr.drewN nq) := below_drewN hbel.out nq
        have HOq := Lib.hid (own_below hown.out (below_drewN (Below.refl _ wr) nq))
        have hc0q : (wr.drewN nq).cell? ⟨b, off + k * 2, none⟩ = some (.string s) := hc0
        have hc1q : (wr.drewN nq).cell? ⟨b, off + k * 2 + 1, none⟩ = some (.int .i64 z) := hc1
        have hq0q : (wr.drewN nq).cell? ⟨w.heap.size, 0, none⟩ = some (.string xs) := hq0
        have hq1q : (wr.drewN nq).cell? ⟨w.heap.size, 1, none⟩ = some (.int .i64 xn) := hq1
        have hszq : w1.heap.size ≤ (wr.drewN nq).heap.size := hsz1
        have hbq : b < (wr.drewN nq).heap.size := by have := B1.out.size; omega
        clear hc0 hc1 hq0 hq1 hbel hown hsz1
        generalize wr.drewN nq = wq at *
        have HBq := Lib.hid Bq
        clear Bq
        go_wp2_with (first
          | (at_builtin; refine wpList_app rfl (.tmp 47) (.tmp 52) _ rfl w1.heap.size 24 i0 _ 2 24 Try.underlying22 hi0 hz0 hz1 hz2 rfl (by decide) A5 (m + 1) c5 _ rfl (HO4.out.alloc _) (w4.heap.size + 1) (some ⟨w4.heap.size, 0, none⟩) 1 1 (pc [(s, z)]) rfl rfl (Rd.one w4 _ _ _) (pc_oneCell _) Hmx.out Hbd.out (by simp; omega) ?_; intro A6 c6 w5 hown5 hb5; have HO5 := Lib.hid hown5; have HB5 := Lib.hid ((HB4.out.alloc hsz4 (.cells #[.string s, .int .i64 z] 24)).trans hb5); clear hown5 hb5)
          | (at_builtin; refine wpList_app rfl (.tmp 43) (.tmp 45) _ rfl w1.heap.size 24 i0 _ 2 24 Try.underlying22 hi0 hz0 hz1 hz2 rfl (by decide) A' m c' _ rfl (HOq.out.alloc _) (wq.heap.size + 1) (some ⟨wq.heap.size, 0, none⟩) 1 1 (pc [(xs, xn)]) rfl rfl (Rd.one wq _ _ _) (pc_oneCell _) (by simp only [maxLen]; omega) (by omega) (by simp; omega) ?_; intro A5 c5 w4 hown4 hb4; have HO4 := Lib.hid hown4; have HB4 := Lib.hid ((HBq.out.alloc hszq (.cells #[.string xs, .int .i64 xn] 24)).trans hb4); have hsz4 := HB4.out.size; have hk4 : Below w1.heap.size wq w4 := ((Below.refl _ wq).alloc hszq (.cells #[.string xs, .int .i64 xn] 24)).trans hb4; have hc0r := (hk4.cell (p := ⟨b, off + k * 2, none⟩) hbw).trans hc0q; have hc1r := (hk4.cell (p := ⟨b, off + k * 2 + 1, none⟩) hbw).trans hc1q; clear hk4 hown4 hb4))
        go_roundw
        case rel =>
          have hR1 : Hid (m + 1 + 1 = (insK (xs, xn) l (k + 1)).1.length ∧ true = (insK (xs, xn) l (k + 1)).2) := Lib.hid ⟨by rw [HX.out]; simp only [List.length_append, List.length_cons, List.length_nil]; have := hmd.out.1; omega, by rw [HX.out]⟩
          have hR2 : Hid (w5.ownsRow w1.heap.size 24 2 (.slice A6 (m + 1 + 1) c6) (m + 1 + 1) (pc (insK (xs, xn) l (k + 1)).1)) := Lib.hid (by rw [HX.out]; simp only [pc_append]; exact HO5.out)
          exact ⟨k + 1, m + 1 + 1, c6, A6, true, by omega, by go_num, by omega, rfl, rfl, hR1, hR2, HB5⟩
        case measure => simp [intOf]; omega
      · have hx : insK (xs, xn) l (k + 1) = ((insK (xs, xn) l k).1 ++ [(s, z)], d) := by
          rw [hK]; unfold insS; rw [← hmd.out.2, if_neg hins]
        rw [hx] at hL2
        have hmm : m + 1 ≤ n + 1 := by have := hmd.out.1; simp only [List.length_append, List.length_cons, List.length_nil] at hL2; omega
        have HX := Lib.hid hx
        have hcase : (d = true) ∨ (d = false ∧ Op.bytesLess s.toList xs.toList = true) ∨ (d = false ∧ Op.bytesLess s.toList xs.toList = false ∧ (s.toList == xs.toList) = true) := by
          cases d with
          | true => exact .inl rfl
          | false =>
            right
            have hls : Pl.lt xs s = false := by simpa using hins
            rcases Pl.lt_tri s xs with h | h | h
            · exact .inl ⟨rfl, h⟩
            · subst h; exact .inr ⟨rfl, Pl.lt_irrefl _, by simp⟩
            · rw [hls] at h; cases h
        clear hx hK hins hL2
        have step : ∀ (d' : Bool), d = d' → True := fun _ _ => trivial
        clear step
        rcases hcase with rfl | ⟨rfl, g1⟩ | ⟨rfl, g1, g2⟩
        all_goals
          go_wp2_with fail
          go_quiet (fail)
          rename_i nq
          have Bq : Below w1.heap.size w1 (wr.drewN nq) := below_drewN hbel.out nq
          have HOq := Lib.hid (own_below hown.out (below_drewN (Below.refl _ wr) nq))
          have hc0q : (wr.drewN nq).cell? ⟨b, off + k * 2, none⟩ = some (.string s) := hc0
          have hc1q : (wr.drewN nq).cell? ⟨b, off + k * 2 + 1, none⟩ = some (.int .i64 z) := hc1
          have hq0q : (wr.drewN nq).cell? ⟨w.heap.size, 0, none⟩ = some (.string xs) := hq0
          have hq1q : (wr.drewN nq).cell? ⟨w.heap.size, 1, none⟩ = some (.int .i64 xn) := hq1
          have hszq : w1.heap.size ≤ (wr.drewN nq).heap.size := hsz1
          have hbq : b < (wr.drewN nq).heap.size := by have := B1.out.size; omega
          clear hc0 hc1 hq0 hq1 hbel hown hsz1
          generalize wr.drewN nq = wq at *
          have HBq := Lib.hid Bq
          clear Bq

          go_wp2_with (at_builtin; refine wpList_app rfl (.tmp 47) (.tmp 52) _ rfl w1.heap.size 24 i0 _ 2 24 Try.underlying22 hi0 hz0 hz1 hz2 rfl (by decide) A' m c' _ rfl (HOq.out.alloc _) (wq.heap.size + 1) (some ⟨wq.heap.size, 0, none⟩) 1 1 (pc [(s, z)]) rfl rfl (Rd.one wq _ _ _) (pc_oneCell _) (by simp only [maxLen]; omega) (by omega) (by simp; omega) ?_; intro A6 c6 w5 hown5 hb5; have HO5 := Lib.hid hown5; have HB5 := Lib.hid ((HBq.out.alloc hszq (.cells #[.string s, .int .i64 z] 24)).trans hb5); clear hown5 hb5)
          go_roundw
          case rel => exact ⟨k + 1, m + 1, c6, A6, _, by omega, by go_num, by omega, rfl, rfl, Lib.hid ⟨by rw [HX.out]; simp only [List.length_append, List.length_cons, List.length_nil]; have := hmd.out.1; omega, by rw [HX.out]⟩, Lib.hid (by rw [HX.out, pc_append]; exact HO5.out), HB5⟩
          case measure => simp [intOf]; omega
    · have hkn : k = l.length := by have := HN.out; omega
      rw [hkn] at hown hmd
      cases d with
      | true =>
        have HX := Lib.hid (show Pl.putL l (xs, xn) = (insK (xs, xn) l l.length).1 from by rw [HP.out, ← hmd.out.2]; rfl)
        clear hkn
        go_wp2_with fail
        go_ret
        exact ⟨A', m, c', by rw [HX.out]; exact hmd.out.1, rfl, by rw [HX.out]; exact own_down hown.out (by omega), B1.out.trans (hbel.out.mono (by omega))⟩
      | false =>
        have HX := Lib.hid (show Pl.putL l (xs, xn) = (insK (xs, xn) l l.length).1 ++ [(xs, xn)] from by rw [HP.out, ← hmd.out.2]; rfl)
        have hmn : m ≤ n := by
          have h1 := insK_len (xs, xn) l l.length
          rw [← hmd.out.2, ← hmd.out.1] at h1
          simp at h1
          omega
        clear hkn
        go_wp2_with (at_builtin; refine wpList_app rfl (.tmp 56) (.tmp 58) _ rfl w1.heap.size 24 i0 _ 2 24 Try.underlying22 hi0 hz0 hz1 hz2 rfl (by decide) A' m c' _ rfl (hown.out.alloc _) (wr.heap.size + 1) (some ⟨wr.heap.size, 0, none⟩) 1 1 (pc [(xs, xn)]) rfl rfl (Rd.one wr _ _ _) (pc_oneCell _) (by simp only [maxLen]; omega) (by omega) (by simp; omega) ?_; intro A6 c6 w5 hown5 hb5; have HO5 := Lib.hid hown5; have HB5 := Lib.hid ((hbel.out.alloc hsz1 (.cells #[.string xs, .int .i64 xn] 24)).trans hb5); clear hown5 hb5)
        go_ret
        exact ⟨A6, m + 1, c6, by rw [HX.out, List.length_append]; have := hmd.out.1; simp; omega, rfl, by rw [HX.out, pc_append]; exact own_down HO5.out (by omega), B1.out.trans (HB5.out.mono (by omega))⟩

theorem refPut_any (A : Option Addr) (n c : Nat) (xs : ByteArray) (xn : Int) (l : List Pl.Pr) (w : World) (hn : n = l.length) (hsz : (n + 1) * 24 ≤ 140737488355328) (hr : Rd w w.heap.size A (pc l)) :
    Calls Try.prog 13 #[.slice A n c, pv xs xn] w (NewL w (Pl.putL l (xs, xn))) := by
  cases h : findO l xs with
  | some i => exact refPut_found A n c i xs xn l w h hn hsz hr
  | none => exact refPut_new A n c xs xn l w h hn hsz hr

set_option maxRecDepth 100000 in
set_option maxHeartbeats 1600000 in
theorem refDrop_any (A : Option Addr) (n c : Nat) (xs : ByteArray) (xn : Int) (l : List Pl.Pr) (w : World) (hn : n = l.length) (hsz : n * 24 ≤ 140737488355328) (hr : Rd w w.heap.size A (pc l)) :
    Calls Try.prog 18 #[.slice A n c, pv xs xn] w (NewL w (Pl.dropL l xs)) := by
  obtain ⟨i0, hi0, hz0, hz1, hz2⟩ := info_parts infoP
  have hB : Below w.heap.size w (w.alloc (.cells #[.string xs, .int .i64 xn] 24)) := (Below.refl _ _).alloc (Nat.le_refl _) _
  have hfind := refFind_any A n c xs xn l (w.alloc (.cells #[.string xs, .int .i64 xn] 24)) hn (by omega) ((hr.below hB).mono (by simp))
  obtain ⟨i, d, hio⟩ : ∃ (i : Nat) (d : Bool), Hid (findO l xs = if d then some i else none) := by
    cases hF : findO l xs with
    | some i => exact ⟨i, true, Lib.hid rfl⟩
    | none => exact ⟨0, false, Lib.hid rfl⟩
  have hfind2 : Calls Try.prog 11 #[.slice A n c, pv xs xn] (w.alloc (.cells #[.string xs, .int .i64 xn] 24)) fun e w' => (∃ i' : Nat, e = .returned (.tuple #[.int .i64 (i' : Int), .bool d]) ∧ (d = true → i' = i)) ∧ Below (w.heap.size + 1) (w.alloc (.cells #[.string xs, .int .i64 xn] 24)) w' := by
    refine hfind.mono fun e w' ⟨he, hb⟩ => ⟨?_, hb.mono (by simp)⟩
    rw [he, hio.out]
    cases d with
    | true => exact ⟨i, rfl, fun _ => rfl⟩
    | false => exact ⟨0, rfl, fun h => by cases h⟩
  have HN := Lib.hid hn
  have HR := Lib.hid hr
  have HB := Lib.hid hB
  have HF := Lib.hid hfind2
  have HP := Lib.hid (Pl.offK_drop xs l)
  have HL := Lib.hid (Pl.offK_len (findO l xs) l)
  clear hn hr hB hfind hfind2
  go_enter Try.func18, Try.ntmps18
  go_wp2_with fail
  refine HF.out.mono ?_
  rintro e w1 ⟨⟨i', rfl, hii⟩, hb1⟩
  have HII := Lib.hid hii
  have B1 := Lib.hid (HB.out.trans (hb1.mono (by omega)))
  have hw1 : w.heap.size + 1 ≤ w1.heap.size := by have := hb1.size; simpa using this
  clear hb1 hii
  go_wp2_with fail
  go_loopw [7, 8] (fun v i wr => ∃ (k m c' : Nat) (A' : Option Addr), k ≤ n ∧ i = .int .i64 (k : Int) ∧ m ≤ k ∧ v = .slice A' m c' ∧ Hid (m = (Pl.offK (findO l xs) l k).length) ∧
      Hid (wr.ownsRow w1.heap.size 24 2 (.slice A' m c') m (pc (Pl.offK (findO l xs) l k))) ∧ Hid (Below w1.heap.size w1 wr)) (fun _ i _ => n - (intOf i).toNat)
  case atStart =>
    have h0 : Pl.offK (findO l xs) l 0 = [] := List.eq_nil_of_length_eq_zero (by have := Pl.offK_len (findO l xs) l 0; omega)
    exact ⟨0, 0, 0, none, by omega, rfl, by omega, rfl, Lib.hid (by rw [h0]; rfl), Lib.hid (by rw [h0]; exact World.ownsRow_nil _ _ _ _), Lib.hid (Below.refl _ _)⟩
  case round =>
    obtain ⟨k, m, c', A', hk, rfl, hmk, rfl, hmd, hown, hbel⟩ := hrel
    have hsz1 := hbel.out.size
    by_cases hlt : k < n
    · have hl : k < l.length := by rw [← HN.out]; exact hlt
      obtain ⟨b, off, rfl, hb, hc⟩ := HR.out.pair hl
      have hbb := B1.out.trans (hbel.out.mono (by omega))
      have hc0 := (hbb.cell (p := ⟨b, off + k * 2, none⟩) hb).trans (hc k hl).1
      have hc1 := (hbb.cell (p := ⟨b, off + k * 2 + 1, none⟩) hb).trans (hc k hl).2
      clear hc hbb
      have hK := Pl.offK_succ (findO l xs) l k hl
      have hlen := HL.out (k + 1)
      generalize l[k] = p at hc0 hc1 hK
      obtain ⟨s, z⟩ := p
      have h1 : (0 : Int) ≤ (k : Int) := by omega
      have h2 : (k : Int) < (n : Int) := by omega
      by_cases hx : d = true ∧ k = i'
      · obtain ⟨rfl, rfl⟩ := hx
        have hx : Pl.offK (findO l xs) l (k + 1) = Pl.offK (findO l xs) l k := by
          rw [hK, if_pos (by rw [hio.out, if_pos rfl, HII.out rfl]), List.append_nil]
        have HX := Lib.hid hx
        have hnn : ((k : Int) != (k : Int)) = false := by simp
        clear hx hK hlen
        go_wp2_with fail
        go_roundw
        case rel => exact ⟨k + 1, m, c', A', by omega, by go_num, by omega, rfl, Lib.hid (by rw [HX.out]; exact hmd.out), Lib.hid (by rw [HX.out]; exact hown.out), hbel⟩
        case measure => simp [intOf]; omega
      · have hx : Pl.offK (findO l xs) l (k + 1) = Pl.offK (findO l xs) l k ++ [(s, z)] := by
          rw [hK, if_neg]
          intro e
          rw [hio.out] at e
          cases d with
          | false => simp at e
          | true =>
            simp at e
            exact hx ⟨rfl, by rw [HII.out rfl]; exact e.symm⟩
        have HX := Lib.hid hx
        have hcase : d = false ∨ (d = true ∧ ((k : Int) != (i' : Int)) = true) := by
          cases d with
          | false => exact .inl rfl
          | true => exact .inr ⟨rfl, by rw [bne_iff_ne]; intro e; exact hx ⟨rfl, by omega⟩⟩
        clear hx hK hlen
        rcases hcase with rfl | ⟨rfl, hne⟩
        all_goals
          go_wp2_with (at_builtin; refine wpList_app rfl (.tmp 28) (.tmp 33) _ rfl w1.heap.size 24 i0 _ 2 24 Try.underlying22 hi0 hz0 hz1 hz2 rfl (by decide) A' m c' _ rfl (hown.out.alloc _) (wr.heap.size + 1) (some ⟨wr.heap.size, 0, none⟩) 1 1 (pc [(s, z)]) rfl rfl (Rd.one wr _ _ _) (pc_oneCell _) (by simp only [maxLen]; omega) (by omega) (by simp; omega) ?_; intro A6 c6 w5 hown5 hb5; have HO5 := Lib.hid hown5; have HB5 := Lib.hid ((hbel.out.alloc hsz1 (.cells #[.string s, .int .i64 z] 24)).trans hb5); clear hown5 hb5)
          go_roundw
          case rel => exact ⟨k + 1, m + 1, c6, A6, by omega, by go_num, by omega, rfl, Lib.hid (by rw [HX.out, List.length_append]; have := hmd.out; simp; omega), Lib.hid (by rw [HX.out, pc_append]; exact HO5.out), HB5⟩
          case measure => simp [intOf]; omega
    · have hkn : k = l.length := by have := HN.out; omega
      rw [hkn, HP.out] at hown hmd
      clear hkn
      go_wp2_with fail
      go_ret
      exact ⟨A', m, c', hmd.out, rfl, own_down hown.out (by omega), B1.out.trans (hbel.out.mono (by omega))⟩
end Go.Proofs.Ytcpfhmipjpbhnaa
