/-
  The walk of FramesTorn.
-/
import Derived.Test.YtcfojpgfecelcaaFApp
namespace Go.Proofs.Ytcfojpgfecelcaa.framesTorn
open Go.RowKit

theorem lay_inv {x : Int} {data : ByteArray} {l : List ByteArray} (h : Pl.layF x data = some l) : ∃ n : Nat, x = (n : Int) ∧ 1 ≤ n ∧ n ≤ 2147483647 ∧ data.size ≤ 440 ∧ l = Pl.secs n data := by
  unfold Pl.layF at h
  split at h
  · rename_i hc
    injection h with h
    exact ⟨x.toNat, by omega, by omega, by omega, hc.2.2, h.symm⟩
  · cases h
theorem sc_take {w : World} {B : Nat} {A : Option Addr} {l : List ByteArray} (h : Rd w B A (sc l)) (i : Nat) : Rd w B A (sc (l.take i)) := by
  have e : sc l = sc (l.take i) ++ sc (l.drop i) := by rw [← sc_append, List.take_append_drop]
  rw [e] at h
  exact h.take
/-- What the two frames' laying says of the law's first question. -/
theorem both (x : Int) (da : ByteArray) (y : Int) (db : ByteArray) : ∃ (la lb : List ByteArray) (ea eb : Int), la.length ≤ 8 ∧ lb.length ≤ 8 ∧ LayU x da la ea ∧ LayU y db lb eb ∧
    (((ea != 0) = true ∨ ((ea != 0) = false ∧ (eb != 0) = true) ∨ ((ea != 0) = false ∧ (eb != 0) = false ∧ (x == y) = true ∧ ((la.length : Int) == (lb.length : Int)) = true)) ∨
     ((ea != 0) = false ∧ (eb != 0) = false ∧ 1 ≤ la.length ∧ ((x == y) = false ∨ ((x == y) = true ∧ ((la.length : Int) == (lb.length : Int)) = false)) ∧ ∀ i, 1 ≤ i → i < la.length → i < lb.length → Pl.joinF (la.take i ++ lb.drop i) = none)) := by
  cases hA : Pl.layF x da with
  | none =>
    obtain ⟨lb, eb, h8, hB⟩ := lay_u y db
    exact ⟨[], lb, 43, eb, by simp, h8, lay_none hA, hB, .inl (.inl rfl)⟩
  | some la =>
    obtain ⟨n, rfl, a1, a2, a3, rfl⟩ := lay_inv hA
    have h8 : (Pl.secs n da).length ≤ 8 := by rw [Pl.secs_length]; exact Pl.partsN_le a3
    cases hB : Pl.layF y db with
    | none => exact ⟨_, [], 0, 43, h8, by simp, lay_some hA, lay_none hB, .inl (.inr (.inl ⟨rfl, rfl⟩))⟩
    | some lb =>
      obtain ⟨m, rfl, b1, b2, b3, rfl⟩ := lay_inv hB
      have h9 : (Pl.secs m db).length ≤ 8 := by rw [Pl.secs_length]; exact Pl.partsN_le b3
      refine ⟨_, _, 0, 0, h8, h9, lay_some hA, lay_some hB, ?_⟩
      have e1 := Pl.secs_length n da
      have e2 := Pl.secs_length m db
      by_cases hx : n = m
      · by_cases hp : Pl.partsN da.size = Pl.partsN db.size
        · exact .inl (.inr (.inr ⟨rfl, rfl, by rw [hx]; exact beq_self_eq_true _, by rw [e1, e2, hp]; exact beq_self_eq_true _⟩))
        · refine .inr ⟨rfl, rfl, by rw [e1]; exact Pl.partsN_pos _, .inr ⟨by rw [hx]; exact beq_self_eq_true _, by rw [e1, e2]; simp; omega⟩, fun i i1 i2 i3 => ?_⟩
          rw [e1] at i2
          rw [e2] at i3
          exact Pl.join_torn2 a1 a2 a3 b1 b2 b3 i i1 i2 i3 (fun h => hp h.2)
      · refine .inr ⟨rfl, rfl, by rw [e1]; exact Pl.partsN_pos _, .inl (by simp; omega), fun i i1 i2 i3 => ?_⟩
        rw [e1] at i2
        rw [e2] at i3
        exact Pl.join_torn2 a1 a2 a3 b1 b2 b3 i i1 i2 i3 (fun h => hx h.1)
/-- A frame's variable. -/
def FB (w : World) (b : Nat) (x : Int) (d : ByteArray) : Prop := w.heap[b]? = some (.cells #[.int .i64 x, .string d] 42 (0, 0))

set_option maxRecDepth 100000 in
set_option maxHeartbeats 6400000 in
theorem walk (x : Int) (da : ByteArray) (y : Int) (db : ByteArray) (at_ : Int) (w : World) :
    Calls Try.prog 7 #[.agg #[.int .i64 x, .string da], .agg #[.int .i64 y, .string db], .int .i64 at_] w fun e w' => e = .returned (.bool true) ∧ Below w.heap.size w w' := by
  obtain ⟨la, lb, ea, eb, ha8, hb8, hLA, hLB, hcase⟩ := both x da y db
  have HLA := Lib.hid hLA
  have HLB := Lib.hid hLB
  have HCASE := Lib.hid hcase
  clear hLA hLB hcase
  go_enter Try.func7, Try.ntmps7
  go_wp2_with fail
  have hB0 : Below w.heap.size w ((w.alloc (.cells #[.int .i64 x, .string da] 42)).alloc (.cells #[.int .i64 y, .string db] 42)) := ((Below.refl _ _).alloc (Nat.le_refl _) _).alloc (by simp) _
  have hF0 : FB ((w.alloc (.cells #[.int .i64 x, .string da] 42)).alloc (.cells #[.int .i64 y, .string db] 42)) w.heap.size x da := (Below.heap_alloc _ _ _ (by simp)).trans (new_block _ _)
  have hF1 : FB ((w.alloc (.cells #[.int .i64 x, .string da] 42)).alloc (.cells #[.int .i64 y, .string db] 42)) (w.heap.size + 1) y db := by
    have := new_block (w.alloc (.cells #[.int .i64 x, .string da] 42)) (.cells #[.int .i64 y, .string db] 42)
    rwa [show (w.alloc (.cells #[.int .i64 x, .string da] 42)).heap.size = w.heap.size + 1 from by simp] at this
  have H0 := Lib.hid hB0
  have F0 := Lib.hid hF0
  have F1 := Lib.hid hF1
  clear hB0 hF0 hF1
  generalize ((w.alloc (.cells #[.int .i64 x, .string da] 42)).alloc (.cells #[.int .i64 y, .string db] 42)) = w0 at H0 F0 F1 ⊢
  refine (HLA.out.code _).mono ?_
  rintro e w1 ⟨Aa, na, ca, rfl, rfl, hca, hra, h1⟩
  have H1 := Lib.hid (H0.out.trans (h1.mono H0.out.size))
  have G0 : Hid (FB w1 w.heap.size x da) := Lib.hid ((h1.block _ (lt_of_block F0.out)).trans F0.out)
  have G1 : Hid (FB w1 (w.heap.size + 1) y db) := Lib.hid ((h1.block _ (lt_of_block F1.out)).trans F1.out)
  have RA := Lib.hid hra
  clear h1 hra F0 F1 H0
  have q0 : w1.cell? ⟨w.heap.size + 1, 0, none⟩ = some (.int .i64 y) := by rw [cell_of_block G1.out]; rfl
  have q1 : w1.cell? ⟨w.heap.size + 1, 1, none⟩ = some (.string db) := by rw [cell_of_block G1.out]; rfl
  go_wp2_with fail
  refine (HLB.out.code _).mono ?_
  rintro e w2 ⟨Ab, nb, cb, rfl, rfl, hcb, hrb, h2⟩
  have H2 := Lib.hid (H1.out.trans (h2.mono H1.out.size))
  have F0 : Hid (FB w2 w.heap.size x da) := Lib.hid ((h2.block _ (lt_of_block G0.out)).trans G0.out)
  have F1 : Hid (FB w2 (w.heap.size + 1) y db) := Lib.hid ((h2.block _ (lt_of_block G1.out)).trans G1.out)
  have RA := Lib.hid ((RA.out.below h2).mono h2.size)
  have RB := Lib.hid hrb
  clear h2 hrb G0 G1 H1 q0 q1
  have q0 : w2.cell? ⟨w.heap.size, 0, none⟩ = some (.int .i64 x) := by rw [cell_of_block F0.out]; rfl
  have q1 : w2.cell? ⟨w.heap.size + 1, 0, none⟩ = some (.int .i64 y) := by rw [cell_of_block F1.out]; rfl
  rcases HCASE.out with (d1 | ⟨d1, d2⟩ | ⟨d1, d2, d3, d4⟩) | ⟨d1, d2, hp1, d3, hj⟩
  · go_wp2_with fail
    refine (awake_any _).mono ?_
    rintro e w3 ⟨rfl, h3⟩
    have H3 := Lib.hid (H2.out.trans (h3.mono H2.out.size))
    clear h3
    go_wp2_with fail
    go_ret
    exact ⟨rfl, H3.out⟩
  · go_wp2_with fail
    refine (awake_any _).mono ?_
    rintro e w3 ⟨rfl, h3⟩
    have H3 := Lib.hid (H2.out.trans (h3.mono H2.out.size))
    clear h3
    go_wp2_with fail
    go_ret
    exact ⟨rfl, H3.out⟩
  · go_wp2_with fail
    refine (awake_any _).mono ?_
    rintro e w3 ⟨rfl, h3⟩
    have H3 := Lib.hid (H2.out.trans (h3.mono H2.out.size))
    clear h3
    go_wp2_with fail
    go_ret
    exact ⟨rfl, H3.out⟩
  · have HJ := Lib.hid hj
    clear hj HCASE
    obtain ⟨t, ht⟩ : ∃ t : Int, min (max at_ 1) ((la.length : Int) - 1) = t := ⟨_, rfl⟩
    have htu : t < (la.length : Int) := by omega
    rcases d3 with d3 | ⟨d3, d4⟩
    all_goals
      by_cases t1 : t < 1
      · have e1 : decide (t < 1) = true := decide_eq_true t1
        go_wp2_with fail
        refine (awake_any _).mono ?_
        rintro e w3 ⟨rfl, h3⟩
        have H3 := Lib.hid (H2.out.trans (h3.mono H2.out.size))
        clear h3
        go_wp2_with fail
        go_ret
        exact ⟨rfl, H3.out⟩
      · have e1 : decide (t < 1) = false := decide_eq_false t1
        by_cases t2 : (lb.length : Int) ≤ t
        · have e2 : decide ((lb.length : Int) ≤ t) = true := decide_eq_true t2
          go_wp2_with fail
          refine (awake_any _).mono ?_
          rintro e w3 ⟨rfl, h3⟩
          have H3 := Lib.hid (H2.out.trans (h3.mono H2.out.size))
          clear h3
          go_wp2_with fail
          go_ret
          exact ⟨rfl, H3.out⟩
        · have e2 : decide ((lb.length : Int) ≤ t) = false := decide_eq_false t2
          obtain ⟨i, rfl⟩ := Int.eq_ofNat_of_zero_le (show 0 ≤ t by omega)
          have e3 : decide (lb.length ≤ i) = false := decide_eq_false (by omega)
          go_wp2_with fail
          have hi1 : 1 ≤ i := by omega
          have hi2 : i < la.length := by omega
          have hi3 : i < lb.length := by omega
          have HJ := Lib.hid (join_none (HJ.out i hi1 hi2 hi3))
          obtain ⟨i0, hi, hz0, hz1, hz2⟩ := info_parts infoS
          have hcut := fun W => run_cut (P := Try.prog) 22 9 1 i0 Try.underlying22 hi hz1 Ab lb.length cb i (by omega) W
          have s1 : (0 : Int) ≤ (i : Int) := by omega
          have s2 : (i : Int) ≤ (ca : Int) := by omega
          have hb0 : Below w2.drew.heap.size w2.drew (w2.drew.alloc (.cells #[] 9)) := (Below.refl _ _).alloc (Nat.le_refl _) _
          have hO0 := own_empty w2.drew
          have hRA : Rd (w2.drew.alloc (.cells #[] 9)) w2.drew.heap.size Aa (sc (la.take i)) := (sc_take (show Rd w2.drew w2.drew.heap.size Aa (sc la) from RA.out) i).below hb0
          have hRB : Rd (w2.drew.alloc (.cells #[] 9)) w2.drew.heap.size (cutA Ab cb i 1) (sc (lb.drop i)) := by
            have := (show Rd w2.drew w2.drew.heap.size Ab (sc lb) from RB.out).cut 1 i cb (fun e => by rw [sc_length]; omega)
            rw [Nat.mul_one, ← sc_drop] at this
            exact this.below hb0
          have htl : i = (la.take i).length := by rw [List.length_take]; omega
          have hdl : lb.length - i = (lb.drop i).length := by rw [List.length_drop]
          have HRA := Lib.hid hRA
          have HRB := Lib.hid hRB
          have HTL := Lib.hid htl
          have HDL := Lib.hid hdl
          clear hRA hRB htl hdl ht htu e1 e2 e3 t1 t2 q0 q1 d1 d2 d3
          refine wp_region_noPanic ?_
          refine wp_region_any (by kernel_rfl) ?_
          refine wpAny_take (i := 1) (v := .slice Aa la.length ca) rfl (by kernel_rfl) (by kernel_rfl) (by kernel_rfl) (fun _ _ _ h => h) (.inl ⟨by rfl, fun w => by go_simp⟩) ?_
          (try go_frame)
          refine wpAny_take (i := 2) (v := .int .i64 (i : Int)) rfl (by kernel_rfl) (by kernel_rfl) (by kernel_rfl) (fun _ _ _ h => h) (.inl ⟨by rfl, fun w => by go_simp⟩) ?_
          (try go_frame)
          refine wpAny_take (i := 3) (v := .slice Aa i ca) rfl (by kernel_rfl) (by kernel_rfl) (by kernel_rfl) (fun _ _ _ h => h) (.inl ⟨by rfl, fun w => by go_simp⟩) ?_
          (try go_frame)
          refine wpAny_take (i := 5) (v := .slice Ab lb.length cb) rfl (by kernel_rfl) (by kernel_rfl) (by kernel_rfl) (fun _ _ _ h => h) (.inl ⟨by rfl, fun w => by go_simp⟩) ?_
          (try go_frame)
          refine wpAny_take (i := 6) (v := .int .i64 (i : Int)) rfl (by kernel_rfl) (by kernel_rfl) (by kernel_rfl) (fun _ _ _ h => h) (.inl ⟨by rfl, fun w => by go_simp⟩) ?_
          (try go_frame)
          refine wpAny_take (i := 7) (v := .slice (cutA Ab cb i 1) (lb.length - i) (cb - i)) rfl (by kernel_rfl) (by kernel_rfl) (by kernel_rfl) (fun _ _ _ h => h) (.inl ⟨by rfl, fun w => by go_simp⟩) ?_
          (try go_frame)
          change wpAny _ _ _ _ _ _ _ w2.drew
          refine wpAny_ready (rs := [0]) (by kernel_rfl) (by simp) ?_
          refine AllReady.cons rfl (fun K hK => ?_) AllReady.nil
          go_simp
          refine hK _ _ ?_
          clear hK K
          (try go_frame)
          refine wpAny_ready (rs := [4]) (by kernel_rfl) (by simp) ?_
          refine AllReady.cons rfl (fun K hK => ?_) AllReady.nil
          rw [if_pos (by rfl)]
          refine wp_app_s (.tmp 69) (.tmp 72) rfl w2.drew.heap.size _ 0 0 [] rfl hO0 w2.drew.heap.size Aa i ca (la.take i) rfl HTL.out HRA.out (by omega) hb0.size ?_
          intro A1 c1 w3 ho1 hb1
          rw [List.nil_append, Nat.zero_add] at ho1
          rw [Nat.zero_add]
          refine hK _ _ ?_
          clear hK K
          (try go_frame)
          refine wpAny_ready (rs := [8]) (by kernel_rfl) (by simp) ?_
          refine AllReady.cons rfl (fun K hK => ?_) AllReady.nil
          rw [if_pos (by rfl)]
          refine wp_app_s (.tmp 73) (.tmp 76) rfl w2.drew.heap.size _ i c1 (la.take i) rfl ho1 w2.drew.heap.size (cutA Ab cb i 1) (lb.length - i) (cb - i) (lb.drop i) rfl HDL.out (HRB.out.below hb1) (by omega) (Nat.le_trans hb0.size hb1.size) ?_
          intro A2 c2 w4 ho2 hb2
          refine hK _ _ ?_
          clear hK K
          (try go_frame)
          refine wpAny_take (i := 9) (v := .slice A2 (i + (lb.length - i)) c2) rfl (by kernel_rfl) (by kernel_rfl) (by kernel_rfl) (fun _ _ _ h => h) (.inl ⟨by rfl, fun w => by go_simp⟩) ?_
          (try go_frame)
          refine wpAny_done (by kernel_rfl) ?_ _
          refine NoPanic.normal ?_
          have hb02 := hb0.trans (hb1.trans hb2)
          have H4 := Lib.hid (H2.out.drew.trans (hb02.mono H2.out.drew.size))
          have R4 := Lib.hid (Rd.of_own ho2)
          have hc4 := own_cap ho2
          have HM := Lib.hid (show i + (lb.length - i) = (la.take i ++ lb.drop i).length from by rw [List.length_append, ← HTL.out, ← HDL.out])
          clear hb0 hb1 hb2 hb02 ho1 ho2 hO0 hcut
          generalize i + (lb.length - i) = mm at HM R4 hc4 ⊢
          go_wp2_with fail
          refine (HJ.out.code A2 mm c2 _ HM.out hc4 R4.out).mono ?_
          rintro e w5 ⟨rfl, h5⟩
          have H5 := Lib.hid (H4.out.trans (h5.mono H4.out.size))
          clear h5
          go_wp2_with fail
          refine (awake_any _).mono ?_
          rintro e w6 ⟨rfl, h6⟩
          have H6 := Lib.hid (H5.out.trans (h6.mono H5.out.size))
          clear h6
          go_wp2_with fail
          go_ret
          exact ⟨rfl, H6.out⟩
end Go.Proofs.Ytcfojpgfecelcaa.framesTorn
