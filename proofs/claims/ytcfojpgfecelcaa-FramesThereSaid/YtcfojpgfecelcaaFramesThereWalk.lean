/-
  The walk of FramesThere.
-/
import Derived.Test.YtcfojpgfecelcaaFApp
namespace Go.Proofs.Ytcfojpgfecelcaa.framesThere
open Go.RowKit

theorem sc_take {w : World} {B : Nat} {A : Option Addr} {l : List ByteArray} (h : Rd w B A (sc l)) (i : Nat) : Rd w B A (sc (l.take i)) := by
  have e : sc l = sc (l.take i) ++ sc (l.drop i) := by rw [← sc_append, List.take_append_drop]
  rw [e] at h
  exact h.take

set_option maxRecDepth 100000 in
set_option maxHeartbeats 6400000 in
theorem walk (A : Option Addr) (n c : Nat) (l : List ByteArray) (w : World) (hn : n = l.length) (hnc : n ≤ c) (hu : n * 16 ≤ 140737488351232) (hr : Rd w w.heap.size A (sc l)) :
    Calls Try.prog 6 #[.slice A n c] w fun e w' => e = .returned (.bool true) ∧ Below w.heap.size w w' := by
  have HN := Lib.hid hn
  cases hJF : Pl.joinF l with
  | none =>
    have HJ := Lib.hid ((join_none hJF).code A n c w hn hnc hr)
    have HR := Lib.hid hr
    clear hn hr hJF
    go_enter Try.func6, Try.ntmps6
    go_wp2_with fail
    refine HJ.out.mono ?_
    rintro e w1 ⟨rfl, h1⟩
    have HB := Lib.hid h1
    have RL := Lib.hid ((HR.out.below h1).mono h1.size)
    clear h1 HR HJ
    go_wp2_with fail
    go_loopw [9] (fun i wr => ∃ j : Nat, j ≤ n ∧ i = .int .i64 (j : Int) ∧ Hid (Rd wr wr.heap.size A (sc l)) ∧ Hid (Below w.heap.size w wr)) (fun i _ => n - (intOf i).toNat)
    case atStart => exact ⟨0, by omega, rfl, RL, HB⟩
    case round =>
      obtain ⟨j, hj, rfl, HR, HW⟩ := hrel
      by_cases hlt : j < n
      · have hjl : j < l.length := by rw [← HN.out]; exact hlt
        obtain ⟨b, off, rfl, hb, hcs⟩ := HR.out.str_at hjl
        have hck := hcs j hjl
        generalize l[j] = sj at hck
        clear hcs
        have g1 : (0 : Int) ≤ (j : Int) := by omega
        have g2 : (j : Int) < (n : Int) := by omega
        cases hT : Pl.tellF sj with
        | none =>
          have HT := Lib.hid (tell_none hT)
          go_wp2_with fail
          refine (HT.out _).mono ?_
          rintro e w3 ⟨rfl, hb3⟩
          have HO : Hid (Below wr.heap.size wr (w3.alloc (.cells #[.int .i64 0, .int .i64 0, .int .i64 0, .string ⟨#[]⟩] 27))) := Lib.hid (hb3.alloc hb3.size _)
          clear hb3
          go_wp2_with fail
          go_roundw
          case rel => exact ⟨j + 1, by omega, by go_num, Lib.hid ((HR.out.below HO.out).mono HO.out.size), Lib.hid (HW.out.trans (HO.out.mono HW.out.size))⟩
          case measure => simp [intOf]; omega
        | some q =>
          obtain ⟨n1, p1, k1, d1⟩ := q
          have HT := Lib.hid (tell_some hT)
          obtain ⟨_, hok, hd1, _⟩ := Pl.tell_inv hT
          obtain ⟨y1, y2, y3, y4, _, _⟩ := (Pl.okB_iff _ _ _ _).1 hok
          have f1 : decide ((n1 : Int) < 1) = false := decide_eq_false (by omega)
          have f2 : decide ((p1 : Int) < 0) = false := decide_eq_false (by omega)
          have f3 : decide ((k1 : Int) ≤ (p1 : Int)) = false := decide_eq_false (by omega)
          have f4 : decide (k1 ≤ p1) = false := decide_eq_false (by omega)
          have f5 : decide ((8 : Int) < (k1 : Int)) = false := decide_eq_false (by omega)
          have f6 : decide ((55 : Int) < (d1.size : Int)) = false := decide_eq_false (by omega)
          have f7 : decide (n1 < 1) = false := decide_eq_false (by omega)
          have f8 : decide (8 < k1) = false := decide_eq_false (by omega)
          have f9 : decide (55 < d1.size) = false := decide_eq_false (by omega)
          clear hok hT
          go_wp2_with fail
          refine (HT.out _).mono ?_
          rintro e w3 ⟨rfl, hb3⟩
          have HO : Hid (Below wr.heap.size wr (w3.alloc (.cells #[.int .i64 (n1 : Int), .int .i64 (p1 : Int), .int .i64 (k1 : Int), .string d1] 27))) := Lib.hid (hb3.alloc hb3.size _)
          clear hb3
          go_wp2_with fail
          go_roundw
          case rel => exact ⟨j + 1, by omega, by go_num, Lib.hid ((HR.out.below HO.out).mono HO.out.size), Lib.hid (HW.out.trans (HO.out.mono HW.out.size))⟩
          case measure => simp [intOf]; omega
      · obtain rfl : j = n := by omega
        go_wp2_with fail
        refine (awake_any _).mono ?_
        rintro e w3 ⟨rfl, hb3⟩
        have HW3 := Lib.hid (HW.out.trans (hb3.mono HW.out.size))
        clear hb3
        go_wp2_with fail
        go_ret
        exact ⟨rfl, HW3.out⟩
  | some q =>
    obtain ⟨jn, jd, jk⟩ := q
    have HJ := Lib.hid ((join_some hJF).code A n c w hn hnc hr)
    obtain ⟨z1, z2, z3, z4, z5, z6, z7⟩ := Pl.lay_join hJF
    have HL := Lib.hid (lay_some (show Pl.layF (jn : Int) ⟨jd.toArray⟩ = some (l.take jk) from by rw [← z7]; exact layF_some z1 z2 (by show jd.toArray.size ≤ 440; simpa using z5)))
    have HTL := Lib.hid (show (l.take jk).length = jk from by rw [List.length_take]; omega)
    have HR := Lib.hid hr
    rw [← hn] at z4
    have f1 : decide ((jk : Int) < 1) = false := decide_eq_false (by omega)
    have f2 : decide ((n : Int) < (jk : Int)) = false := decide_eq_false (by omega)
    have f3 : decide (jk < 1) = false := decide_eq_false (by omega)
    have f4 : decide (n < jk) = false := decide_eq_false (by omega)
    have f5 : (0 : Int) ≤ (jk : Int) := by omega
    have f6 : (jk : Int) ≤ (c : Int) := by omega
    clear hn hr hJF z5 z6 z7
    go_enter Try.func6, Try.ntmps6
    go_wp2_with fail
    refine HJ.out.mono ?_
    rintro e w1 ⟨rfl, h1⟩
    have H1 := Lib.hid h1
    have R1 := Lib.hid ((HR.out.below h1).mono h1.size)
    clear h1 HR HJ
    go_wp2_with fail
    refine (HL.out.code _).mono ?_
    rintro e w2 ⟨A3, n3, c3, rfl, hn3, _, hr3, h2⟩
    have H2 := Lib.hid (H1.out.trans (h2.mono H1.out.size))
    have R2 := Lib.hid ((R1.out.below h2).mono h2.size)
    have R3 := Lib.hid hr3
    have N3 := Lib.hid hn3
    clear h2 hr3 hn3 R1 H1
    go_wp2_with fail
    refine (texts_any A3 A n3 c3 jk c (l.take jk) w2 N3.out HTL.out.symm (by rw [N3.out, HTL.out]; omega) R3.out (sc_take R2.out jk)).mono ?_
    rintro e w3 ⟨rfl, h3⟩
    have HB := Lib.hid (H2.out.trans (h3.mono H2.out.size))
    have RL := Lib.hid ((R2.out.below h3).mono h3.size)
    clear h3 R2 H2
    go_wp2_with fail
    clear f1 f2 f3 f4 f5 f6
    go_loopw [9] (fun i wr => ∃ j : Nat, j ≤ n ∧ i = .int .i64 (j : Int) ∧ Hid (Rd wr wr.heap.size A (sc l)) ∧ Hid (Below w.heap.size w wr)) (fun i _ => n - (intOf i).toNat)
    case atStart => exact ⟨0, by omega, rfl, RL, HB⟩
    case round =>
      obtain ⟨j, hj, rfl, HR, HW⟩ := hrel
      by_cases hlt : j < n
      · have hjl : j < l.length := by rw [← HN.out]; exact hlt
        obtain ⟨b, off, rfl, hb, hcs⟩ := HR.out.str_at hjl
        have hck := hcs j hjl
        generalize l[j] = sj at hck
        clear hcs
        have g1 : (0 : Int) ≤ (j : Int) := by omega
        have g2 : (j : Int) < (n : Int) := by omega
        cases hT : Pl.tellF sj with
        | none =>
          have HT := Lib.hid (tell_none hT)
          go_wp2_with fail
          refine (HT.out _).mono ?_
          rintro e w3 ⟨rfl, hb3⟩
          have HO : Hid (Below wr.heap.size wr (w3.alloc (.cells #[.int .i64 0, .int .i64 0, .int .i64 0, .string ⟨#[]⟩] 27))) := Lib.hid (hb3.alloc hb3.size _)
          clear hb3
          go_wp2_with fail
          go_roundw
          case rel => exact ⟨j + 1, by omega, by go_num, Lib.hid ((HR.out.below HO.out).mono HO.out.size), Lib.hid (HW.out.trans (HO.out.mono HW.out.size))⟩
          case measure => simp [intOf]; omega
        | some q =>
          obtain ⟨n1, p1, k1, d1⟩ := q
          have HT := Lib.hid (tell_some hT)
          obtain ⟨_, hok, hd1, _⟩ := Pl.tell_inv hT
          obtain ⟨y1, y2, y3, y4, _, _⟩ := (Pl.okB_iff _ _ _ _).1 hok
          have f1 : decide ((n1 : Int) < 1) = false := decide_eq_false (by omega)
          have f2 : decide ((p1 : Int) < 0) = false := decide_eq_false (by omega)
          have f3 : decide ((k1 : Int) ≤ (p1 : Int)) = false := decide_eq_false (by omega)
          have f4 : decide (k1 ≤ p1) = false := decide_eq_false (by omega)
          have f5 : decide ((8 : Int) < (k1 : Int)) = false := decide_eq_false (by omega)
          have f6 : decide ((55 : Int) < (d1.size : Int)) = false := decide_eq_false (by omega)
          have f7 : decide (n1 < 1) = false := decide_eq_false (by omega)
          have f8 : decide (8 < k1) = false := decide_eq_false (by omega)
          have f9 : decide (55 < d1.size) = false := decide_eq_false (by omega)
          clear hok hT
          go_wp2_with fail
          refine (HT.out _).mono ?_
          rintro e w3 ⟨rfl, hb3⟩
          have HO : Hid (Below wr.heap.size wr (w3.alloc (.cells #[.int .i64 (n1 : Int), .int .i64 (p1 : Int), .int .i64 (k1 : Int), .string d1] 27))) := Lib.hid (hb3.alloc hb3.size _)
          clear hb3
          go_wp2_with fail
          go_roundw
          case rel => exact ⟨j + 1, by omega, by go_num, Lib.hid ((HR.out.below HO.out).mono HO.out.size), Lib.hid (HW.out.trans (HO.out.mono HW.out.size))⟩
          case measure => simp [intOf]; omega
      · obtain rfl : j = n := by omega
        go_wp2_with fail
        refine (awake_any _).mono ?_
        rintro e w3 ⟨rfl, hb3⟩
        have HW3 := Lib.hid (HW.out.trans (hb3.mono HW.out.size))
        clear hb3
        go_wp2_with fail
        go_ret
        exact ⟨rfl, HW3.out⟩
end Go.Proofs.Ytcfojpgfecelcaa.framesThere
