/-
  CONTRACT of the reference's Tell.
-/
import Derived.Test.YtcfojpgfecelcaaFTell
import Derived.Test.YtcfojpgfecelcaaFRSec
namespace Go.Proofs.Ytcfojpgfecelcaa
open Go.RowKit

/-- Block b is a part's variable, the reference's. -/
def RB (w : World) (b n p k : Nat) (d : ByteArray) : Prop := w.heap[b]? = some (.cells #[.int .i64 (n : Int), .int .i64 (p : Int), .int .i64 (k : Int), .string d] 30 (0, 0))

/-- A part's variable, read whole. -/
theorem load_rpart {W : World} {b : Nat} {v0 v1 v2 v3 : Value} (h : W.heap[b]? = some (.cells #[v0, v1, v2, v3] 30 (0, 0))) :
    (loadVar 30 ⟨b, 0, none⟩).run Try.prog W = .ok (.agg #[v0, v1, v2, v3]) W := by
  have c0 : W.cell? ⟨b, 0, none⟩ = some v0 := by rw [cell_of_block h]; rfl
  have c1 : W.cell? ⟨b, 1, none⟩ = some v1 := by rw [cell_of_block h]; rfl
  have c2 : W.cell? ⟨b, 2, none⟩ = some v2 := by rw [cell_of_block h]; rfl
  have c3 : W.cell? ⟨b, 3, none⟩ = some v3 := by rw [cell_of_block h]; rfl
  go_simp
theorem ret_rpart {W : World} {b : Nat} {v0 v1 v2 v3 u : Value} {fn : Func} {p q : Tmp} {tmps : Array Value} (hf : fn.results = #[.cell p 30, .tmp q]) (hp : tmps.getD p undef = .pointer (some ⟨b, 0, none⟩)) (hq : tmps.getD q undef = u)
    (h : W.heap[b]? = some (.cells #[v0, v1, v2, v3] 30 (0, 0))) :
    (results fn tmps).run Try.prog W = .ok (.tuple #[.agg #[v0, v1, v2, v3], u]) W := by
  rw [results_cell_tmp hf, hp, hq]
  simp [asAddr, Result.andThen, load_rpart h]

set_option maxRecDepth 100000 in
set_option maxHeartbeats 3200000 in
theorem rtell_any (s : ByteArray) (w : World) :
    Calls Try.prog 12 #[.string s] w (TellPost s w) := by
  by_cases h64 : s.size = 64
  · have hN : (Pl.byteAt s 0 : Int) * 16777216 + (Pl.byteAt s 1 : Int) * 65536 + (Pl.byteAt s 2 : Int) * 256 + (Pl.byteAt s 3 : Int) = (Pl.numB s : Int) := by unfold Pl.numB; omega
    have e0 := Pl.byteAt_get s 0 (by omega)
    have l0 := Pl.byteAt_lt s 0
    have g0 : IntKind.i64.wrap (Pl.byteAt s 0 : Int) = (Pl.byteAt s 0 : Int) := IntWalk.i64_in _ (by omega)
    have e1 := Pl.byteAt_get s 1 (by omega)
    have l1 := Pl.byteAt_lt s 1
    have g1 : IntKind.i64.wrap (Pl.byteAt s 1 : Int) = (Pl.byteAt s 1 : Int) := IntWalk.i64_in _ (by omega)
    have e2 := Pl.byteAt_get s 2 (by omega)
    have l2 := Pl.byteAt_lt s 2
    have g2 : IntKind.i64.wrap (Pl.byteAt s 2 : Int) = (Pl.byteAt s 2 : Int) := IntWalk.i64_in _ (by omega)
    have e3 := Pl.byteAt_get s 3 (by omega)
    have l3 := Pl.byteAt_lt s 3
    have g3 : IntKind.i64.wrap (Pl.byteAt s 3 : Int) = (Pl.byteAt s 3 : Int) := IntWalk.i64_in _ (by omega)
    have e4 := Pl.byteAt_get s 4 (by omega)
    have l4 := Pl.byteAt_lt s 4
    have g4 : IntKind.i64.wrap (Pl.byteAt s 4 : Int) = (Pl.byteAt s 4 : Int) := IntWalk.i64_in _ (by omega)
    have e5 := Pl.byteAt_get s 5 (by omega)
    have l5 := Pl.byteAt_lt s 5
    have g5 : IntKind.i64.wrap (Pl.byteAt s 5 : Int) = (Pl.byteAt s 5 : Int) := IntWalk.i64_in _ (by omega)
    have e6 := Pl.byteAt_get s 6 (by omega)
    have l6 := Pl.byteAt_lt s 6
    have m0 : IntKind.i64.wrap ((Pl.byteAt s 0 : Int) * 16777216) = (Pl.byteAt s 0 : Int) * 16777216 := IntWalk.i64_in _ (by omega)
    have m1 : IntKind.i64.wrap ((Pl.byteAt s 1 : Int) * 65536) = (Pl.byteAt s 1 : Int) * 65536 := IntWalk.i64_in _ (by omega)
    have m2 : IntKind.i64.wrap ((Pl.byteAt s 2 : Int) * 256) = (Pl.byteAt s 2 : Int) * 256 := IntWalk.i64_in _ (by omega)
    have a1 : IntKind.i64.wrap ((Pl.byteAt s 0 : Int) * 16777216 + (Pl.byteAt s 1 : Int) * 65536) = (Pl.byteAt s 0 : Int) * 16777216 + (Pl.byteAt s 1 : Int) * 65536 := IntWalk.i64_in _ (by omega)
    have a2 : IntKind.i64.wrap ((Pl.byteAt s 0 : Int) * 16777216 + (Pl.byteAt s 1 : Int) * 65536 + (Pl.byteAt s 2 : Int) * 256) = (Pl.byteAt s 0 : Int) * 16777216 + (Pl.byteAt s 1 : Int) * 65536 + (Pl.byteAt s 2 : Int) * 256 := IntWalk.i64_in _ (by omega)
    have a3 : IntKind.i64.wrap ((Pl.byteAt s 0 : Int) * 16777216 + (Pl.byteAt s 1 : Int) * 65536 + (Pl.byteAt s 2 : Int) * 256 + (Pl.byteAt s 3 : Int)) = (Pl.byteAt s 0 : Int) * 16777216 + (Pl.byteAt s 1 : Int) * 65536 + (Pl.byteAt s 2 : Int) * 256 + (Pl.byteAt s 3 : Int) := IntWalk.i64_in _ (by omega)
    have HNN := Lib.hid hN
    clear hN
    go_enter Try.func12, Try.ntmps12
    go_wp2_with fail
    apply region_to
    case h =>
      refine wp_region_any (by kernel_rfl) ?_
      refine wpAny_take (i := 0) (v := .string s) rfl (by kernel_rfl) (by kernel_rfl) (by kernel_rfl) (fun _ _ _ h => nomatch h.1) (.inl ⟨by rfl, fun w => by go_simp⟩) ?_
      (try go_frame)
      refine wpAny_take (i := 1) (v := .int .u8 (Pl.byteAt s 0 : Int)) rfl (by kernel_rfl) (by kernel_rfl) (by kernel_rfl) (fun _ _ _ h => nomatch h.1) (.inl ⟨by rfl, fun w => by go_simp⟩) ?_
      (try go_frame)
      refine wpAny_take (i := 2) (v := .int .i64 (Pl.byteAt s 0 : Int)) rfl (by kernel_rfl) (by kernel_rfl) (by kernel_rfl) (fun _ _ _ h => nomatch h.1) (.inl ⟨by rfl, fun w => by go_simp⟩) ?_
      (try go_frame)
      refine wpAny_take (i := 3) (v := .int .i64 ((Pl.byteAt s 0 : Int) * 16777216)) rfl (by kernel_rfl) (by kernel_rfl) (by kernel_rfl) (fun _ _ _ h => nomatch h.1) (.inl ⟨by rfl, fun w => by go_simp⟩) ?_
      (try go_frame)
      refine wpAny_take (i := 4) (v := .string s) rfl (by kernel_rfl) (by kernel_rfl) (by kernel_rfl) (fun _ _ _ h => nomatch h.1) (.inl ⟨by rfl, fun w => by go_simp⟩) ?_
      (try go_frame)
      refine wpAny_take (i := 5) (v := .int .u8 (Pl.byteAt s 1 : Int)) rfl (by kernel_rfl) (by kernel_rfl) (by kernel_rfl) (fun _ _ _ h => nomatch h.1) (.inl ⟨by rfl, fun w => by go_simp⟩) ?_
      (try go_frame)
      refine wpAny_take (i := 6) (v := .int .i64 (Pl.byteAt s 1 : Int)) rfl (by kernel_rfl) (by kernel_rfl) (by kernel_rfl) (fun _ _ _ h => nomatch h.1) (.inl ⟨by rfl, fun w => by go_simp⟩) ?_
      (try go_frame)
      refine wpAny_take (i := 7) (v := .int .i64 ((Pl.byteAt s 1 : Int) * 65536)) rfl (by kernel_rfl) (by kernel_rfl) (by kernel_rfl) (fun _ _ _ h => nomatch h.1) (.inl ⟨by rfl, fun w => by go_simp⟩) ?_
      (try go_frame)
      refine wpAny_take (i := 8) (v := .int .i64 ((Pl.byteAt s 0 : Int) * 16777216 + (Pl.byteAt s 1 : Int) * 65536)) rfl (by kernel_rfl) (by kernel_rfl) (by kernel_rfl) (fun _ _ _ h => nomatch h.1) (.inl ⟨by rfl, fun w => by go_simp⟩) ?_
      (try go_frame)
      refine wpAny_take (i := 9) (v := .string s) rfl (by kernel_rfl) (by kernel_rfl) (by kernel_rfl) (fun _ _ _ h => nomatch h.1) (.inl ⟨by rfl, fun w => by go_simp⟩) ?_
      (try go_frame)
      refine wpAny_take (i := 10) (v := .int .u8 (Pl.byteAt s 2 : Int)) rfl (by kernel_rfl) (by kernel_rfl) (by kernel_rfl) (fun _ _ _ h => nomatch h.1) (.inl ⟨by rfl, fun w => by go_simp⟩) ?_
      (try go_frame)
      refine wpAny_take (i := 11) (v := .int .i64 (Pl.byteAt s 2 : Int)) rfl (by kernel_rfl) (by kernel_rfl) (by kernel_rfl) (fun _ _ _ h => nomatch h.1) (.inl ⟨by rfl, fun w => by go_simp⟩) ?_
      (try go_frame)
      refine wpAny_take (i := 12) (v := .int .i64 ((Pl.byteAt s 2 : Int) * 256)) rfl (by kernel_rfl) (by kernel_rfl) (by kernel_rfl) (fun _ _ _ h => nomatch h.1) (.inl ⟨by rfl, fun w => by go_simp⟩) ?_
      (try go_frame)
      refine wpAny_take (i := 13) (v := .int .i64 ((Pl.byteAt s 0 : Int) * 16777216 + (Pl.byteAt s 1 : Int) * 65536 + (Pl.byteAt s 2 : Int) * 256)) rfl (by kernel_rfl) (by kernel_rfl) (by kernel_rfl) (fun _ _ _ h => nomatch h.1) (.inl ⟨by rfl, fun w => by go_simp⟩) ?_
      (try go_frame)
      refine wpAny_take (i := 14) (v := .string s) rfl (by kernel_rfl) (by kernel_rfl) (by kernel_rfl) (fun _ _ _ h => nomatch h.1) (.inl ⟨by rfl, fun w => by go_simp⟩) ?_
      (try go_frame)
      refine wpAny_take (i := 15) (v := .int .u8 (Pl.byteAt s 3 : Int)) rfl (by kernel_rfl) (by kernel_rfl) (by kernel_rfl) (fun _ _ _ h => nomatch h.1) (.inl ⟨by rfl, fun w => by go_simp⟩) ?_
      (try go_frame)
      refine wpAny_take (i := 16) (v := .int .i64 (Pl.byteAt s 3 : Int)) rfl (by kernel_rfl) (by kernel_rfl) (by kernel_rfl) (fun _ _ _ h => nomatch h.1) (.inl ⟨by rfl, fun w => by go_simp⟩) ?_
      (try go_frame)
      refine wpAny_take (i := 17) (v := .int .i64 ((Pl.byteAt s 0 : Int) * 16777216 + (Pl.byteAt s 1 : Int) * 65536 + (Pl.byteAt s 2 : Int) * 256 + (Pl.byteAt s 3 : Int))) rfl (by kernel_rfl) (by kernel_rfl) (by kernel_rfl) (fun _ _ _ h => nomatch h.1) (.inl ⟨by rfl, fun w => by go_simp⟩) ?_
      (try go_frame)
      refine wpAny_take (i := 18) (v := .string s) rfl (by kernel_rfl) (by kernel_rfl) (by kernel_rfl) (fun _ _ _ h => nomatch h.1) (.inl ⟨by rfl, fun w => by go_simp⟩) ?_
      (try go_frame)
      refine wpAny_take (i := 19) (v := .int .u8 (Pl.byteAt s 4 : Int)) rfl (by kernel_rfl) (by kernel_rfl) (by kernel_rfl) (fun _ _ _ h => nomatch h.1) (.inl ⟨by rfl, fun w => by go_simp⟩) ?_
      (try go_frame)
      refine wpAny_take (i := 20) (v := .int .i64 (Pl.byteAt s 4 : Int)) rfl (by kernel_rfl) (by kernel_rfl) (by kernel_rfl) (fun _ _ _ h => nomatch h.1) (.inl ⟨by rfl, fun w => by go_simp⟩) ?_
      (try go_frame)
      refine wpAny_take (i := 21) (v := .string s) rfl (by kernel_rfl) (by kernel_rfl) (by kernel_rfl) (fun _ _ _ h => nomatch h.1) (.inl ⟨by rfl, fun w => by go_simp⟩) ?_
      (try go_frame)
      refine wpAny_take (i := 22) (v := .int .u8 (Pl.byteAt s 5 : Int)) rfl (by kernel_rfl) (by kernel_rfl) (by kernel_rfl) (fun _ _ _ h => nomatch h.1) (.inl ⟨by rfl, fun w => by go_simp⟩) ?_
      (try go_frame)
      refine wpAny_take (i := 23) (v := .int .i64 (Pl.byteAt s 5 : Int)) rfl (by kernel_rfl) (by kernel_rfl) (by kernel_rfl) (fun _ _ _ h => nomatch h.1) (.inl ⟨by rfl, fun w => by go_simp⟩) ?_
      (try go_frame)
      refine wpAny_take (i := 24) (v := .agg #[.int .i64 ((Pl.byteAt s 0 : Int) * 16777216 + (Pl.byteAt s 1 : Int) * 65536 + (Pl.byteAt s 2 : Int) * 256 + (Pl.byteAt s 3 : Int)), .int .i64 (Pl.byteAt s 4 : Int), .int .i64 (Pl.byteAt s 5 : Int), .string ⟨#[]⟩]) rfl (by kernel_rfl) (by kernel_rfl) (by kernel_rfl) (fun _ _ _ h => nomatch h.1) (.inl ⟨by rfl, fun w => by go_simp⟩) ?_
      (try go_frame)
      refine wpAny_ready (rs := [25]) (by kernel_rfl) (by simp) ?_
      refine AllReady.cons rfl (fun K hK => ?_) ?_
      · go_simp
        refine hK _ _ ?_
        clear hK K
        (try go_frame)
        refine wpAny_ready (rs := [26]) (by kernel_rfl) (by simp) ?_
        refine AllReady.cons rfl (fun K hK => ?_) ?_
        · go_simp
          refine hK _ _ ?_
          clear hK K
          (try go_frame)
          refine wpAny_done (by kernel_rfl) ?_ _
          exact ⟨rfl, rfl, rfl⟩
        exact AllReady.nil
      exact AllReady.nil
    case hq =>
      rw [HNN.out]
      have hR : ((w.alloc (.cells #[.int .i64 0, .int .i64 0, .int .i64 0, .string ⟨#[]⟩] 30)).drew.alloc (.cells #[.int .i64 (Pl.numB s : Int), .int .i64 (Pl.byteAt s 4 : Int), .int .i64 (Pl.byteAt s 5 : Int), .string ⟨#[]⟩] 30)).heap[w.heap.size]? = some (.cells #[.int .i64 0, .int .i64 0, .int .i64 0, .string ⟨#[]⟩] 30) := (Below.heap_alloc _ _ w.heap.size (by show w.heap.size < (w.alloc _).heap.size; simp)).trans (new_block w _)
      have hQ : RB ((w.alloc (.cells #[.int .i64 0, .int .i64 0, .int .i64 0, .string ⟨#[]⟩] 30)).drew.alloc (.cells #[.int .i64 (Pl.numB s : Int), .int .i64 (Pl.byteAt s 4 : Int), .int .i64 (Pl.byteAt s 5 : Int), .string ⟨#[]⟩] 30)) (w.heap.size + 1) (Pl.numB s) (Pl.byteAt s 4) (Pl.byteAt s 5) ⟨#[]⟩ := by
        have := new_block (w.alloc (.cells #[.int .i64 0, .int .i64 0, .int .i64 0, .string ⟨#[]⟩] 30)).drew (.cells #[.int .i64 (Pl.numB s : Int), .int .i64 (Pl.byteAt s 4 : Int), .int .i64 (Pl.byteAt s 5 : Int), .string ⟨#[]⟩] 30)
        rwa [show (w.alloc (.cells #[.int .i64 0, .int .i64 0, .int .i64 0, .string ⟨#[]⟩] 30)).drew.heap.size = w.heap.size + 1 from by show (w.alloc _).heap.size = _; simp] at this
      have HB2 := Lib.hid ((((Below.refl w.heap.size w).alloc (Nat.le_refl _) (.cells #[.int .i64 0, .int .i64 0, .int .i64 0, .string ⟨#[]⟩] 30)).drew).alloc (by show w.heap.size ≤ (w.alloc _).heap.size; simp) (.cells #[.int .i64 (Pl.numB s : Int), .int .i64 (Pl.byteAt s 4 : Int), .int .i64 (Pl.byteAt s 5 : Int), .string ⟨#[]⟩] 30))
      have HR2 := Lib.hid hR
      have HQ2 := Lib.hid hQ
      clear hR hQ g0 g1 g2 g3 g4 g5 m0 m1 m2 a1 a2 a3 HNN
      change Exit.then _ _ _ _ ((w.alloc (.cells #[.int .i64 0, .int .i64 0, .int .i64 0, .string ⟨#[]⟩] 30)).drew.alloc (.cells #[.int .i64 (Pl.numB s : Int), .int .i64 (Pl.byteAt s 4 : Int), .int .i64 (Pl.byteAt s 5 : Int), .string ⟨#[]⟩] 30))
      generalize ((w.alloc (.cells #[.int .i64 0, .int .i64 0, .int .i64 0, .string ⟨#[]⟩] 30)).drew.alloc (.cells #[.int .i64 (Pl.numB s : Int), .int .i64 (Pl.byteAt s 4 : Int), .int .i64 (Pl.byteAt s 5 : Int), .string ⟨#[]⟩] 30)) = w2 at HB2 HR2 HQ2 ⊢
      have hTB := @tell_bad s
      have hTE := @tell_else s
      have hTG := @tell_good s h64
      have hTL := @tell_long s
      have hnb : Pl.numB s ≤ 4294967295 := by unfold Pl.numB; omega
      clear e0 e1 e2 e3 e4 e5 l0 l1 l2 l3
      generalize Pl.byteAt s 0 = b0 at *
      generalize Pl.byteAt s 1 = b1 at *
      generalize Pl.byteAt s 2 = b2 at *
      generalize Pl.byteAt s 3 = b3 at *
      generalize Pl.numB s = n at *
      generalize Pl.byteAt s 4 = p at *
      generalize Pl.byteAt s 5 = k at *
      generalize Pl.byteAt s 6 = m at *
      have q0 : w2.cell? ⟨w.heap.size + 1, 0, none⟩ = some (.int .i64 (n : Int)) := by rw [cell_of_block HQ2.out]; rfl
      have q1 : w2.cell? ⟨w.heap.size + 1, 1, none⟩ = some (.int .i64 (p : Int)) := by rw [cell_of_block HQ2.out]; rfl
      have q2 : w2.cell? ⟨w.heap.size + 1, 2, none⟩ = some (.int .i64 (k : Int)) := by rw [cell_of_block HQ2.out]; rfl
      have q3 : w2.cell? ⟨w.heap.size + 1, 3, none⟩ = some (.string ⟨#[]⟩) := by rw [cell_of_block HQ2.out]; rfl
      have g3 : w2.frozen? ⟨w.heap.size + 1, 3, none⟩ = false := frozen_of_block HQ2.out
      have c0 : w2.cell? ⟨w.heap.size, 0, none⟩ = some (.int .i64 0) := by rw [cell_of_block HR2.out]; rfl
      have c1 : w2.cell? ⟨w.heap.size, 1, none⟩ = some (.int .i64 0) := by rw [cell_of_block HR2.out]; rfl
      have c2 : w2.cell? ⟨w.heap.size, 2, none⟩ = some (.int .i64 0) := by rw [cell_of_block HR2.out]; rfl
      have c3 : w2.cell? ⟨w.heap.size, 3, none⟩ = some (.string ⟨#[]⟩) := by rw [cell_of_block HR2.out]; rfl
      have f0 : w2.frozen? ⟨w.heap.size, 0, none⟩ = false := frozen_of_block HR2.out
      have f1 : w2.frozen? ⟨w.heap.size, 1, none⟩ = false := frozen_of_block HR2.out
      have f2 : w2.frozen? ⟨w.heap.size, 2, none⟩ = false := frozen_of_block HR2.out
      have f3 : w2.frozen? ⟨w.heap.size, 3, none⟩ = false := frozen_of_block HR2.out
      by_cases i0 : 1 ≤ n
      · have i0b0 : decide ((n : Int) < 1) = false := decide_eq_false (by omega)
        have i0b1 : decide (n < 1) = false := decide_eq_false (by omega)
        by_cases i1 : n ≤ 2147483647
        · have i1b0 : decide (2147483647 < (n : Int)) = false := decide_eq_false (by omega)
          have i1b1 : decide (2147483647 < n) = false := decide_eq_false (by omega)
          by_cases i2 : 1 ≤ k
          · have i2b0 : decide ((k : Int) < 1) = false := decide_eq_false (by omega)
            have i2b1 : decide (k < 1) = false := decide_eq_false (by omega)
            by_cases i3 : k ≤ 8
            · have i3b0 : decide (8 < (k : Int)) = false := decide_eq_false (by omega)
              have i3b1 : decide (8 < k) = false := decide_eq_false (by omega)
              by_cases i4 : p < k
              · have i4b0 : decide ((k : Int) ≤ (p : Int)) = false := decide_eq_false (by omega)
                have i4b1 : decide (k ≤ p) = false := decide_eq_false (by omega)
                by_cases i5 : m ≤ 55
                · have i5b0 : decide (55 < (m : Int)) = false := decide_eq_false (by omega)
                  have i5b1 : decide (55 < m) = false := decide_eq_false (by omega)
                  have hds : (s.extract 7 (7 + m)).size = m := by rw [Pl.ext_size _ _ _ (by omega)]; omega
                  have HSE := Lib.hid (fun W => rsector_any n p k (s.extract 7 (7 + m)) W (by omega) (by omega) (by omega) (by omega))
                  clear hds
                  have s0 : (0 : Int) ≤ 7 + (m : Int) := by omega
                  have s1 : (7 : Int) ≤ 7 + (m : Int) := by omega
                  have s2 : 7 + (m : Int) ≤ (s.size : Int) := by omega
                  have s3 : 7 + (m : Int) ≤ 64 := by omega
                  have s4 : (7 + (m : Int)).toNat = 7 + m := by omega
                  by_cases i6 : p + 1 < k
                  · have i6b0 : ((p : Int) == (k : Int) - 1) = false := by simp; omega
                    by_cases i7 : 55 ≤ m
                    · have i7b0 : ((m : Int) != 55) = false := by simp; omega
                      have hok : Pl.okB n p k m = true := (Pl.okB_iff _ _ _ _).2 (by omega)
                      by_cases heq : Pl.secB n p k (s.extract 7 (7 + m)) = s
                      · have HT := Lib.hid (hTG (by omega) hok heq)
                        rw [heq] at HSE
                        clear hTB hTE hTG hTL hok heq
                        have qq : (s.toList == s.toList) = true := beq_self_eq_true _
                        go_wp2_with fail
                        refine (HSE.out _).mono ?_
                        rintro e w3 ⟨rfl, hb⟩
                        clear q0 q1 q2 q3 c0 c1 c2 c3 f0 f1 f2 f3 g3
                        have hsz : (w2.setCell ⟨w.heap.size + 1, 3, none⟩ (.string (s.extract 7 (7 + m)))).heap.size = w2.heap.size := by simp [World.setCell]
                        have hx0 := lt_of_block HR2.out
                        have hx1 := lt_of_block HQ2.out
                        have HB3 := Lib.hid ((HB2.out.setCell (p := ⟨w.heap.size + 1, 3, none⟩) (Nat.le_succ _) (.string (s.extract 7 (7 + m)))).trans (hb.mono (by have := HB2.out.size; omega)))
                        have HR3 := Lib.hid ((hb.block w.heap.size (by omega)).trans ((block_setCell_other (by omega) _).trans HR2.out))
                        have HQ3 : Hid (RB w3 (w.heap.size + 1) n p k (s.extract 7 (7 + m))) := Lib.hid ((hb.block (w.heap.size + 1) (by omega)).trans (block_setCell HQ2.out _))
                        clear hb hsz hx0 hx1
                        have c0 : w3.cell? ⟨w.heap.size, 0, none⟩ = some (.int .i64 0) := by rw [cell_of_block HR3.out]; rfl
                        have c1 : w3.cell? ⟨w.heap.size, 1, none⟩ = some (.int .i64 0) := by rw [cell_of_block HR3.out]; rfl
                        have c2 : w3.cell? ⟨w.heap.size, 2, none⟩ = some (.int .i64 0) := by rw [cell_of_block HR3.out]; rfl
                        have c3 : w3.cell? ⟨w.heap.size, 3, none⟩ = some (.string ⟨#[]⟩) := by rw [cell_of_block HR3.out]; rfl
                        have f0 : w3.frozen? ⟨w.heap.size, 0, none⟩ = false := frozen_of_block HR3.out
                        have f1 : w3.frozen? ⟨w.heap.size, 1, none⟩ = false := frozen_of_block HR3.out
                        have f2 : w3.frozen? ⟨w.heap.size, 2, none⟩ = false := frozen_of_block HR3.out
                        have f3 : w3.frozen? ⟨w.heap.size, 3, none⟩ = false := frozen_of_block HR3.out
                        have q0 : w3.cell? ⟨w.heap.size + 1, 0, none⟩ = some (.int .i64 (n : Int)) := by rw [cell_of_block HQ3.out]; rfl
                        have q1 : w3.cell? ⟨w.heap.size + 1, 1, none⟩ = some (.int .i64 (p : Int)) := by rw [cell_of_block HQ3.out]; rfl
                        have q2 : w3.cell? ⟨w.heap.size + 1, 2, none⟩ = some (.int .i64 (k : Int)) := by rw [cell_of_block HQ3.out]; rfl
                        have q3 : w3.cell? ⟨w.heap.size + 1, 3, none⟩ = some (.string (s.extract 7 (7 + m))) := by rw [cell_of_block HQ3.out]; rfl
                        go_wp2_with fail
                        (try simp only [Exit.inBlock, Exit.then])
                        refine bodyPost_ret (ret_rpart rfl rfl rfl (by rw [block_setCell (block_setCell (block_setCell (block_setCell HR3.out _) _) _) _]; rfl)) rfl ?_
                        exact ⟨by rw [HT.out]; rfl, ((((HB3.out.setCell (p := ⟨w.heap.size, 0, none⟩) (Nat.le_refl _) _).setCell (p := ⟨w.heap.size, 1, none⟩) (Nat.le_refl _) _).setCell (p := ⟨w.heap.size, 2, none⟩) (Nat.le_refl _) _).setCell (p := ⟨w.heap.size, 3, none⟩) (Nat.le_refl _) _)⟩
                      · have HT := Lib.hid (hTE heq)
                        have qq : ((Pl.secB n p k (s.extract 7 (7 + m))).toList == s.toList) = false := by
                          rw [beq_eq_false_iff_ne]
                          intro h
                          rw [ByteArray.toList_eq, ByteArray.toList_eq] at h
                          exact heq (Pl.ba_ext h)
                        clear hTB hTE hTG hTL hok
                        go_wp2_with fail
                        refine (HSE.out _).mono ?_
                        rintro e w3 ⟨rfl, hb⟩
                        clear q0 q1 q2 q3 c0 c1 c2 c3 f0 f1 f2 f3 g3
                        have hsz : (w2.setCell ⟨w.heap.size + 1, 3, none⟩ (.string (s.extract 7 (7 + m)))).heap.size = w2.heap.size := by simp [World.setCell]
                        have hx0 := lt_of_block HR2.out
                        have hx1 := lt_of_block HQ2.out
                        have HB3 := Lib.hid ((HB2.out.setCell (p := ⟨w.heap.size + 1, 3, none⟩) (Nat.le_succ _) (.string (s.extract 7 (7 + m)))).trans (hb.mono (by have := HB2.out.size; omega)))
                        have HR3 := Lib.hid ((hb.block w.heap.size (by omega)).trans ((block_setCell_other (by omega) _).trans HR2.out))
                        have HQ3 : Hid (RB w3 (w.heap.size + 1) n p k (s.extract 7 (7 + m))) := Lib.hid ((hb.block (w.heap.size + 1) (by omega)).trans (block_setCell HQ2.out _))
                        clear hb hsz hx0 hx1
                        have c0 : w3.cell? ⟨w.heap.size, 0, none⟩ = some (.int .i64 0) := by rw [cell_of_block HR3.out]; rfl
                        have c1 : w3.cell? ⟨w.heap.size, 1, none⟩ = some (.int .i64 0) := by rw [cell_of_block HR3.out]; rfl
                        have c2 : w3.cell? ⟨w.heap.size, 2, none⟩ = some (.int .i64 0) := by rw [cell_of_block HR3.out]; rfl
                        have c3 : w3.cell? ⟨w.heap.size, 3, none⟩ = some (.string ⟨#[]⟩) := by rw [cell_of_block HR3.out]; rfl
                        have f0 : w3.frozen? ⟨w.heap.size, 0, none⟩ = false := frozen_of_block HR3.out
                        have f1 : w3.frozen? ⟨w.heap.size, 1, none⟩ = false := frozen_of_block HR3.out
                        have f2 : w3.frozen? ⟨w.heap.size, 2, none⟩ = false := frozen_of_block HR3.out
                        have f3 : w3.frozen? ⟨w.heap.size, 3, none⟩ = false := frozen_of_block HR3.out
                        go_wp2_with fail
                        (try simp only [Exit.inBlock, Exit.then])
                        refine bodyPost_ret (ret_rpart rfl rfl rfl (by rw [block_setCell (block_setCell (block_setCell (block_setCell HR3.out _) _) _) _]; rfl)) rfl ?_
                        exact ⟨by rw [HT.out]; rfl, ((((HB3.out.setCell (p := ⟨w.heap.size, 0, none⟩) (Nat.le_refl _) _).setCell (p := ⟨w.heap.size, 1, none⟩) (Nat.le_refl _) _).setCell (p := ⟨w.heap.size, 2, none⟩) (Nat.le_refl _) _).setCell (p := ⟨w.heap.size, 3, none⟩) (Nat.le_refl _) _)⟩
                    · have i7b0 : ((m : Int) != 55) = true := by simp; omega
                      have HT := Lib.hid (hTB (Bool.eq_false_iff.2 (fun h => by have := (Pl.okB_iff _ _ _ _).1 h; omega)))
                      clear hTB hTE hTG hTL
                      go_wp2_with fail
                      (try simp only [Exit.inBlock, Exit.then])
                      refine bodyPost_ret (ret_rpart rfl rfl rfl (by rw [block_setCell (block_setCell (block_setCell (block_setCell HR2.out _) _) _) _]; rfl)) rfl ?_
                      exact ⟨by rw [HT.out]; rfl, ((((HB2.out.setCell (p := ⟨w.heap.size, 0, none⟩) (Nat.le_refl _) _).setCell (p := ⟨w.heap.size, 1, none⟩) (Nat.le_refl _) _).setCell (p := ⟨w.heap.size, 2, none⟩) (Nat.le_refl _) _).setCell (p := ⟨w.heap.size, 3, none⟩) (Nat.le_refl _) _)⟩
                  · have i6b0 : ((p : Int) == (k : Int) - 1) = true := by simp; omega
                    by_cases i8 : m < 1
                    · have i8b0 : ((m : Int) == 0) = true := by simp; omega
                      by_cases i9 : k < 2
                      · have i9b0 : decide (1 < (k : Int)) = false := decide_eq_false (by omega)
                        have i9b1 : decide (1 < k) = false := decide_eq_false (by omega)
                        have hok : Pl.okB n p k m = true := (Pl.okB_iff _ _ _ _).2 (by omega)
                        by_cases heq : Pl.secB n p k (s.extract 7 (7 + m)) = s
                        · have HT := Lib.hid (hTG (by omega) hok heq)
                          rw [heq] at HSE
                          clear hTB hTE hTG hTL hok heq
                          have qq : (s.toList == s.toList) = true := beq_self_eq_true _
                          go_wp2_with fail
                          refine (HSE.out _).mono ?_
                          rintro e w3 ⟨rfl, hb⟩
                          clear q0 q1 q2 q3 c0 c1 c2 c3 f0 f1 f2 f3 g3
                          have hsz : (w2.setCell ⟨w.heap.size + 1, 3, none⟩ (.string (s.extract 7 (7 + m)))).heap.size = w2.heap.size := by simp [World.setCell]
                          have hx0 := lt_of_block HR2.out
                          have hx1 := lt_of_block HQ2.out
                          have HB3 := Lib.hid ((HB2.out.setCell (p := ⟨w.heap.size + 1, 3, none⟩) (Nat.le_succ _) (.string (s.extract 7 (7 + m)))).trans (hb.mono (by have := HB2.out.size; omega)))
                          have HR3 := Lib.hid ((hb.block w.heap.size (by omega)).trans ((block_setCell_other (by omega) _).trans HR2.out))
                          have HQ3 : Hid (RB w3 (w.heap.size + 1) n p k (s.extract 7 (7 + m))) := Lib.hid ((hb.block (w.heap.size + 1) (by omega)).trans (block_setCell HQ2.out _))
                          clear hb hsz hx0 hx1
                          have c0 : w3.cell? ⟨w.heap.size, 0, none⟩ = some (.int .i64 0) := by rw [cell_of_block HR3.out]; rfl
                          have c1 : w3.cell? ⟨w.heap.size, 1, none⟩ = some (.int .i64 0) := by rw [cell_of_block HR3.out]; rfl
                          have c2 : w3.cell? ⟨w.heap.size, 2, none⟩ = some (.int .i64 0) := by rw [cell_of_block HR3.out]; rfl
                          have c3 : w3.cell? ⟨w.heap.size, 3, none⟩ = some (.string ⟨#[]⟩) := by rw [cell_of_block HR3.out]; rfl
                          have f0 : w3.frozen? ⟨w.heap.size, 0, none⟩ = false := frozen_of_block HR3.out
                          have f1 : w3.frozen? ⟨w.heap.size, 1, none⟩ = false := frozen_of_block HR3.out
                          have f2 : w3.frozen? ⟨w.heap.size, 2, none⟩ = false := frozen_of_block HR3.out
                          have f3 : w3.frozen? ⟨w.heap.size, 3, none⟩ = false := frozen_of_block HR3.out
                          have q0 : w3.cell? ⟨w.heap.size + 1, 0, none⟩ = some (.int .i64 (n : Int)) := by rw [cell_of_block HQ3.out]; rfl
                          have q1 : w3.cell? ⟨w.heap.size + 1, 1, none⟩ = some (.int .i64 (p : Int)) := by rw [cell_of_block HQ3.out]; rfl
                          have q2 : w3.cell? ⟨w.heap.size + 1, 2, none⟩ = some (.int .i64 (k : Int)) := by rw [cell_of_block HQ3.out]; rfl
                          have q3 : w3.cell? ⟨w.heap.size + 1, 3, none⟩ = some (.string (s.extract 7 (7 + m))) := by rw [cell_of_block HQ3.out]; rfl
                          go_wp2_with fail
                          (try simp only [Exit.inBlock, Exit.then])
                          refine bodyPost_ret (ret_rpart rfl rfl rfl (by rw [block_setCell (block_setCell (block_setCell (block_setCell HR3.out _) _) _) _]; rfl)) rfl ?_
                          exact ⟨by rw [HT.out]; rfl, ((((HB3.out.setCell (p := ⟨w.heap.size, 0, none⟩) (Nat.le_refl _) _).setCell (p := ⟨w.heap.size, 1, none⟩) (Nat.le_refl _) _).setCell (p := ⟨w.heap.size, 2, none⟩) (Nat.le_refl _) _).setCell (p := ⟨w.heap.size, 3, none⟩) (Nat.le_refl _) _)⟩
                        · have HT := Lib.hid (hTE heq)
                          have qq : ((Pl.secB n p k (s.extract 7 (7 + m))).toList == s.toList) = false := by
                            rw [beq_eq_false_iff_ne]
                            intro h
                            rw [ByteArray.toList_eq, ByteArray.toList_eq] at h
                            exact heq (Pl.ba_ext h)
                          clear hTB hTE hTG hTL hok
                          go_wp2_with fail
                          refine (HSE.out _).mono ?_
                          rintro e w3 ⟨rfl, hb⟩
                          clear q0 q1 q2 q3 c0 c1 c2 c3 f0 f1 f2 f3 g3
                          have hsz : (w2.setCell ⟨w.heap.size + 1, 3, none⟩ (.string (s.extract 7 (7 + m)))).heap.size = w2.heap.size := by simp [World.setCell]
                          have hx0 := lt_of_block HR2.out
                          have hx1 := lt_of_block HQ2.out
                          have HB3 := Lib.hid ((HB2.out.setCell (p := ⟨w.heap.size + 1, 3, none⟩) (Nat.le_succ _) (.string (s.extract 7 (7 + m)))).trans (hb.mono (by have := HB2.out.size; omega)))
                          have HR3 := Lib.hid ((hb.block w.heap.size (by omega)).trans ((block_setCell_other (by omega) _).trans HR2.out))
                          have HQ3 : Hid (RB w3 (w.heap.size + 1) n p k (s.extract 7 (7 + m))) := Lib.hid ((hb.block (w.heap.size + 1) (by omega)).trans (block_setCell HQ2.out _))
                          clear hb hsz hx0 hx1
                          have c0 : w3.cell? ⟨w.heap.size, 0, none⟩ = some (.int .i64 0) := by rw [cell_of_block HR3.out]; rfl
                          have c1 : w3.cell? ⟨w.heap.size, 1, none⟩ = some (.int .i64 0) := by rw [cell_of_block HR3.out]; rfl
                          have c2 : w3.cell? ⟨w.heap.size, 2, none⟩ = some (.int .i64 0) := by rw [cell_of_block HR3.out]; rfl
                          have c3 : w3.cell? ⟨w.heap.size, 3, none⟩ = some (.string ⟨#[]⟩) := by rw [cell_of_block HR3.out]; rfl
                          have f0 : w3.frozen? ⟨w.heap.size, 0, none⟩ = false := frozen_of_block HR3.out
                          have f1 : w3.frozen? ⟨w.heap.size, 1, none⟩ = false := frozen_of_block HR3.out
                          have f2 : w3.frozen? ⟨w.heap.size, 2, none⟩ = false := frozen_of_block HR3.out
                          have f3 : w3.frozen? ⟨w.heap.size, 3, none⟩ = false := frozen_of_block HR3.out
                          go_wp2_with fail
                          (try simp only [Exit.inBlock, Exit.then])
                          refine bodyPost_ret (ret_rpart rfl rfl rfl (by rw [block_setCell (block_setCell (block_setCell (block_setCell HR3.out _) _) _) _]; rfl)) rfl ?_
                          exact ⟨by rw [HT.out]; rfl, ((((HB3.out.setCell (p := ⟨w.heap.size, 0, none⟩) (Nat.le_refl _) _).setCell (p := ⟨w.heap.size, 1, none⟩) (Nat.le_refl _) _).setCell (p := ⟨w.heap.size, 2, none⟩) (Nat.le_refl _) _).setCell (p := ⟨w.heap.size, 3, none⟩) (Nat.le_refl _) _)⟩
                      · have i9b0 : decide (1 < (k : Int)) = true := decide_eq_true (by omega)
                        have i9b1 : decide (1 < k) = true := decide_eq_true (by omega)
                        have HT := Lib.hid (hTB (Bool.eq_false_iff.2 (fun h => by have := (Pl.okB_iff _ _ _ _).1 h; omega)))
                        clear hTB hTE hTG hTL
                        go_wp2_with fail
                        (try simp only [Exit.inBlock, Exit.then])
                        refine bodyPost_ret (ret_rpart rfl rfl rfl (by rw [block_setCell (block_setCell (block_setCell (block_setCell HR2.out _) _) _) _]; rfl)) rfl ?_
                        exact ⟨by rw [HT.out]; rfl, ((((HB2.out.setCell (p := ⟨w.heap.size, 0, none⟩) (Nat.le_refl _) _).setCell (p := ⟨w.heap.size, 1, none⟩) (Nat.le_refl _) _).setCell (p := ⟨w.heap.size, 2, none⟩) (Nat.le_refl _) _).setCell (p := ⟨w.heap.size, 3, none⟩) (Nat.le_refl _) _)⟩
                    · have i8b0 : ((m : Int) == 0) = false := by simp; omega
                      have hok : Pl.okB n p k m = true := (Pl.okB_iff _ _ _ _).2 (by omega)
                      by_cases heq : Pl.secB n p k (s.extract 7 (7 + m)) = s
                      · have HT := Lib.hid (hTG (by omega) hok heq)
                        rw [heq] at HSE
                        clear hTB hTE hTG hTL hok heq
                        have qq : (s.toList == s.toList) = true := beq_self_eq_true _
                        go_wp2_with fail
                        refine (HSE.out _).mono ?_
                        rintro e w3 ⟨rfl, hb⟩
                        clear q0 q1 q2 q3 c0 c1 c2 c3 f0 f1 f2 f3 g3
                        have hsz : (w2.setCell ⟨w.heap.size + 1, 3, none⟩ (.string (s.extract 7 (7 + m)))).heap.size = w2.heap.size := by simp [World.setCell]
                        have hx0 := lt_of_block HR2.out
                        have hx1 := lt_of_block HQ2.out
                        have HB3 := Lib.hid ((HB2.out.setCell (p := ⟨w.heap.size + 1, 3, none⟩) (Nat.le_succ _) (.string (s.extract 7 (7 + m)))).trans (hb.mono (by have := HB2.out.size; omega)))
                        have HR3 := Lib.hid ((hb.block w.heap.size (by omega)).trans ((block_setCell_other (by omega) _).trans HR2.out))
                        have HQ3 : Hid (RB w3 (w.heap.size + 1) n p k (s.extract 7 (7 + m))) := Lib.hid ((hb.block (w.heap.size + 1) (by omega)).trans (block_setCell HQ2.out _))
                        clear hb hsz hx0 hx1
                        have c0 : w3.cell? ⟨w.heap.size, 0, none⟩ = some (.int .i64 0) := by rw [cell_of_block HR3.out]; rfl
                        have c1 : w3.cell? ⟨w.heap.size, 1, none⟩ = some (.int .i64 0) := by rw [cell_of_block HR3.out]; rfl
                        have c2 : w3.cell? ⟨w.heap.size, 2, none⟩ = some (.int .i64 0) := by rw [cell_of_block HR3.out]; rfl
                        have c3 : w3.cell? ⟨w.heap.size, 3, none⟩ = some (.string ⟨#[]⟩) := by rw [cell_of_block HR3.out]; rfl
                        have f0 : w3.frozen? ⟨w.heap.size, 0, none⟩ = false := frozen_of_block HR3.out
                        have f1 : w3.frozen? ⟨w.heap.size, 1, none⟩ = false := frozen_of_block HR3.out
                        have f2 : w3.frozen? ⟨w.heap.size, 2, none⟩ = false := frozen_of_block HR3.out
                        have f3 : w3.frozen? ⟨w.heap.size, 3, none⟩ = false := frozen_of_block HR3.out
                        have q0 : w3.cell? ⟨w.heap.size + 1, 0, none⟩ = some (.int .i64 (n : Int)) := by rw [cell_of_block HQ3.out]; rfl
                        have q1 : w3.cell? ⟨w.heap.size + 1, 1, none⟩ = some (.int .i64 (p : Int)) := by rw [cell_of_block HQ3.out]; rfl
                        have q2 : w3.cell? ⟨w.heap.size + 1, 2, none⟩ = some (.int .i64 (k : Int)) := by rw [cell_of_block HQ3.out]; rfl
                        have q3 : w3.cell? ⟨w.heap.size + 1, 3, none⟩ = some (.string (s.extract 7 (7 + m))) := by rw [cell_of_block HQ3.out]; rfl
                        go_wp2_with fail
                        (try simp only [Exit.inBlock, Exit.then])
                        refine bodyPost_ret (ret_rpart rfl rfl rfl (by rw [block_setCell (block_setCell (block_setCell (block_setCell HR3.out _) _) _) _]; rfl)) rfl ?_
                        exact ⟨by rw [HT.out]; rfl, ((((HB3.out.setCell (p := ⟨w.heap.size, 0, none⟩) (Nat.le_refl _) _).setCell (p := ⟨w.heap.size, 1, none⟩) (Nat.le_refl _) _).setCell (p := ⟨w.heap.size, 2, none⟩) (Nat.le_refl _) _).setCell (p := ⟨w.heap.size, 3, none⟩) (Nat.le_refl _) _)⟩
                      · have HT := Lib.hid (hTE heq)
                        have qq : ((Pl.secB n p k (s.extract 7 (7 + m))).toList == s.toList) = false := by
                          rw [beq_eq_false_iff_ne]
                          intro h
                          rw [ByteArray.toList_eq, ByteArray.toList_eq] at h
                          exact heq (Pl.ba_ext h)
                        clear hTB hTE hTG hTL hok
                        go_wp2_with fail
                        refine (HSE.out _).mono ?_
                        rintro e w3 ⟨rfl, hb⟩
                        clear q0 q1 q2 q3 c0 c1 c2 c3 f0 f1 f2 f3 g3
                        have hsz : (w2.setCell ⟨w.heap.size + 1, 3, none⟩ (.string (s.extract 7 (7 + m)))).heap.size = w2.heap.size := by simp [World.setCell]
                        have hx0 := lt_of_block HR2.out
                        have hx1 := lt_of_block HQ2.out
                        have HB3 := Lib.hid ((HB2.out.setCell (p := ⟨w.heap.size + 1, 3, none⟩) (Nat.le_succ _) (.string (s.extract 7 (7 + m)))).trans (hb.mono (by have := HB2.out.size; omega)))
                        have HR3 := Lib.hid ((hb.block w.heap.size (by omega)).trans ((block_setCell_other (by omega) _).trans HR2.out))
                        have HQ3 : Hid (RB w3 (w.heap.size + 1) n p k (s.extract 7 (7 + m))) := Lib.hid ((hb.block (w.heap.size + 1) (by omega)).trans (block_setCell HQ2.out _))
                        clear hb hsz hx0 hx1
                        have c0 : w3.cell? ⟨w.heap.size, 0, none⟩ = some (.int .i64 0) := by rw [cell_of_block HR3.out]; rfl
                        have c1 : w3.cell? ⟨w.heap.size, 1, none⟩ = some (.int .i64 0) := by rw [cell_of_block HR3.out]; rfl
                        have c2 : w3.cell? ⟨w.heap.size, 2, none⟩ = some (.int .i64 0) := by rw [cell_of_block HR3.out]; rfl
                        have c3 : w3.cell? ⟨w.heap.size, 3, none⟩ = some (.string ⟨#[]⟩) := by rw [cell_of_block HR3.out]; rfl
                        have f0 : w3.frozen? ⟨w.heap.size, 0, none⟩ = false := frozen_of_block HR3.out
                        have f1 : w3.frozen? ⟨w.heap.size, 1, none⟩ = false := frozen_of_block HR3.out
                        have f2 : w3.frozen? ⟨w.heap.size, 2, none⟩ = false := frozen_of_block HR3.out
                        have f3 : w3.frozen? ⟨w.heap.size, 3, none⟩ = false := frozen_of_block HR3.out
                        go_wp2_with fail
                        (try simp only [Exit.inBlock, Exit.then])
                        refine bodyPost_ret (ret_rpart rfl rfl rfl (by rw [block_setCell (block_setCell (block_setCell (block_setCell HR3.out _) _) _) _]; rfl)) rfl ?_
                        exact ⟨by rw [HT.out]; rfl, ((((HB3.out.setCell (p := ⟨w.heap.size, 0, none⟩) (Nat.le_refl _) _).setCell (p := ⟨w.heap.size, 1, none⟩) (Nat.le_refl _) _).setCell (p := ⟨w.heap.size, 2, none⟩) (Nat.le_refl _) _).setCell (p := ⟨w.heap.size, 3, none⟩) (Nat.le_refl _) _)⟩
                · have i5b0 : decide (55 < (m : Int)) = true := decide_eq_true (by omega)
                  have i5b1 : decide (55 < m) = true := decide_eq_true (by omega)
                  have HT := Lib.hid (hTL (by omega))
                  clear hTB hTE hTG hTL
                  go_wp2_with fail
                  (try simp only [Exit.inBlock, Exit.then])
                  refine bodyPost_ret (ret_rpart rfl rfl rfl (by rw [block_setCell (block_setCell (block_setCell (block_setCell HR2.out _) _) _) _]; rfl)) rfl ?_
                  exact ⟨by rw [HT.out]; rfl, ((((HB2.out.setCell (p := ⟨w.heap.size, 0, none⟩) (Nat.le_refl _) _).setCell (p := ⟨w.heap.size, 1, none⟩) (Nat.le_refl _) _).setCell (p := ⟨w.heap.size, 2, none⟩) (Nat.le_refl _) _).setCell (p := ⟨w.heap.size, 3, none⟩) (Nat.le_refl _) _)⟩
              · have i4b0 : decide ((k : Int) ≤ (p : Int)) = true := decide_eq_true (by omega)
                have i4b1 : decide (k ≤ p) = true := decide_eq_true (by omega)
                have HT := Lib.hid (hTB (Bool.eq_false_iff.2 (fun h => by have := (Pl.okB_iff _ _ _ _).1 h; omega)))
                clear hTB hTE hTG hTL
                go_wp2_with fail
                (try simp only [Exit.inBlock, Exit.then])
                refine bodyPost_ret (ret_rpart rfl rfl rfl (by rw [block_setCell (block_setCell (block_setCell (block_setCell HR2.out _) _) _) _]; rfl)) rfl ?_
                exact ⟨by rw [HT.out]; rfl, ((((HB2.out.setCell (p := ⟨w.heap.size, 0, none⟩) (Nat.le_refl _) _).setCell (p := ⟨w.heap.size, 1, none⟩) (Nat.le_refl _) _).setCell (p := ⟨w.heap.size, 2, none⟩) (Nat.le_refl _) _).setCell (p := ⟨w.heap.size, 3, none⟩) (Nat.le_refl _) _)⟩
            · have i3b0 : decide (8 < (k : Int)) = true := decide_eq_true (by omega)
              have i3b1 : decide (8 < k) = true := decide_eq_true (by omega)
              have HT := Lib.hid (hTB (Bool.eq_false_iff.2 (fun h => by have := (Pl.okB_iff _ _ _ _).1 h; omega)))
              clear hTB hTE hTG hTL
              go_wp2_with fail
              (try simp only [Exit.inBlock, Exit.then])
              refine bodyPost_ret (ret_rpart rfl rfl rfl (by rw [block_setCell (block_setCell (block_setCell (block_setCell HR2.out _) _) _) _]; rfl)) rfl ?_
              exact ⟨by rw [HT.out]; rfl, ((((HB2.out.setCell (p := ⟨w.heap.size, 0, none⟩) (Nat.le_refl _) _).setCell (p := ⟨w.heap.size, 1, none⟩) (Nat.le_refl _) _).setCell (p := ⟨w.heap.size, 2, none⟩) (Nat.le_refl _) _).setCell (p := ⟨w.heap.size, 3, none⟩) (Nat.le_refl _) _)⟩
          · have i2b0 : decide ((k : Int) < 1) = true := decide_eq_true (by omega)
            have i2b1 : decide (k < 1) = true := decide_eq_true (by omega)
            have HT := Lib.hid (hTB (Bool.eq_false_iff.2 (fun h => by have := (Pl.okB_iff _ _ _ _).1 h; omega)))
            clear hTB hTE hTG hTL
            go_wp2_with fail
            (try simp only [Exit.inBlock, Exit.then])
            refine bodyPost_ret (ret_rpart rfl rfl rfl (by rw [block_setCell (block_setCell (block_setCell (block_setCell HR2.out _) _) _) _]; rfl)) rfl ?_
            exact ⟨by rw [HT.out]; rfl, ((((HB2.out.setCell (p := ⟨w.heap.size, 0, none⟩) (Nat.le_refl _) _).setCell (p := ⟨w.heap.size, 1, none⟩) (Nat.le_refl _) _).setCell (p := ⟨w.heap.size, 2, none⟩) (Nat.le_refl _) _).setCell (p := ⟨w.heap.size, 3, none⟩) (Nat.le_refl _) _)⟩
        · have i1b0 : decide (2147483647 < (n : Int)) = true := decide_eq_true (by omega)
          have i1b1 : decide (2147483647 < n) = true := decide_eq_true (by omega)
          have HT := Lib.hid (hTB (Bool.eq_false_iff.2 (fun h => by have := (Pl.okB_iff _ _ _ _).1 h; omega)))
          clear hTB hTE hTG hTL
          go_wp2_with fail
          (try simp only [Exit.inBlock, Exit.then])
          refine bodyPost_ret (ret_rpart rfl rfl rfl (by rw [block_setCell (block_setCell (block_setCell (block_setCell HR2.out _) _) _) _]; rfl)) rfl ?_
          exact ⟨by rw [HT.out]; rfl, ((((HB2.out.setCell (p := ⟨w.heap.size, 0, none⟩) (Nat.le_refl _) _).setCell (p := ⟨w.heap.size, 1, none⟩) (Nat.le_refl _) _).setCell (p := ⟨w.heap.size, 2, none⟩) (Nat.le_refl _) _).setCell (p := ⟨w.heap.size, 3, none⟩) (Nat.le_refl _) _)⟩
      · have i0b0 : decide ((n : Int) < 1) = true := decide_eq_true (by omega)
        have i0b1 : decide (n < 1) = true := decide_eq_true (by omega)
        have HT := Lib.hid (hTB (Bool.eq_false_iff.2 (fun h => by have := (Pl.okB_iff _ _ _ _).1 h; omega)))
        clear hTB hTE hTG hTL
        go_wp2_with fail
        (try simp only [Exit.inBlock, Exit.then])
        refine bodyPost_ret (ret_rpart rfl rfl rfl (by rw [block_setCell (block_setCell (block_setCell (block_setCell HR2.out _) _) _) _]; rfl)) rfl ?_
        exact ⟨by rw [HT.out]; rfl, ((((HB2.out.setCell (p := ⟨w.heap.size, 0, none⟩) (Nat.le_refl _) _).setCell (p := ⟨w.heap.size, 1, none⟩) (Nat.le_refl _) _).setCell (p := ⟨w.heap.size, 2, none⟩) (Nat.le_refl _) _).setCell (p := ⟨w.heap.size, 3, none⟩) (Nat.le_refl _) _)⟩
  · have HT := Lib.hid (tell_short h64)
    go_enter Try.func12, Try.ntmps12
    go_wp2_with fail
    (try simp only [Exit.inBlock, Exit.then])
    refine bodyPost_ret (ret_rpart rfl rfl rfl (new_block _ _)) rfl ?_
    exact ⟨by rw [HT.out]; rfl, (Below.refl _ _).alloc (Nat.le_refl _) _⟩
end Go.Proofs.Ytcfojpgfecelcaa
