/-
  CONTRACT of Tell.
-/
import Derived.Test.YtcmeaeemjecjiaaFSec
import Derived.BigRegion
import Derived.Deep.RegionHeld3
import Derived.IntWalk
import Derived.Laws.ResultCell
namespace Go.Proofs.Ytcmeaeemjecjiaa.Fm
open Go.RowKit

/-- What Tell answers, as a value. -/
def tellV : Option (Nat × Nat × Nat × ByteArray) → Value
  | none => .tuple #[.agg #[.int .i64 0, .int .i64 0, .int .i64 0, .string ⟨#[]⟩], .int .i64 43]
  | some (n, p, k, d) => .tuple #[.agg #[.int .i64 (n : Int), .int .i64 (p : Int), .int .i64 (k : Int), .string d], .int .i64 0]

theorem tell_short {s : ByteArray} (h : s.size ≠ 64) : Pl.tellF s = none := by unfold Pl.tellF; rw [if_neg (fun hc => h hc.1)]
theorem tell_long {s : ByteArray} (h : 55 < Pl.byteAt s 6) : Pl.tellF s = none := by unfold Pl.tellF; rw [if_neg (fun hc => by have := hc.2.1; omega)]
theorem tell_bad {s : ByteArray} (h : Pl.okB (Pl.numB s) (Pl.byteAt s 4) (Pl.byteAt s 5) (Pl.byteAt s 6) = false) : Pl.tellF s = none := by
  unfold Pl.tellF; rw [if_neg (fun hc => by have := hc.2.2.1; rw [h] at this; cases this)]
theorem tell_else {s : ByteArray} (h : Pl.secB (Pl.numB s) (Pl.byteAt s 4) (Pl.byteAt s 5) (s.extract 7 (7 + Pl.byteAt s 6)) ≠ s) : Pl.tellF s = none := by
  unfold Pl.tellF; rw [if_neg (fun hc => h hc.2.2.2)]
theorem tell_good {s : ByteArray} (h1 : s.size = 64) (h2 : Pl.byteAt s 6 ≤ 55) (h3 : Pl.okB (Pl.numB s) (Pl.byteAt s 4) (Pl.byteAt s 5) (Pl.byteAt s 6) = true) (h4 : Pl.secB (Pl.numB s) (Pl.byteAt s 4) (Pl.byteAt s 5) (s.extract 7 (7 + Pl.byteAt s 6)) = s) :
    Pl.tellF s = some (Pl.numB s, Pl.byteAt s 4, Pl.byteAt s 5, s.extract 7 (7 + Pl.byteAt s 6)) := by unfold Pl.tellF; rw [if_pos ⟨h1, h2, h3, h4⟩]

def TellPost (s : ByteArray) (w : World) (e : Ending) (w' : World) : Prop := e = .returned (tellV (Pl.tellF s)) ∧ Below w.heap.size w w'

/-- A part's variable, read whole. -/
theorem load_part {W : World} {b : Nat} {v0 v1 v2 v3 : Value} (h : W.heap[b]? = some (.cells #[v0, v1, v2, v3] 75 (0, 0))) :
    (loadVar 75 ⟨b, 0, none⟩).run Try.prog W = .ok (.agg #[v0, v1, v2, v3]) W := by
  have c0 : W.cell? ⟨b, 0, none⟩ = some v0 := by rw [cell_of_block h]; rfl
  have c1 : W.cell? ⟨b, 1, none⟩ = some v1 := by rw [cell_of_block h]; rfl
  have c2 : W.cell? ⟨b, 2, none⟩ = some v2 := by rw [cell_of_block h]; rfl
  have c3 : W.cell? ⟨b, 3, none⟩ = some v3 := by rw [cell_of_block h]; rfl
  go_simp
theorem ret_part {W : World} {b : Nat} {v0 v1 v2 v3 u : Value} {fn : Func} {p q : Tmp} {tmps : Array Value} (hf : fn.results = #[.cell p 75, .tmp q]) (hp : tmps.getD p undef = .pointer (some ⟨b, 0, none⟩)) (hq : tmps.getD q undef = u)
    (h : W.heap[b]? = some (.cells #[v0, v1, v2, v3] 75 (0, 0))) :
    (results fn tmps).run Try.prog W = .ok (.tuple #[.agg #[v0, v1, v2, v3], u]) W := by
  rw [results_cell_tmp hf, hp, hq]
  simp [asAddr, Result.andThen, load_part h]
/-- A piece of code that comes to one end. -/
theorem region_to {P : Program} {c : Code} {Q : Exit → Act → World → Prop} {a : Act} {w : World} {A : Act} {W : World} (h : c.wp P (fun e a' w' => e = .normal ∧ a' = A ∧ w' = W) a w) (hq : Q .normal A W) : c.wp P Q a w :=
  Code.wp_mono (fun e a' w' => (by rintro ⟨rfl, rfl, rfl⟩; exact hq)) h
theorem new_block (w : World) (o : Obj) : (w.alloc o).heap[w.heap.size]? = some o := by
  show (w.heap.push _)[w.heap.size]? = _; rw [Array.getElem?_push_size]

set_option maxRecDepth 100000 in
set_option maxHeartbeats 400000 in
theorem tell_any (s : ByteArray) (w : World) :
    Calls Try.prog 42 #[.string s] w (TellPost s w) := by
  by_cases h64 : s.size = 64
  · have hb6 : s[6].toNat < 256 := s[6].toNat_lt
    have hb5 : s[5].toNat < 256 := s[5].toNat_lt
    have hb4 : s[4].toNat < 256 := s[4].toNat_lt
    have e6 := Pl.byteAt_get s 6 (by omega)
    have e5 := Pl.byteAt_get s 5 (by omega)
    have e4 := Pl.byteAt_get s 4 (by omega)
    by_cases h55 : s[6].toNat ≤ 55
    · have hx4 : (s.extract 0 4).size = 4 := Pl.ext_size _ _ _ (by omega)
      have hn4 : Pl.numB (s.extract 0 4) = Pl.numB s := by
        unfold Pl.numB Pl.byteAt
        rw [Pl.ext_list]
        simp
      have hTB := fun W => takeBig_any (s.extract 0 4) W hx4
      rw [hn4] at hTB
      rw [e6] at h55 hb6
      rw [e5] at hb5
      rw [e4] at hb4
      have g7 : IntKind.i64.wrap (7 + (Pl.byteAt s 6 : Int)) = 7 + (Pl.byteAt s 6 : Int) := IntWalk.i64_in _ (by omega)
      have g4 : IntKind.i64.wrap (Pl.byteAt s 4 : Int) = (Pl.byteAt s 4 : Int) := IntWalk.i64_in _ (by omega)
      have g5 : IntKind.i64.wrap (Pl.byteAt s 5 : Int) = (Pl.byteAt s 5 : Int) := IntWalk.i64_in _ (by omega)
      have g6 : IntKind.i64.wrap (Pl.byteAt s 6 : Int) = (Pl.byteAt s 6 : Int) := IntWalk.i64_in _ (by omega)
      have g10 : (7 : Int) ≤ 7 + (Pl.byteAt s 6 : Int) := by omega
      have g11 : 7 + (Pl.byteAt s 6 : Int) ≤ (s.size : Int) := by omega
      have g12 : 7 + (Pl.byteAt s 6 : Int) ≤ 64 := by omega
      have g8 : (0 : Int) ≤ 7 + (Pl.byteAt s 6 : Int) := by omega
      have g9 : (7 + (Pl.byteAt s 6 : Int)).toNat = 7 + Pl.byteAt s 6 := by omega
      clear hx4 hn4
      go_enter Try.func42, Try.ntmps42
      go_wp2_with fail
      apply region_to
      case h =>
        refine wp_region_any (by kernel_rfl) ?_
        refine wpAny_take (i := 0) (v := .string s) rfl (by kernel_rfl) (by kernel_rfl) (by kernel_rfl) (fun _ _ _ h => nomatch h.1) (.inl ⟨by rfl, fun w => by go_simp⟩) ?_
        (try go_frame)
        refine wpAny_take (i := 1) (v := .string (s.extract 0 4)) rfl (by kernel_rfl) (by kernel_rfl) (by kernel_rfl) (fun _ _ _ h => nomatch h.1) (.inl ⟨by rfl, fun w => by go_simp⟩) ?_
        (try go_frame)
        refine wpAny_take (i := 3) (v := .string s) rfl (by kernel_rfl) (by kernel_rfl) (by kernel_rfl) (fun _ _ _ h => nomatch h.1) (.inl ⟨by rfl, fun w => by go_simp⟩) ?_
        (try go_frame)
        refine wpAny_take (i := 4) (v := .int .u8 (Pl.byteAt s 4 : Int)) rfl (by kernel_rfl) (by kernel_rfl) (by kernel_rfl) (fun _ _ _ h => nomatch h.1) (.inl ⟨by rfl, fun w => by go_simp⟩) ?_
        (try go_frame)
        refine wpAny_take (i := 5) (v := .int .i64 (Pl.byteAt s 4 : Int)) rfl (by kernel_rfl) (by kernel_rfl) (by kernel_rfl) (fun _ _ _ h => nomatch h.1) (.inl ⟨by rfl, fun w => by go_simp⟩) ?_
        (try go_frame)
        refine wpAny_take (i := 6) (v := .string s) rfl (by kernel_rfl) (by kernel_rfl) (by kernel_rfl) (fun _ _ _ h => nomatch h.1) (.inl ⟨by rfl, fun w => by go_simp⟩) ?_
        (try go_frame)
        refine wpAny_take (i := 7) (v := .int .u8 (Pl.byteAt s 5 : Int)) rfl (by kernel_rfl) (by kernel_rfl) (by kernel_rfl) (fun _ _ _ h => nomatch h.1) (.inl ⟨by rfl, fun w => by go_simp⟩) ?_
        (try go_frame)
        refine wpAny_take (i := 8) (v := .int .i64 (Pl.byteAt s 5 : Int)) rfl (by kernel_rfl) (by kernel_rfl) (by kernel_rfl) (fun _ _ _ h => nomatch h.1) (.inl ⟨by rfl, fun w => by go_simp⟩) ?_
        (try go_frame)
        refine wpAny_take (i := 9) (v := .string s) rfl (by kernel_rfl) (by kernel_rfl) (by kernel_rfl) (fun _ _ _ h => nomatch h.1) (.inl ⟨by rfl, fun w => by go_simp⟩) ?_
        (try go_frame)
        refine wpAny_take (i := 10) (v := .string s) rfl (by kernel_rfl) (by kernel_rfl) (by kernel_rfl) (fun _ _ _ h => nomatch h.1) (.inl ⟨by rfl, fun w => by go_simp⟩) ?_
        (try go_frame)
        refine wpAny_take (i := 11) (v := .int .u8 (Pl.byteAt s 6 : Int)) rfl (by kernel_rfl) (by kernel_rfl) (by kernel_rfl) (fun _ _ _ h => nomatch h.1) (.inl ⟨by rfl, fun w => by go_simp⟩) ?_
        (try go_frame)
        refine wpAny_take (i := 12) (v := .int .i64 (Pl.byteAt s 6 : Int)) rfl (by kernel_rfl) (by kernel_rfl) (by kernel_rfl) (fun _ _ _ h => nomatch h.1) (.inl ⟨by rfl, fun w => by go_simp⟩) ?_
        (try go_frame)
        refine wpAny_take (i := 13) (v := .int .i64 (7 + (Pl.byteAt s 6 : Int))) rfl (by kernel_rfl) (by kernel_rfl) (by kernel_rfl) (fun _ _ _ h => nomatch h.1) (.inl ⟨by rfl, fun w => by go_simp⟩) ?_
        (try go_frame)
        refine wpAny_take (i := 14) (v := .string (s.extract 7 (7 + Pl.byteAt s 6))) rfl (by kernel_rfl) (by kernel_rfl) (by kernel_rfl) (fun _ _ _ h => nomatch h.1) (.inl ⟨by rfl, fun w => by go_simp⟩) ?_
        (try go_frame)
        refine wpAny_ready (rs := [2, 16]) (by kernel_rfl) (by simp) ?_
        refine AllReady.cons rfl (fun K hK => ?_) ?_
        · go_simp
          refine (hTB _).mono ?_
          rintro e w1 ⟨rfl, rfl⟩
          refine hK _ _ ?_
          clear hK K
          (try go_frame)
          refine wpAny_take (i := 15) (v := .agg #[.int .i64 (Pl.numB s : Int), .int .i64 (Pl.byteAt s 4 : Int), .int .i64 (Pl.byteAt s 5 : Int), .string (s.extract 7 (7 + Pl.byteAt s 6))]) rfl (by kernel_rfl) (by kernel_rfl) (by kernel_rfl) (fun _ _ _ h => nomatch h.1) (.inl ⟨by rfl, fun w => by go_simp⟩) ?_
          (try go_frame)
          refine wpAny_ready (rs := [16]) (by kernel_rfl) (by simp) ?_
          refine AllReady.cons rfl (fun K hK => ?_) ?_
          · go_simp
            refine hK _ _ ?_
            clear hK K
            (try go_frame)
            refine wpAny_ready (rs := [17]) (by kernel_rfl) (by simp) ?_
            refine AllReady.cons rfl (fun K hK => ?_) ?_
            · go_simp
              refine hK _ _ ?_
              clear hK K
              (try go_frame)
              refine wpAny_done (by kernel_rfl) ?_ _
              exact ⟨rfl, rfl, rfl⟩
            exact AllReady.nil
          exact AllReady.nil
        refine AllReady.cons rfl (fun K hK => ?_) ?_
        · go_simp
          refine hK _ _ ?_
          clear hK K
          (try go_frame)
          refine wpAny_ready (rs := [2]) (by kernel_rfl) (by simp) ?_
          refine AllReady.cons rfl (fun K hK => ?_) ?_
          · go_simp
            refine (hTB _).mono ?_
            rintro e w1 ⟨rfl, rfl⟩
            refine hK _ _ ?_
            clear hK K
            (try go_frame)
            refine wpAny_take (i := 15) (v := .agg #[.int .i64 (Pl.numB s : Int), .int .i64 (Pl.byteAt s 4 : Int), .int .i64 (Pl.byteAt s 5 : Int), .string (s.extract 7 (7 + Pl.byteAt s 6))]) rfl (by kernel_rfl) (by kernel_rfl) (by kernel_rfl) (fun _ _ _ h => nomatch h.1) (.inl ⟨by rfl, fun w => by go_simp⟩) ?_
            (try go_frame)
            refine wpAny_ready (rs := [17]) (by kernel_rfl) (by simp) ?_
            refine AllReady.cons rfl (fun K hK => ?_) ?_
            · go_simp
              refine hK _ _ ?_
              clear hK K
              (try go_frame)
              refine wpAny_done (by kernel_rfl) ?_ _
              exact ⟨rfl, rfl, rfl⟩
            exact AllReady.nil
          exact AllReady.nil
        exact AllReady.nil
      case hq =>
        have hR : ((w.alloc (.cells #[.int .i64 0, .int .i64 0, .int .i64 0, .string ⟨#[]⟩] 75)).drew.alloc (.cells #[.int .i64 (Pl.numB s : Int), .int .i64 (Pl.byteAt s 4 : Int), .int .i64 (Pl.byteAt s 5 : Int), .string (s.extract 7 (7 + Pl.byteAt s 6))] 75)).heap[w.heap.size]? = some (.cells #[.int .i64 0, .int .i64 0, .int .i64 0, .string ⟨#[]⟩] 75) := (Below.heap_alloc _ _ w.heap.size (by show w.heap.size < (w.alloc _).heap.size; simp)).trans (new_block w _)
        have hP : PB ((w.alloc (.cells #[.int .i64 0, .int .i64 0, .int .i64 0, .string ⟨#[]⟩] 75)).drew.alloc (.cells #[.int .i64 (Pl.numB s : Int), .int .i64 (Pl.byteAt s 4 : Int), .int .i64 (Pl.byteAt s 5 : Int), .string (s.extract 7 (7 + Pl.byteAt s 6))] 75)) (w.heap.size + 1) (Pl.numB s) (Pl.byteAt s 4) (Pl.byteAt s 5) (s.extract 7 (7 + Pl.byteAt s 6)) := by
          have := new_block (w.alloc (.cells #[.int .i64 0, .int .i64 0, .int .i64 0, .string ⟨#[]⟩] 75)).drew (.cells #[.int .i64 (Pl.numB s : Int), .int .i64 (Pl.byteAt s 4 : Int), .int .i64 (Pl.byteAt s 5 : Int), .string (s.extract 7 (7 + Pl.byteAt s 6))] 75)
          rwa [show (w.alloc (.cells #[.int .i64 0, .int .i64 0, .int .i64 0, .string ⟨#[]⟩] 75)).drew.heap.size = w.heap.size + 1 from by show (w.alloc _).heap.size = _; simp] at this
        have HB2 := Lib.hid ((((Below.refl w.heap.size w).alloc (Nat.le_refl _) (.cells #[.int .i64 0, .int .i64 0, .int .i64 0, .string ⟨#[]⟩] 75)).drew).alloc (by show w.heap.size ≤ (w.alloc _).heap.size; simp) (.cells #[.int .i64 (Pl.numB s : Int), .int .i64 (Pl.byteAt s 4 : Int), .int .i64 (Pl.byteAt s 5 : Int), .string (s.extract 7 (7 + Pl.byteAt s 6))] 75))
        have HR2 := Lib.hid hR
        have HP2 := Lib.hid hP
        clear hR hP g7 g4 g5 g6 g8 g9 g10 g11 g12 hTB
        change Exit.then _ _ _ _ ((w.alloc (.cells #[.int .i64 0, .int .i64 0, .int .i64 0, .string ⟨#[]⟩] 75)).drew.alloc (.cells #[.int .i64 (Pl.numB s : Int), .int .i64 (Pl.byteAt s 4 : Int), .int .i64 (Pl.byteAt s 5 : Int), .string (s.extract 7 (7 + Pl.byteAt s 6))] 75))
        generalize ((w.alloc (.cells #[.int .i64 0, .int .i64 0, .int .i64 0, .string ⟨#[]⟩] 75)).drew.alloc (.cells #[.int .i64 (Pl.numB s : Int), .int .i64 (Pl.byteAt s 4 : Int), .int .i64 (Pl.byteAt s 5 : Int), .string (s.extract 7 (7 + Pl.byteAt s 6))] 75)) = w2 at HB2 HR2 HP2 ⊢
        have hds : (s.extract 7 (7 + Pl.byteAt s 6)).size = Pl.byteAt s 6 := by rw [Pl.ext_size _ _ _ (by omega)]; omega
        have hnb : Pl.numB s ≤ 4294967295 := by
          have h0 := Pl.byteAt_lt s 0
          have h1 := Pl.byteAt_lt s 1
          have h2 := Pl.byteAt_lt s 2
          have h3 := Pl.byteAt_lt s 3
          unfold Pl.numB
          omega
        have hIP := fun W => isPart_any (Pl.numB s) (Pl.byteAt s 4) (Pl.byteAt s 5) (s.extract 7 (7 + Pl.byteAt s 6)) W hnb (by omega) (by omega) (by omega)
        have hAS := fun W => assemble_any (Pl.numB s) (Pl.byteAt s 4) (Pl.byteAt s 5) (s.extract 7 (7 + Pl.byteAt s 6)) W hnb (by omega) (by omega) (by omega)
        rw [hds] at hIP
        have hTB := @tell_bad s
        have hTE := @tell_else s
        have hTG := @tell_good s h64 h55
        clear e4 e5 e6
        generalize s.extract 7 (7 + Pl.byteAt s 6) = d at *
        generalize Pl.numB s = n at *
        generalize Pl.byteAt s 4 = p at *
        generalize Pl.byteAt s 5 = k at *
        generalize Pl.byteAt s 6 = m at *
        have q0 : w2.cell? ⟨w.heap.size + 1, 0, none⟩ = some (.int .i64 (n : Int)) := by rw [cell_of_block HP2.out]; rfl
        have q1 : w2.cell? ⟨w.heap.size + 1, 1, none⟩ = some (.int .i64 (p : Int)) := by rw [cell_of_block HP2.out]; rfl
        have q2 : w2.cell? ⟨w.heap.size + 1, 2, none⟩ = some (.int .i64 (k : Int)) := by rw [cell_of_block HP2.out]; rfl
        have q3 : w2.cell? ⟨w.heap.size + 1, 3, none⟩ = some (.string d) := by rw [cell_of_block HP2.out]; rfl
        have HIP := Lib.hid hIP
        have HAS := Lib.hid hAS
        clear hIP hAS
        cases hok : Pl.okB n p k m with
        | false =>
          have HT := Lib.hid (hTB hok)
          rw [hok] at HIP
          clear hTB hTE hTG hok
          go_wp2_with fail
          refine (HIP.out _).mono ?_
          rintro e w3 ⟨rfl, hb⟩
          clear q0 q1 q2 q3
          have HB3 := Lib.hid (HB2.out.trans (hb.mono HB2.out.size))
          have HR3 := Lib.hid ((hb.block w.heap.size (lt_of_block HR2.out)).trans HR2.out)
          have HP3 : Hid (PB w3 (w.heap.size + 1) n p k d) := Lib.hid ((hb.block (w.heap.size + 1) (lt_of_block HP2.out)).trans HP2.out)
          clear hb
          have c0 : w3.cell? ⟨w.heap.size, 0, none⟩ = some (.int .i64 0) := by rw [cell_of_block HR3.out]; rfl
          have c1 : w3.cell? ⟨w.heap.size, 1, none⟩ = some (.int .i64 0) := by rw [cell_of_block HR3.out]; rfl
          have c2 : w3.cell? ⟨w.heap.size, 2, none⟩ = some (.int .i64 0) := by rw [cell_of_block HR3.out]; rfl
          have c3 : w3.cell? ⟨w.heap.size, 3, none⟩ = some (.string ⟨#[]⟩) := by rw [cell_of_block HR3.out]; rfl
          have f0 : w3.frozen? ⟨w.heap.size, 0, none⟩ = false := frozen_of_block HR3.out
          have f1 : w3.frozen? ⟨w.heap.size, 1, none⟩ = false := frozen_of_block HR3.out
          have f2 : w3.frozen? ⟨w.heap.size, 2, none⟩ = false := frozen_of_block HR3.out
          have f3 : w3.frozen? ⟨w.heap.size, 3, none⟩ = false := frozen_of_block HR3.out
          go_wp2_with fail
          (try simp only [Exit.inBlock, Exit.then])
          refine bodyPost_ret (ret_part rfl rfl rfl (by rw [block_setCell (block_setCell (block_setCell (block_setCell HR3.out _) _) _) _]; rfl)) rfl ?_
          exact ⟨by rw [HT.out]; rfl, ((((HB3.out.setCell (p := ⟨w.heap.size, 0, none⟩) (Nat.le_refl _) _).setCell (p := ⟨w.heap.size, 1, none⟩) (Nat.le_refl _) _).setCell (p := ⟨w.heap.size, 2, none⟩) (Nat.le_refl _) _).setCell (p := ⟨w.heap.size, 3, none⟩) (Nat.le_refl _) _)⟩
        | true =>
          rw [hok] at HIP
          by_cases heq : Pl.secB n p k d = s
          · have HT := Lib.hid (hTG hok heq)
            rw [heq] at HAS
            clear hTB hTE hTG hok heq
            have qs : (s.toList == s.toList) = true := beq_self_eq_true _
            go_wp2_with fail
            refine (HIP.out _).mono ?_
            rintro e w3 ⟨rfl, hb⟩
            clear q0 q1 q2 q3
            have HB3 := Lib.hid (HB2.out.trans (hb.mono HB2.out.size))
            have HR3 := Lib.hid ((hb.block w.heap.size (lt_of_block HR2.out)).trans HR2.out)
            have HP3 : Hid (PB w3 (w.heap.size + 1) n p k d) := Lib.hid ((hb.block (w.heap.size + 1) (lt_of_block HP2.out)).trans HP2.out)
            clear hb
            have q0 : w3.cell? ⟨w.heap.size + 1, 0, none⟩ = some (.int .i64 (n : Int)) := by rw [cell_of_block HP3.out]; rfl
            have q1 : w3.cell? ⟨w.heap.size + 1, 1, none⟩ = some (.int .i64 (p : Int)) := by rw [cell_of_block HP3.out]; rfl
            have q2 : w3.cell? ⟨w.heap.size + 1, 2, none⟩ = some (.int .i64 (k : Int)) := by rw [cell_of_block HP3.out]; rfl
            have q3 : w3.cell? ⟨w.heap.size + 1, 3, none⟩ = some (.string d) := by rw [cell_of_block HP3.out]; rfl
            go_wp2_with fail
            refine (HAS.out _).mono ?_
            rintro e w4 ⟨rfl, hb⟩
            clear q0 q1 q2 q3
            have HB4 := Lib.hid (HB3.out.trans (hb.mono HB3.out.size))
            have HR4 := Lib.hid ((hb.block w.heap.size (lt_of_block HR3.out)).trans HR3.out)
            have HP4 : Hid (PB w4 (w.heap.size + 1) n p k d) := Lib.hid ((hb.block (w.heap.size + 1) (lt_of_block HP3.out)).trans HP3.out)
            clear hb
            have c0 : w4.cell? ⟨w.heap.size, 0, none⟩ = some (.int .i64 0) := by rw [cell_of_block HR4.out]; rfl
            have c1 : w4.cell? ⟨w.heap.size, 1, none⟩ = some (.int .i64 0) := by rw [cell_of_block HR4.out]; rfl
            have c2 : w4.cell? ⟨w.heap.size, 2, none⟩ = some (.int .i64 0) := by rw [cell_of_block HR4.out]; rfl
            have c3 : w4.cell? ⟨w.heap.size, 3, none⟩ = some (.string ⟨#[]⟩) := by rw [cell_of_block HR4.out]; rfl
            have f0 : w4.frozen? ⟨w.heap.size, 0, none⟩ = false := frozen_of_block HR4.out
            have f1 : w4.frozen? ⟨w.heap.size, 1, none⟩ = false := frozen_of_block HR4.out
            have f2 : w4.frozen? ⟨w.heap.size, 2, none⟩ = false := frozen_of_block HR4.out
            have f3 : w4.frozen? ⟨w.heap.size, 3, none⟩ = false := frozen_of_block HR4.out
            have q0 : w4.cell? ⟨w.heap.size + 1, 0, none⟩ = some (.int .i64 (n : Int)) := by rw [cell_of_block HP4.out]; rfl
            have q1 : w4.cell? ⟨w.heap.size + 1, 1, none⟩ = some (.int .i64 (p : Int)) := by rw [cell_of_block HP4.out]; rfl
            have q2 : w4.cell? ⟨w.heap.size + 1, 2, none⟩ = some (.int .i64 (k : Int)) := by rw [cell_of_block HP4.out]; rfl
            have q3 : w4.cell? ⟨w.heap.size + 1, 3, none⟩ = some (.string d) := by rw [cell_of_block HP4.out]; rfl
            go_wp2_with fail
            (try simp only [Exit.inBlock, Exit.then])
            refine bodyPost_ret (ret_part rfl rfl rfl (by rw [block_setCell (block_setCell (block_setCell (block_setCell HR4.out _) _) _) _]; rfl)) rfl ?_
            exact ⟨by rw [HT.out]; rfl, ((((HB4.out.setCell (p := ⟨w.heap.size, 0, none⟩) (Nat.le_refl _) _).setCell (p := ⟨w.heap.size, 1, none⟩) (Nat.le_refl _) _).setCell (p := ⟨w.heap.size, 2, none⟩) (Nat.le_refl _) _).setCell (p := ⟨w.heap.size, 3, none⟩) (Nat.le_refl _) _)⟩
          · have HT := Lib.hid (hTE heq)
            have qs : ((Pl.secB n p k d).toList == s.toList) = false := by
              rw [beq_eq_false_iff_ne]
              intro h
              rw [ByteArray.toList_eq, ByteArray.toList_eq] at h
              exact heq (Pl.ba_ext h)
            clear hTB hTE hTG hok
            go_wp2_with fail
            refine (HIP.out _).mono ?_
            rintro e w3 ⟨rfl, hb⟩
            clear q0 q1 q2 q3
            have HB3 := Lib.hid (HB2.out.trans (hb.mono HB2.out.size))
            have HR3 := Lib.hid ((hb.block w.heap.size (lt_of_block HR2.out)).trans HR2.out)
            have HP3 : Hid (PB w3 (w.heap.size + 1) n p k d) := Lib.hid ((hb.block (w.heap.size + 1) (lt_of_block HP2.out)).trans HP2.out)
            clear hb
            have q0 : w3.cell? ⟨w.heap.size + 1, 0, none⟩ = some (.int .i64 (n : Int)) := by rw [cell_of_block HP3.out]; rfl
            have q1 : w3.cell? ⟨w.heap.size + 1, 1, none⟩ = some (.int .i64 (p : Int)) := by rw [cell_of_block HP3.out]; rfl
            have q2 : w3.cell? ⟨w.heap.size + 1, 2, none⟩ = some (.int .i64 (k : Int)) := by rw [cell_of_block HP3.out]; rfl
            have q3 : w3.cell? ⟨w.heap.size + 1, 3, none⟩ = some (.string d) := by rw [cell_of_block HP3.out]; rfl
            go_wp2_with fail
            refine (HAS.out _).mono ?_
            rintro e w4 ⟨rfl, hb⟩
            clear q0 q1 q2 q3
            have HB4 := Lib.hid (HB3.out.trans (hb.mono HB3.out.size))
            have HR4 := Lib.hid ((hb.block w.heap.size (lt_of_block HR3.out)).trans HR3.out)
            have HP4 : Hid (PB w4 (w.heap.size + 1) n p k d) := Lib.hid ((hb.block (w.heap.size + 1) (lt_of_block HP3.out)).trans HP3.out)
            clear hb
            have c0 : w4.cell? ⟨w.heap.size, 0, none⟩ = some (.int .i64 0) := by rw [cell_of_block HR4.out]; rfl
            have c1 : w4.cell? ⟨w.heap.size, 1, none⟩ = some (.int .i64 0) := by rw [cell_of_block HR4.out]; rfl
            have c2 : w4.cell? ⟨w.heap.size, 2, none⟩ = some (.int .i64 0) := by rw [cell_of_block HR4.out]; rfl
            have c3 : w4.cell? ⟨w.heap.size, 3, none⟩ = some (.string ⟨#[]⟩) := by rw [cell_of_block HR4.out]; rfl
            have f0 : w4.frozen? ⟨w.heap.size, 0, none⟩ = false := frozen_of_block HR4.out
            have f1 : w4.frozen? ⟨w.heap.size, 1, none⟩ = false := frozen_of_block HR4.out
            have f2 : w4.frozen? ⟨w.heap.size, 2, none⟩ = false := frozen_of_block HR4.out
            have f3 : w4.frozen? ⟨w.heap.size, 3, none⟩ = false := frozen_of_block HR4.out
            go_wp2_with fail
            (try simp only [Exit.inBlock, Exit.then])
            refine bodyPost_ret (ret_part rfl rfl rfl (by rw [block_setCell (block_setCell (block_setCell (block_setCell HR4.out _) _) _) _]; rfl)) rfl ?_
            exact ⟨by rw [HT.out]; rfl, ((((HB4.out.setCell (p := ⟨w.heap.size, 0, none⟩) (Nat.le_refl _) _).setCell (p := ⟨w.heap.size, 1, none⟩) (Nat.le_refl _) _).setCell (p := ⟨w.heap.size, 2, none⟩) (Nat.le_refl _) _).setCell (p := ⟨w.heap.size, 3, none⟩) (Nat.le_refl _) _)⟩
    · have HT := Lib.hid (tell_long (s := s) (by omega))
      go_enter Try.func42, Try.ntmps42
      go_wp2_with fail
      (try simp only [Exit.inBlock, Exit.then])
      refine bodyPost_ret (ret_part rfl rfl rfl (new_block _ _)) rfl ?_
      exact ⟨by rw [HT.out]; rfl, (Below.refl _ _).alloc (Nat.le_refl _) _⟩
  · have HT := Lib.hid (tell_short h64)
    go_enter Try.func42, Try.ntmps42
    go_wp2_with fail
    (try simp only [Exit.inBlock, Exit.then])
    refine bodyPost_ret (ret_part rfl rfl rfl (new_block _ _)) rfl ?_
    exact ⟨by rw [HT.out]; rfl, (Below.refl _ _).alloc (Nat.le_refl _) _⟩
end Go.Proofs.Ytcmeaeemjecjiaa.Fm
