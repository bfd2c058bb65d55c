/-
  WHAT SlotsPlays CALLS, both sides beside each other (K); fill, to the byte.
-/
import Derived.Test.YtkcickbkmedbmaaMK
import Derived.Test.YtkcickbkmedbmaaSRLoad
namespace Go.Proofs.Ytkcickbkmedbmaa
open Go.RowKit Go.Maps
open Fm (bv bv_length)

/-! ### fill -/
def fillL (m : Nat) (b : Int) (k : Nat) : List UInt8 := (List.range k).map (fun i : Nat => UInt8.ofNat (wrap64 (b + (i : Int) / 50) % 256).toNat) ++ List.replicate (m - k) 0
def fillB (z b : Int) : ByteArray := ⟨(fillL (min (max z 0) 5000).toNat b (min (max z 0) 5000).toNat).toArray⟩
theorem fillL_length (m : Nat) (b : Int) (k : Nat) (h : k ≤ m) : (fillL m b k).length = m := by simp [fillL]; omega
theorem fillB_size (z b : Int) : (fillB z b).size ≤ 5000 := by
  show (fillL _ b _).toArray.size ≤ 5000
  rw [List.size_toArray, fillL_length _ _ _ (Nat.le_refl _)]
  omega
theorem fillL_set (m : Nat) (b : Int) (k : Nat) (h : k < m) : (bv (fillL m b k)).toArray.setIfInBounds k (.int .u8 (wrap64 (b + (k : Int) / 50) % 256)) = (bv (fillL m b (k + 1))).toArray := by
  have e : Value.int .u8 (wrap64 (b + (k : Int) / 50) % 256) = Value.int .u8 ((UInt8.ofNat (wrap64 (b + (k : Int) / 50) % 256).toNat).toNat : Int) := by
    rw [UInt8.toNat_ofNat']; congr 1; omega
  obtain ⟨r, hr⟩ : ∃ r, m - k = r + 1 := ⟨m - k - 1, by omega⟩
  rw [List.setIfInBounds_toArray, e]
  congr 1
  unfold fillL
  rw [hr, show m - (k + 1) = r from by omega, List.replicate_succ, Fm.bv_append, Fm.bv_append]
  have hl : (bv ((List.range k).map (fun i : Nat => UInt8.ofNat (wrap64 (b + (i : Int) / 50) % 256).toNat))).length = k := by simp [bv]
  rw [List.set_append_right _ _ (by omega), hl, Nat.sub_self, List.range_succ, List.map_append, Fm.bv_append, List.append_assoc]
  rfl
theorem fillL_zero (m : Nat) (b : Int) : fillL m b 0 = List.replicate m 0 := by simp [fillL]

set_option maxRecDepth 100000 in
set_option maxHeartbeats 800000 in
theorem fill_eq (z b : Int) (w : World) : Calls Try.prog 10 #[.int .i64 z, .int .i64 b] w fun e w' => e = .returned (.string (fillB z b)) ∧ Below w.heap.size w w' := by
  obtain ⟨m, hm⟩ := Int.eq_ofNat_of_zero_le (show 0 ≤ min (max z 0) 5000 by omega)
  have hm5 : m ≤ 5000 := by omega
  have HFB : Hid (fillB z b = ⟨(fillL m b m).toArray⟩) := Lib.hid (by unfold fillB; rw [hm]; rfl)
  obtain ⟨w1, hmk, hg, hb⟩ := madeBytes w m (by omega)
  rw [← fillL_zero m b] at hg
  have HG := Lib.hid hg
  have HB := Lib.hid hb
  clear hg hb
  go_enter Try.func10, Try.ntmps10
  go_wp2_with fail
  go_loopw [6] (fun i wr => ∃ k : Nat, k ≤ m ∧ i = .int .i64 (k : Int) ∧ Hid (wr.heap[w.heap.size]? = some (.cells (bv (fillL m b k)).toArray 5 (0, 0))) ∧ Hid (Below w.heap.size w wr)) (fun i _ => m - (RowKit.intOf i).toNat)
  case atStart => exact ⟨0, by omega, rfl, HG, HB⟩
  case round =>
    obtain ⟨k, hk, rfl, HL, HW⟩ := hrel
    by_cases hlt : k < m
    · have hll := fillL_length m b k hk
      have hc : wr.cell? ⟨w.heap.size, k, none⟩ = some ((bv (fillL m b k))[k]'(by rw [bv_length]; omega)) := by rw [cell_of_block HL.out, List.getElem?_toArray]; exact List.getElem?_eq_getElem _
      have hf : wr.frozen? ⟨w.heap.size, k, none⟩ = false := frozen_of_block HL.out
      generalize (bv (fillL m b k))[k]'(by rw [bv_length]; omega) = u at hc
      have h1 : (0 : Int) ≤ (k : Int) := by omega
      have h2 : (k : Int) < (m : Int) := by omega
      have HST := Lib.hid (fillL_set m b k hlt)
      clear hll
      go_wp2_with fail
      go_roundw
      case rel => exact ⟨k + 1, by omega, by go_num, Lib.hid (by rw [block_setCell HL.out, HST.out]), Lib.hid (HW.out.setCell (p := ⟨w.heap.size, k, none⟩) (Nat.le_refl _) _)⟩
      case measure => simp [RowKit.intOf]; omega
    · obtain rfl : k = m := by omega
      have htx := blockText (cap := k) (w := wr) (g := w.heap.size) (m := k) (l := fillL k b k) (r := []) HL.out (by simp) (fillL_length k b k (Nat.le_refl _)).symm
      go_wp2_with fail
      go_ret
      exact ⟨by rw [HFB.out]; rfl, HW.out⟩

/-! ### both sides -/
section
variable {w0 w w' : World} {b br n n' : Nat} {s s' : St} {cs : List (Nat × Obj)}
theorem K.grow (h : K w0 w b br n s n' s' cs) (hb : Below w.heap.size w w') {g : Nat} {o : Obj} (hg : w.heap.size ≤ g) (ho : w'.heap[g]? = some o) : K w0 w' b br n s n' s' ((g, o) :: cs) := by
  obtain ⟨X, Y, hm, hr, hd, hX, hY, hc, h0⟩ := h
  refine ⟨X, Y, hm.below hb, hr.below hb, hd, fun k hk => ⟨(hX k hk).1, fun p hp => ?_⟩, fun k hk => ⟨(hY k hk).1, fun p hp => ?_⟩, fun p hp => ?_, h0.trans (hb.mono h0.size)⟩
  · rcases List.mem_cons.1 hp with rfl | hp
    · have := hm.lt hk; show k ≠ g; omega
    · exact (hX k hk).2 p hp
  · rcases List.mem_cons.1 hp with rfl | hp
    · have := hr.lt hk; show k ≠ g; omega
    · exact (hY k hk).2 p hp
  · rcases List.mem_cons.1 hp with rfl | hp
    · exact ⟨ho, Nat.le_trans h0.size hg⟩
    · exact ⟨(hb.block p.1 (Array.getElem?_eq_some_iff.1 (hc p hp).1).1).trans (hc p hp).1, (hc p hp).2⟩
theorem K.block (h : K w0 w b br n s n' s' cs) {g : Nat} {o : Obj} (hp : (g, o) ∈ cs) : w.heap[g]? = some o := by
  obtain ⟨_, _, _, _, _, _, _, hc, _⟩ := h
  exact (hc _ hp).1
theorem K.good (h : K w0 w b br n s n' s' cs) : s.Good n := by obtain ⟨_, _, hm, _⟩ := h; exact hm.good
theorem fillK (h : K w0 w b br n s n' s' cs) (z y : Int) :
    Calls Try.prog 10 #[.int .i64 z, .int .i64 y] w fun e w' => e = .returned (.string (fillB z y)) ∧ K w0 w' b br n s n' s' cs :=
  (fill_eq z y w).mono fun _ _ ⟨he, hb⟩ => ⟨he, h.below hb⟩

theorem saveK (h : K w0 w b br n s n' s' cs) {z : Int} {d : ByteArray} (hn : n ≤ 500000) (hd : d.size ≤ 5000) {c : Int} {s1 : St} (hr : saveF s z d = (c, s1)) :
    Calls Try.prog 9 #[.pointer (some ⟨b, 0, none⟩), .int .i64 z, .string d] w fun e w' => e = .returned (.int .i64 c) ∧ K w0 w' b br (n + 95) s1 n' s' cs := by
  have hp := slotsLasts.partsN_5000 hd
  unfold saveF at hr
  by_cases hz : 1 ≤ z ∧ z ≤ 2147483647 ∧ d.size ≤ 1000000
  · rw [if_pos hz] at hr
    obtain ⟨m, rfl⟩ := Int.eq_ofNat_of_zero_le (show 0 ≤ z by omega)
    obtain ⟨X, Y, hm, hrm, hdd, hX, hY, hc, h0⟩ := h
    refine (save_gen X b n s w hm hn m d (by omega) (by omega) (by omega)).mono ?_
    rintro e w' ⟨X', he, hm', ho, hnew⟩
    simp only [Int.toNat_natCast] at hr
    rw [hr] at he hm'
    exact ⟨he, (K.step1 hm hrm hdd hX hY hc h0 hm' ho hnew).mono (by omega) (Nat.le_refl _)⟩
  · rw [if_neg hz] at hr
    injection hr with h1 h2
    subst h1 h2
    exact (wrong_any b w z d (by omega)).mono fun e w' ⟨he, hb⟩ => ⟨he, (h.below hb).mono (by omega) (Nat.le_refl _)⟩
theorem rsaveK (h : K w0 w b br n s n' s' cs) {z : Int} {d : ByteArray} (hn : n' ≤ 500000) (hd : d.size ≤ 5000) {c : Int} {s1 : St} (hr : saveF s' z d = (c, s1)) :
    Calls Try.prog 11 #[.pointer (some ⟨br, 0, none⟩), .int .i64 z, .string d] w fun e w' => e = .returned (.int .i64 c) ∧ K w0 w' b br n s (n' + 95) s1 cs := by
  have hp := slotsLasts.partsN_5000 hd
  unfold saveF at hr
  by_cases hz : 1 ≤ z ∧ z ≤ 2147483647 ∧ d.size ≤ 1000000
  · rw [if_pos hz] at hr
    obtain ⟨m, rfl⟩ := Int.eq_ofNat_of_zero_le (show 0 ≤ z by omega)
    obtain ⟨X, Y, hm, hrm, hdd, hX, hY, hc, h0⟩ := h
    refine (rsave_gen Y br n' s' w hrm hn m d (by omega) (by omega) (by omega)).mono ?_
    rintro e w' ⟨Y', he, hm', ho, hnew⟩
    simp only [Int.toNat_natCast] at hr
    rw [hr] at he hm'
    exact ⟨he, (K.step2 hm hdd hX hY hc h0 hm' ho hnew).mono (Nat.le_refl _) (by omega)⟩
  · rw [if_neg hz] at hr
    injection hr with h1 h2
    subst h1 h2
    exact (rsave_bad br z d w (by omega)).mono fun e w' ⟨he, hb⟩ => ⟨he, (h.below hb).mono (Nat.le_refl _) (by omega)⟩
theorem loadK (h : K w0 w b br n s n' s' cs) (hoff : s.off = false) :
    Calls Try.prog 16 #[.pointer (some ⟨b, 0, none⟩)] w fun e w' => e = .returned (loadV (Ps.loadF (mdT s))) ∧ K w0 w' b br n s n' s' cs := by
  obtain ⟨X, Y, hm, _⟩ := id h
  exact (load_any X b n s w hm hoff).mono fun e w' ⟨he, hb⟩ => ⟨he, h.below hb⟩
theorem rloadK (h : K w0 w b br n s n' s' cs) (hn : n' ≤ 1000000) (hoff : s'.off = false) :
    Calls Try.prog 17 #[.pointer (some ⟨br, 0, none⟩)] w fun e w' => e = .returned (loadV (Ps.loadF (mdT s'))) ∧ K w0 w' b br n s n' s' cs := by
  obtain ⟨X, Y, _, hm, _⟩ := id h
  exact (rload_any Y br n' s' w hm hn hoff).mono fun e w' ⟨he, hb⟩ => ⟨he, h.below hb⟩
end
theorem load_parts (T : Ps.Md) : ∃ (q0 q2 : Int) (q1 : ByteArray), loadV (Ps.loadF T) = .tuple #[.int .i64 q0, .string q1, .int .i64 q2] := by
  cases Ps.loadF T with
  | none => exact ⟨_, _, _, rfl⟩
  | some q => obtain ⟨n, d⟩ := q; exact ⟨_, _, _, rfl⟩
end Go.Proofs.Ytkcickbkmedbmaa
