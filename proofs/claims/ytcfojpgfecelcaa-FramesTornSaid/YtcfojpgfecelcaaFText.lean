/-
  CONTRACTS of texts (two lists that are the same) and zeros.
-/
import Derived.Test.YtcfojpgfecelcaaFLay
namespace Go.Proofs.Ytcfojpgfecelcaa
open Go.RowKit

set_option maxRecDepth 100000 in
set_option maxHeartbeats 800000 in
theorem texts_any (A A2 : Option Addr) (n c m c2 : Nat) (l : List ByteArray) (w : World) (hn : n = l.length) (hm : m = l.length) (hn63 : n ≤ 140737488355328)
    (hr : Rd w w.heap.size A (sc l)) (hr2 : Rd w w.heap.size A2 (sc l)) :
    Calls Try.prog 13 #[.slice A n c, .slice A2 m c2] w fun e w' => e = .returned (.bool true) ∧ Below w.heap.size w w' := by
  obtain rfl : n = m := by omega
  have HN := Lib.hid hn
  have HR := Lib.hid hr
  have HR2 := Lib.hid hr2
  clear hn hr hr2 hm
  go_enter Try.func13, Try.ntmps13
  go_wp2_with fail
  go_loopw [5] (fun i wr => ∃ k : Nat, k ≤ n ∧ i = .int .i64 (k : Int) ∧ Hid (∃ q, wr = w.drewN q)) (fun i _ => n - (RowKit.intOf i).toNat)
  case atStart => exact ⟨0, by omega, rfl, Lib.hid ⟨0, rfl⟩⟩
  case round =>
    obtain ⟨k, hk, rfl, hq⟩ := hrel
    obtain ⟨q, hq⟩ := hq.out
    subst hq
    by_cases hlt : k < n
    · have hl : k < l.length := by rw [← HN.out]; exact hlt
      obtain ⟨b, off, rfl, hb, hc⟩ := HR.out.str_at hl
      obtain ⟨b2, off2, rfl, hb2, hc2⟩ := HR2.out.str_at hl
      have hc0 := hc k hl
      have hd0 := hc2 k hl
      clear hc hc2
      have h1 : (0 : Int) ≤ (k : Int) := by omega
      have h2 : (k : Int) < (n : Int) := by omega
      generalize l[k] = p at hc0 hd0
      have hpp : (p.toList == p.toList) = true := beq_self_eq_true _
      go_wp2_with fail
      go_quiet (fail)
      go_wp2_with fail
      go_roundw
      case rel => exact ⟨k + 1, by omega, by go_num, Lib.hid ⟨_, rfl⟩⟩
      case measure => simp [RowKit.intOf]; omega
    · obtain rfl : k = n := by omega
      go_wp2_with fail
      go_ret
      exact ⟨rfl, below_drewN (Below.refl _ _) _⟩

theorem madeB (w : World) (m : Nat) (hm : m ≤ 1000) : ∃ w1, (Instr.makeSlice 54 (.int .i64 (m : Int)) (.int .i64 (m : Int))).run Try.prog w = .ok (.slice (some ⟨w.heap.size, 0, none⟩) m m) w1 ∧
    w1.heap[w.heap.size]? = some (.cells (bv (List.replicate m 0)).toArray 5 (0, 0)) ∧ Below w.heap.size w w1 := by
  obtain ⟨i0, hi, hz, hs, hb⟩ := info_parts infoU
  have hr := run_make (P := Try.prog) w 54 5 i0 _ Try.underlying54 hi hz .i64 .i64 (m : Int) (m : Int) (by omega) (by omega) (by rw [hb]; omega) (by omega)
  simp only [Int.toNat_natCast] at hr
  refine ⟨_, hr, ?_, (Below.refl _ _).alloc (Nat.le_refl _) _⟩
  rw [hs]
  show (w.heap.push _)[w.heap.size]? = _
  rw [Array.getElem?_push_size]
  have e : madeCells (Value.int .u8 0).cells (m * 1) = (bv (List.replicate m 0)).toArray := by
    apply Array.ext'
    rw [show (Value.int .u8 0).cells = #[Value.int .u8 0] from by simp [Value.cells], toList_madeCells_one]
    simp [bv]
  rw [e]
def zerosB (m : Nat) : ByteArray := ⟨(List.replicate m 0).toArray⟩
theorem zerosB_size (m : Nat) : (zerosB m).size = m := by show (List.replicate m (0 : UInt8)).toArray.size = m; simp
set_option maxRecDepth 100000 in
theorem zeros_any (m : Nat) (w : World) (hm : m ≤ 1000) : Calls Try.prog 23 #[.int .i64 (m : Int)] w fun e w' => e = .returned (.string (zerosB m)) ∧ Below w.heap.size w w' := by
  obtain ⟨w1, hmk, hg, hb⟩ := madeB w m hm
  have htx := blockText (cap := m) (w := w1) (g := w.heap.size) (m := m) (l := List.replicate m 0) (r := []) hg (by simp) (by simp)
  have HB := Lib.hid hb
  clear hg hb
  go_enter Try.func23, Try.ntmps23
  go_wp2_with fail
  go_ret
  exact ⟨rfl, HB.out⟩
end Go.Proofs.Ytcfojpgfecelcaa
