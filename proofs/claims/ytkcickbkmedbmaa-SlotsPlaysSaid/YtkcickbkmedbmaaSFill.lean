/-
  CONTRACT of fill: some text of so many bytes.
-/
import Derived.Test.YtkcickbkmedbmaaSCon
import Derived.Test.YtkcickbkmedbmaaFSum
import Derived.Laws.MakeOwn
import Derived.Lib.MinMax
namespace Go.Proofs.Ytkcickbkmedbmaa
open Go.RowKit
open Fm (bv bv_length)

theorem blockText {w : World} {g cap : Nat} {c : Array Value} {t : TypeId} {l : List UInt8} {r : List Value} (h : w.heap[g]? = some (.cells c t (0, 0))) (hc : c.toList = bv l ++ r) {m : Nat} (hm : m = l.length) :
    (convert 59 9 (.slice (some ⟨g, 0, none⟩) m cap)).run Try.prog w = .ok (.string ⟨l.toArray⟩) w := by
  subst hm
  exact run_convert_bytes_back (P := Try.prog) w 59 9 5 ⟨g, 0, none⟩ cap l Try.underlying59 Try.underlying5 Try.underlying9 (fun j hj => by
    rw [Addr.add_lit, Nat.zero_add, Fm.cell_of_block h, ← Array.getElem?_toList, hc, List.getElem?_append_left (by rw [bv_length]; exact hj)]
    simp [bv, List.getElem?_eq_getElem hj])

/-! ### the cells, step by step -/

theorem madeBytes (w : World) (m : Nat) (hm : m ≤ 6000) : ∃ w1, (Instr.makeSlice 59 (.int .i64 (m : Int)) (.int .i64 (m : Int))).run Try.prog w = .ok (.slice (some ⟨w.heap.size, 0, none⟩) m m) w1 ∧
    w1.heap[w.heap.size]? = some (.cells (bv (List.replicate m 0)).toArray 5 (0, 0)) ∧ Below w.heap.size w w1 := by
  obtain ⟨i0, hi, hz, hs, hb⟩ := info_parts Fm.infoU
  have hr := run_make (P := Try.prog) w 59 5 i0 _ Try.underlying59 hi hz .i64 .i64 (m : Int) (m : Int) (by omega) (by omega) (by rw [hb]; omega) (by omega)
  simp only [Int.toNat_natCast] at hr
  refine ⟨_, hr, ?_, (Below.refl _ _).alloc (Nat.le_refl _) _⟩
  rw [hs]
  show (w.heap.push _)[w.heap.size]? = _
  rw [Array.getElem?_push_size]
  have e : madeCells (Value.int .u8 0).cells (m * 1) = (bv (List.replicate m 0)).toArray := by
    apply Array.ext'
    rw [show (Value.int .u8 0).cells = #[Value.int .u8 0] from by simp [Value.cells], toList_madeCells_one]
    simp [bv]
  rw [e]
theorem bv_set (l : List UInt8) (k : Nat) (x : Int) : ∃ l' : List UInt8, l'.length = l.length ∧ (bv l).toArray.setIfInBounds k (.int .u8 (x % 256)) = (bv l').toArray := by
  refine ⟨l.set k (UInt8.ofNat (x % 256).toNat), by simp, ?_⟩
  rw [List.setIfInBounds_toArray]
  congr 1
  have e : Value.int .u8 (x % 256) = Value.int .u8 ((UInt8.ofNat (x % 256).toNat).toNat : Int) := by
    rw [UInt8.toNat_ofNat']; congr 1; omega
  rw [e]
  simp [bv, List.map_set]

set_option maxRecDepth 100000 in
set_option maxHeartbeats 800000 in
theorem fill_any (z b : Int) (w : World) : Calls Try.prog 10 #[.int .i64 z, .int .i64 b] w fun e w' => ∃ d : ByteArray, d.size ≤ 5000 ∧ (d.size : Int) = min (max z 0) 5000 ∧ e = .returned (.string d) ∧ Below w.heap.size w w' := by
  obtain ⟨m, hm⟩ := Int.eq_ofNat_of_zero_le (show 0 ≤ min (max z 0) 5000 by omega)
  have hm5 : m ≤ 5000 := by omega
  obtain ⟨w1, hmk, hg, hb⟩ := madeBytes w m (by omega)
  have HG := Lib.hid hg
  have HB := Lib.hid hb
  clear hg hb
  go_enter Try.func10, Try.ntmps10
  go_wp2_with fail
  go_loopw [6] (fun i wr => ∃ k : Nat, k ≤ m ∧ i = .int .i64 (k : Int) ∧ (∃ l : List UInt8, l.length = m ∧ Hid (wr.heap[w.heap.size]? = some (.cells (bv l).toArray 5 (0, 0)))) ∧ Hid (Below w.heap.size w wr)) (fun i _ => m - (RowKit.intOf i).toNat)
  case atStart => exact ⟨0, by omega, rfl, ⟨List.replicate m 0, by simp, HG⟩, HB⟩
  case round =>
    obtain ⟨k, hk, rfl, ⟨l, hl, HL⟩, HW⟩ := hrel
    by_cases hlt : k < m
    · have hc : wr.cell? ⟨w.heap.size, k, none⟩ = some ((bv l)[k]'(by rw [bv_length]; omega)) := by rw [cell_of_block HL.out, List.getElem?_toArray]; exact List.getElem?_eq_getElem _
      have hf : wr.frozen? ⟨w.heap.size, k, none⟩ = false := frozen_of_block HL.out
      generalize (bv l)[k]'(by rw [bv_length]; omega) = u at hc
      have h1 : (0 : Int) ≤ (k : Int) := by omega
      have h2 : (k : Int) < (m : Int) := by omega
      go_wp2_with fail
      obtain ⟨l', hl', hset⟩ := bv_set l k (wrap64 (b + (k : Int) / 50))
      go_roundw
      case rel => exact ⟨k + 1, by omega, by go_num, ⟨l', by rw [hl', hl], Lib.hid (by rw [block_setCell HL.out, hset])⟩, Lib.hid (HW.out.setCell (p := ⟨w.heap.size, k, none⟩) (Nat.le_refl _) _)⟩
      case measure => simp [RowKit.intOf]; omega
    · obtain rfl : k = m := by omega
      have htx := blockText (cap := k) (w := wr) (g := w.heap.size) (m := k) (l := l) (r := []) HL.out (by simp) hl.symm
      go_wp2_with fail
      go_ret
      exact ⟨_, by show l.toArray.size ≤ 5000; simp; omega, by show ((l.toArray.size : Nat) : Int) = _; simp; omega, rfl, HW.out⟩

end Go.Proofs.Ytkcickbkmedbmaa
