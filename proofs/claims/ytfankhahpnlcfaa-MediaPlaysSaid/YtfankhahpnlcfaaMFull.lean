/-
  CONTRACT of full: a sector of one byte; with odd: of one byte less.
-/
import Derived.Test.YtfankhahpnlcfaaMRead
import Derived.Laws.MakeOwn
import Derived.Laws.IdiomStrings
import Derived.Laws.OwnMore
namespace Go.Proofs.Ytfankhahpnlcfaa
open Go.RowKit

def by8 (b : Int) : UInt8 := UInt8.ofNat (b % 256).toNat
theorem wrap_u8 (b : Int) : IntKind.u8.wrap b = ((by8 b).toNat : Int) := by
  have h : IntKind.u8.wrap b = b % 256 := by simp [IntKind.wrap, IntKind.bits, IntKind.signed]
  rw [h]
  unfold by8
  rw [UInt8.toNat_ofNat']
  omega
def fullB (b : Int) (odd : Bool) : ByteArray := ⟨(List.replicate (if odd then 63 else 64) (by8 b)).toArray⟩
theorem fullB_size (b : Int) (odd : Bool) : (fullB b odd).size = if odd then 63 else 64 := by
  show (List.replicate _ _).toArray.size = _
  simp

def fc (v : Value) (k : Nat) : Array Value := (List.replicate k v ++ List.replicate (64 - k) (Value.int .u8 0)).toArray
theorem fc_set (v : Value) (k : Nat) (hk : k < 64) : (fc v k).setIfInBounds k v = fc v (k + 1) := by
  unfold fc
  obtain ⟨m, hm⟩ : ∃ m, 64 - k = m + 1 := ⟨63 - k, by omega⟩
  rw [List.setIfInBounds_toArray, hm, show 64 - (k + 1) = m from by omega, List.set_append_right _ _ (by simp), List.length_replicate, Nat.sub_self, List.replicate_succ, List.set_cons_zero, List.replicate_succ', List.append_assoc]
  rfl
theorem fc_at (v : Value) (k : Nat) (hk : k < 64) : (fc v k)[k]? = some (.int .u8 0) := by
  unfold fc
  rw [List.getElem?_toArray, List.getElem?_append_right (by simp), List.length_replicate, Nat.sub_self]
  obtain ⟨m, hm⟩ : ∃ m, 64 - k = m + 1 := ⟨63 - k, by omega⟩
  rw [hm, List.replicate_succ]; rfl
theorem fc_full (v : Value) (j : Nat) (hj : j < 64) : (fc v 64)[j]? = some v := by
  unfold fc
  rw [List.getElem?_toArray, Nat.sub_self, List.replicate_zero, List.append_nil, List.getElem?_replicate, if_pos hj]

theorem infoU8 : (Try.prog.info? 5).map (fun i => (i.zero, i.size, i.bytes)) = some (some (.int .u8 0), 1, 1) := by kernel_rfl

theorem made64 (w : World) : ∃ w1, (Instr.makeSlice 59 (.int .i64 64) (.int .i64 64)).run Try.prog w = .ok (.slice (some ⟨w.heap.size, 0, none⟩) 64 64) w1 ∧
    w1.heap[w.heap.size]? = some (.cells (fc (.int .u8 0) 0) 5 (0, 0)) ∧ Below w.heap.size w w1 ∧ w1.heap.size = w.heap.size + 1 := by
  obtain ⟨i0, hi, hz, hs, hb⟩ := info_parts infoU8
  refine ⟨_, run_make w 59 5 i0 _ Try.underlying59 hi hz .i64 .i64 64 64 (by omega) (by omega) (by rw [hb]; omega) (by omega), ?_, (Below.refl _ _).alloc (Nat.le_refl _) _, by simp⟩
  rw [hs]
  show (w.heap.push _)[w.heap.size]? = _
  rw [Array.getElem?_push_size]
  have e : madeCells (Value.int .u8 0).cells (Int.toNat 64 * 1) = fc (.int .u8 0) 0 := by
    apply Array.ext'
    rw [show (Value.int .u8 0).cells = #[Value.int .u8 0] from by simp [Value.cells], toList_madeCells_one]
    rfl
  rw [e]

theorem back64 (w : World) (g off m : Nat) (b : Int) (hm : off + m = 64) (h : w.heap[g]? = some (.cells (fc (.int .u8 ((by8 b).toNat : Int)) 64) 5 (0, 0))) :
    (convert 59 9 (.slice (some ⟨g, off, none⟩) m m)).run Try.prog w = .ok (.string ⟨(List.replicate m (by8 b)).toArray⟩) w := by
  have := run_convert_bytes_back (P := Try.prog) w 59 9 5 ⟨g, off, none⟩ m (List.replicate m (by8 b)) Try.underlying59 Try.underlying5 Try.underlying9 (fun j hj => by
    rw [List.length_replicate] at hj
    rw [Addr.add_lit, cell_of_block h, fc_full _ _ (by omega), List.getElem_replicate])
  rwa [List.length_replicate] at this

set_option maxRecDepth 100000 in
set_option maxHeartbeats 800000 in
theorem full_any (b : Int) (odd : Bool) (w : World) : Calls Try.prog 10 #[.int .i64 b, .bool odd] w fun e w' => e = .returned (.string (fullB b odd)) ∧ Below w.heap.size w w' := by
  obtain ⟨w1, hmk, hg1, hb1, hs1⟩ := made64 w
  have HG1 := Lib.hid hg1
  have HB1 := Lib.hid hb1
  have hwr := wrap_u8 b
  clear hg1 hb1 hs1
  go_enter Try.func10, Try.ntmps10
  go_wp2_with fail
  go_loopw [6] (fun i wr => ∃ k : Nat, k ≤ 64 ∧ i = .int .i64 (k : Int) ∧ Hid (wr.heap[w.heap.size]? = some (.cells (fc (.int .u8 ((by8 b).toNat : Int)) k) 5 (0, 0))) ∧ Hid (Below w.heap.size w wr)) (fun i _ => 64 - (RowKit.intOf i).toNat)
  case atStart => exact ⟨0, by omega, rfl, Lib.hid HG1.out, HB1⟩
  case round =>
    obtain ⟨k, hk, rfl, HG, HB⟩ := hrel
    by_cases hlt : k < 64
    · have h1 : (0 : Int) ≤ (k : Int) := by omega
      have h2 : (k : Int) < 64 := by omega
      have hc : wr.cell? ⟨w.heap.size, k, none⟩ = some (.int .u8 0) := by rw [cell_of_block HG.out]; exact fc_at _ _ hlt
      have hf : wr.frozen? ⟨w.heap.size, k, none⟩ = false := frozen_of_block HG.out
      go_wp2_with fail
      go_roundw
      case rel => exact ⟨k + 1, by omega, by go_num, Lib.hid (by rw [block_setCell HG.out, fc_set _ _ hlt]), Lib.hid (HB.out.setCell (p := ⟨w.heap.size, k, none⟩) (Nat.le_refl _) _)⟩
      case measure => simp [RowKit.intOf]; omega
    · obtain rfl : k = 64 := by omega
      cases odd
      · have hbk := back64 wr w.heap.size 0 64 b (by omega) HG.out
        go_wp2_with fail
        go_ret
        exact ⟨rfl, HB.out⟩
      · have hbk := back64 wr w.heap.size 1 63 b (by omega) HG.out
        go_wp2_with fail
        go_ret
        exact ⟨rfl, HB.out⟩
end Go.Proofs.Ytfankhahpnlcfaa
