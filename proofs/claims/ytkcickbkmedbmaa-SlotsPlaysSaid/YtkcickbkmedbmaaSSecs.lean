/-
  CONTRACTS of Sectors, valid, slot, sectors.
-/
import Derived.Test.YtkcickbkmedbmaaSAsm
namespace Go.Proofs.Ytkcickbkmedbmaa.Fm
open Go.RowKit

/-- How many sectors so many bytes have. -/
def sectF (z : Int) : Int := (max z 1 - 1) / 53 + 1
theorem sectF_nat (k : Nat) : sectF (k : Int) = (Ps.partsN k : Int) := by unfold sectF Ps.partsN; omega

set_option maxRecDepth 100000 in
theorem sectors_any (z : Int) (w : World) (h0 : -9223372036854775808 ≤ z) (h1 : z ≤ 9223372036854775807) :
    Calls Try.prog 23 #[.int .i64 z] w fun e w' => e = .returned (.int .i64 (sectF z)) ∧ w = w' := by
  have HZ : Hid (sectF z = (max z 1 - 1) / 53 + 1) := Lib.hid rfl
  go_enter Try.func23, Try.ntmps23
  go_wp2_with fail
  go_ret
  exact ⟨by rw [HZ.out]; rfl, rfl⟩

def validF (n : Int) (m : Nat) : Bool := decide (1 ≤ n) && decide (n ≤ 2147483647) && decide (m ≤ 1000000)
theorem validF_iff (n : Int) (m : Nat) : validF n m = true ↔ 1 ≤ n ∧ n ≤ 2147483647 ∧ m ≤ 1000000 := by simp [validF, and_assoc]

set_option maxRecDepth 100000 in
set_option maxHeartbeats 800000 in
theorem valid_any (n : Int) (d : ByteArray) (w : World) :
    Calls Try.prog 27 #[.agg #[.int .i64 n, .string d]] w fun e w' => e = .returned (.bool (validF n d.size)) ∧ Below w.heap.size w w' := by
  have hb : Hid (Below w.heap.size w (w.alloc (.cells #[.int .i64 n, .string d] 57))) := Lib.hid ((Below.refl _ _).alloc (Nat.le_refl _) _)
  by_cases c1 : 1 ≤ n
  · by_cases c2 : n ≤ 2147483647
    · have H := Lib.hid (show validF n d.size = decide ((d.size : Int) ≤ 1000000) from by simp [validF, c1, c2]; omega)
      go_enter Try.func27, Try.ntmps27
      go_wp2_with fail
      go_ret
      exact ⟨by rw [H.out]; rfl, hb.out⟩
    · have H := Lib.hid (show validF n d.size = false from by simp [validF, c2])
      go_enter Try.func27, Try.ntmps27
      go_wp2_with fail
      go_ret
      exact ⟨by rw [H.out]; rfl, hb.out⟩
  · have H := Lib.hid (show validF n d.size = false from by simp [validF, c1])
    go_enter Try.func27, Try.ntmps27
    go_wp2_with fail
    go_ret
    exact ⟨by rw [H.out]; rfl, hb.out⟩

set_option maxRecDepth 100000 in
theorem slot_any (n : Nat) (d : ByteArray) (w : World) (hn : n ≤ 2147483647) :
    Calls Try.prog 29 #[.agg #[.int .i64 (n : Int), .string d]] w fun e w' => e = .returned (.int .i64 ((n % 2 : Nat) : Int)) ∧ Below w.heap.size w w' := by
  have hb : Hid (Below w.heap.size w (w.alloc (.cells #[.int .i64 (n : Int), .string d] 57))) := Lib.hid ((Below.refl _ _).alloc (Nat.le_refl _) _)
  go_enter Try.func29, Try.ntmps29
  go_wp2_with fail
  go_ret
  exact ⟨by first | rfl | (simp), hb.out⟩

/-- A row of texts, filled so far. -/
def filled (l : List ByteArray) (m i : Nat) : Array Value := (sc (l.take i) ++ List.replicate (m - i) (Value.string ByteArray.empty)).toArray
theorem filled_set (l : List ByteArray) (m i : Nat) (s : ByteArray) (h : i < m) (hl : l.length = m) (hs : l[i]? = some s) : (filled l m i).setIfInBounds i (.string s) = filled l m (i + 1) := by
  unfold filled
  obtain ⟨k, hk⟩ : ∃ k, m - i = k + 1 := ⟨m - i - 1, by omega⟩
  have hi : i < l.length := by omega
  have e : l[i] = s := (List.getElem?_eq_some_iff.1 hs).2
  have hlen : (sc (l.take i)).length = i := by rw [sc_length, List.length_take]; omega
  rw [List.setIfInBounds_toArray, hk, show m - (i + 1) = k from by omega, List.set_append_right _ _ (by omega), hlen, Nat.sub_self, List.replicate_succ, List.set_cons_zero, List.take_succ_eq_append_getElem hi, sc_append, e, List.append_assoc]
  rfl
theorem filled_at (l : List ByteArray) (m i : Nat) (h : i < m) (hl : l.length = m) : (filled l m i)[i]? = some (.string ByteArray.empty) := by
  unfold filled
  have hlen : (sc (l.take i)).length = i := by rw [sc_length, List.length_take]; omega
  obtain ⟨k, hk⟩ : ∃ k, m - i = k + 1 := ⟨m - i - 1, by omega⟩
  rw [List.getElem?_toArray, List.getElem?_append_right (by omega), hlen, Nat.sub_self, hk, List.replicate_succ]
  rfl
theorem filled_end (l : List ByteArray) (m : Nat) (hl : l.length = m) : filled l m m = (sc l).toArray := by
  unfold filled
  rw [Nat.sub_self, List.replicate_zero, List.append_nil, List.take_of_length_le (by omega)]

theorem madeS (w : World) (m : Nat) (hm : m ≤ 18868) (l : List ByteArray) : ∃ w1, (Instr.makeSlice 37 (.int .i64 (m : Int)) (.int .i64 (m : Int))).run Try.prog w = .ok (.slice (some ⟨w.heap.size, 0, none⟩) m m) w1 ∧
    w1.heap[w.heap.size]? = some (.cells (filled l m 0) 9 (0, 0)) ∧ Below w.heap.size w w1 ∧ w1.heap.size = w.heap.size + 1 := by
  obtain ⟨i0, hi, hz, hs, hb⟩ := info_parts infoS
  have hr := run_make (P := Try.prog) w 37 9 i0 _ Try.underlying37 hi hz .i64 .i64 (m : Int) (m : Int) (by omega) (by omega) (by rw [hb]; omega) (by omega)
  simp only [Int.toNat_natCast] at hr
  refine ⟨_, hr, ?_, (Below.refl _ _).alloc (Nat.le_refl _) _, by simp⟩
  rw [hs]
  show (w.heap.push _)[w.heap.size]? = _
  rw [Array.getElem?_push_size]
  have e : madeCells (Value.string ByteArray.empty).cells (m * 1) = filled l m 0 := by
    apply Array.ext'
    rw [show (Value.string ByteArray.empty).cells = #[Value.string ByteArray.empty] from by simp [Value.cells], toList_madeCells_one]
    simp [filled, sc]
  rw [e]

/-- A snapshot's sectors, in a row of its own. -/
def SecsPost (n : Nat) (d : ByteArray) (w : World) (e : Ending) (w' : World) : Prop :=
  ∃ g m, w.heap.size ≤ g ∧ m = Ps.partsN d.size ∧ e = .returned (.slice (some ⟨g, 0, none⟩) m m) ∧ w'.heap[g]? = some (.cells (sc (Ps.secs n d)).toArray 9 (0, 0)) ∧ Below w.heap.size w w'

set_option maxRecDepth 100000 in
set_option maxHeartbeats 3200000 in
theorem secs_any (n : Nat) (d : ByteArray) (w : World) (hn1 : 1 ≤ n) (hn2 : n ≤ 2147483647) (hs : d.size ≤ 1000000) :
    Calls Try.prog 28 #[.agg #[.int .i64 (n : Int), .string d]] w (SecsPost n d w) := by
  obtain ⟨m, hm⟩ : ∃ m, Ps.partsN d.size = m := ⟨_, rfl⟩
  have hp1 := Ps.partsN_pos d.size
  have hp8 := Ps.partsN_le hs
  have hpl := Ps.partsN_lo d.size
  have HSF : Hid (sectF (d.size : Int) = (m : Int)) := Lib.hid (by rw [sectF_nat, hm])
  rw [hm] at hp1 hp8 hpl
  obtain ⟨g, hg⟩ : ∃ g, g = w.heap.size + 1 := ⟨_, rfl⟩
  have HGE := Lib.hid hg
  have hsa : (w.alloc (.cells #[.int .i64 (n : Int), .string d] 57)).heap.size = g := by rw [hg]; simp
  obtain ⟨wm, hmk, hgm, hbm, hsm⟩ := madeS (w.alloc (.cells #[.int .i64 (n : Int), .string d] 57)) m hp8 (Ps.secs n d)
  rw [hsa] at hmk hgm hbm hsm
  have HGM := Lib.hid hgm
  have HBM : Hid (Below w.heap.size w wm) := Lib.hid (((Below.refl _ _).alloc (Nat.le_refl _) _).trans (hbm.mono (by omega)))
  have HBX : Hid (wm.heap[w.heap.size]? = some (.cells #[.int .i64 (n : Int), .string d] 57 (0, 0))) := Lib.hid ((hbm.block _ (by omega)).trans (heap_alloc_new _ _))
  have hlen : (Ps.secs n d).length = m := by rw [Ps.secs_length, hm]
  have HLEN := Lib.hid hlen
  have HP := Lib.hid (fun i (h : i < m) => Ps.piece_ok n d i hn1 hn2 hs (by rw [hm]; exact h))
  have HG := Lib.hid (fun i (h : i < m) => Ps.secs_get n d i (by rw [hm]; exact h))
  rw [hm] at HG
  have HD := Lib.hid hs
  have HMM := Lib.hid hm
  clear hgm hbm hsm hlen hm hs hg
  go_enter Try.func28, Try.ntmps28
  go_wp2_with fail
  refine (sectors_any _ _ (by omega) (by have := HD.out; omega)).mono ?_
  rw [HSF.out]
  rintro e w1 ⟨rfl, rfl⟩
  go_wp2_with fail
  clear hmk hsa
  go_loopw [13] (fun i wr => ∃ k : Nat, k ≤ m ∧ i = .int .i64 (k : Int) ∧ Hid (wr.heap[g]? = some (.cells (filled (Ps.secs n d) m k) 9 (0, 0))) ∧ Hid (Below w.heap.size w wr ∧ wr.heap[w.heap.size]? = some (.cells #[.int .i64 (n : Int), .string d] 57 (0, 0)))) (fun i _ => m - (intOf i).toNat)
  case atStart => exact ⟨0, by omega, rfl, HGM, Lib.hid ⟨HBM.out, HBX.out⟩⟩
  case round =>
    obtain ⟨k, hk, rfl, HB, HW⟩ := hrel
    have q0 : wr.cell? ⟨w.heap.size, 0, none⟩ = some (.int .i64 (n : Int)) := by rw [cell_of_block HW.out.2]; rfl
    have q1 : wr.cell? ⟨w.heap.size, 1, none⟩ = some (.string d) := by rw [cell_of_block HW.out.2]; rfl
    clear HGM HBM HBX
    by_cases hlt : k < m
    · have h53 : k * 53 ≤ d.size := by
        rcases hpl with h | h
        · omega
        · have := Nat.mul_le_mul_right 53 (show k ≤ m - 1 by omega)
          omega
      have h1 : (0 : Int) ≤ (k : Int) := by omega
      have h2 : (k : Int) < (m : Int) := by omega
      have s0 : (0 : Int) ≤ (k : Int) * 53 := by omega
      have s1 : (k : Int) * 53 ≤ min (((k : Int) + 1) * 53) (d.size : Int) := by omega
      have s2 : min (((k : Int) + 1) * 53) (d.size : Int) ≤ (d.size : Int) := by omega
      have s3 : (min (((k : Int) + 1) * 53) (d.size : Int)).toNat = min ((k + 1) * 53) d.size := by omega
      have s4 : ((k : Int) * 53).toNat = k * 53 := by omega
      have hp := HP.out k hlt
      have hget := HG.out k hlt
      obtain ⟨pc, hpc⟩ : ∃ pc, pc = Ps.piece d k := ⟨_, rfl⟩
      have HPC : Hid (d.extract (k * 53) (min ((k + 1) * 53) d.size) = pc) := Lib.hid (by rw [hpc]; rfl)
      rw [← hpc] at hp hget
      have hps := hp.2
      have HSZ : Hid (min ((k + 1) * 53) d.size - k * 53 = pc.size) := Lib.hid (by rw [hpc, Ps.piece_size _ _ h53]; omega)
      have HGET := Lib.hid hget
      clear hpl hp hget hpc
      go_wp2_with fail
      rw [HPC.out, HSZ.out]
      clear s0 s1 s2 s3 s4 h53 HPC HSZ
      refine (headerFor_any n k m pc.size wr (by omega) (by omega) (by omega) (by omega)).mono ?_
      rintro e w2 ⟨rfl, hb2⟩
      have HB2 := Lib.hid hb2
      clear hb2
      go_wp2_with fail
      refine (assemble_any n k m pc w2 hps).mono ?_
      rintro e w3 ⟨rfl, hb3⟩
      have hgs : g < wr.heap.size := lt_of_block HB.out
      have hbx : w.heap.size < wr.heap.size := lt_of_block HW.out.2
      have hbb := HB2.out.trans (hb3.mono HB2.out.size)
      have HB3 := Lib.hid ((hbb.block g hgs).trans HB.out)
      have HW3 : Hid (Below w.heap.size w w3 ∧ w3.heap[w.heap.size]? = some (.cells #[.int .i64 (n : Int), .string d] 57 (0, 0))) := Lib.hid ⟨HW.out.1.trans (hbb.mono HW.out.1.size), (hbb.block _ hbx).trans HW.out.2⟩
      have hc0 : w3.cell? ⟨g, k, none⟩ = some (.string ByteArray.empty) := by rw [cell_of_block HB3.out]; exact filled_at _ _ _ hlt HLEN.out
      have hf0 : w3.frozen? ⟨g, k, none⟩ = false := frozen_of_block HB3.out
      have HSET := Lib.hid (filled_set (Ps.secs n d) m k _ hlt HLEN.out HGET.out)
      clear hb3 hbb hgs hbx q0 q1 HGET
      go_wp2_with fail
      go_roundw
      case rel => exact ⟨k + 1, by omega, by go_num, Lib.hid (by rw [block_setCell HB3.out, HSET.out]), Lib.hid ⟨HW3.out.1.setCell (p := ⟨g, k, none⟩) (by rw [HGE.out]; exact Nat.le_succ _) _, by rw [block_setCell_other (by rw [HGE.out]; omega)]; exact HW3.out.2⟩⟩
      case measure => simp [intOf]; omega
    · obtain rfl : k = m := by omega
      clear hpl
      have HR : Hid (wr.heap[g]? = some (.cells (sc (Ps.secs n d)).toArray 9 (0, 0))) := Lib.hid (by rw [← filled_end _ _ HLEN.out]; exact HB.out)
      go_wp2_with fail
      go_ret
      exact ⟨g, k, by rw [HGE.out]; omega, HMM.out.symm, rfl, HR.out, HW.out.1⟩
end Go.Proofs.Ytkcickbkmedbmaa.Fm
