/-
  CONTRACTS of Lay, the reference's Lay, texts, zeros.
-/
import Derived.Test.YtcmeaeemjecjiaaFSec
import Derived.Lib.MinMax
import Derived.Laws.MakeOwn
import Derived.Deep.QuietTactic
import Derived.BigQuiet
namespace Go.Proofs.Ytcmeaeemjecjiaa.Fm
open Go.RowKit

/-- A new slice of texts, of the call's own. -/
def NewS (w : World) (l : List ByteArray) (v : Value) (w' : World) : Prop :=
  ∃ (A : Option Addr) (c : Nat), v = .slice A l.length c ∧ l.length ≤ c ∧ c ≤ 9223372036854775807 ∧ Rd w' w'.heap.size A (sc l) ∧ Below w.heap.size w w' ∧ (∀ q, (Value.slice A l.length c).ownBlock = some q → w.heap.size ≤ q)
/-- What Lay answers. -/
def LayPost (r : Option (List ByteArray)) (w : World) (e : Ending) (w' : World) : Prop :=
  match r with
  | none => e = .returned (.tuple #[.slice none 0 0, .int .i64 43]) ∧ Below w.heap.size w w'
  | some l => ∃ v, e = .returned (.tuple #[v, .int .i64 0]) ∧ NewS w l v w'

theorem lay_done {l : List ByteArray} {w w' : World} {v : Value} (h : NewS w l v w') : LayPost (some l) w (.returned (.tuple #[v, .int .i64 0])) w' := ⟨v, rfl, h⟩
theorem lay_fail {w w' : World} (h : Below w.heap.size w w') : LayPost none w (.returned (.tuple #[.slice none 0 0, .int .i64 43])) w' := ⟨rfl, h⟩
theorem layF_none {x : Int} {data : ByteArray} (h : numOk x = false ∨ 440 < data.size) : Pl.layF x data = none := by
  unfold Pl.layF
  rw [if_neg]
  rintro ⟨h1, h2, h3⟩
  rcases h with h | h
  · simp [numOk, h1] at h; omega
  · omega
theorem layF_some {n : Nat} {data : ByteArray} (h1 : 1 ≤ n) (h2 : n ≤ 2147483647) (h3 : data.size ≤ 440) : Pl.layF (n : Int) data = some (Pl.secs n data) := by
  unfold Pl.layF
  rw [if_pos ⟨by omega, by omega, h3⟩]
  rfl
/-- The first sectors of a frame. -/
def secsTo (n : Nat) (data : ByteArray) (i : Nat) : List ByteArray := (Pl.secs n data).take i
/-- A row of texts, filled so far. -/
def filled (l : List ByteArray) (m i : Nat) : Array Value := (sc (l.take i) ++ List.replicate (m - i) (Value.string ByteArray.empty)).toArray
theorem filled_size (l : List ByteArray) (m i : Nat) (h : i ≤ m) (hl : l.length = m) : (filled l m i).size = m := by
  simp [filled, sc]; omega
theorem filled_set (l : List ByteArray) (m i : Nat) (s : ByteArray) (h : i < m) (hl : l.length = m) (hs : l[i]? = some s) : (filled l m i).setIfInBounds i (.string s) = filled l m (i + 1) := by
  unfold filled
  obtain ⟨k, hk⟩ : ∃ k, m - i = k + 1 := ⟨m - i - 1, by omega⟩
  have hi : i < l.length := by omega
  have e : l[i] = s := (List.getElem?_eq_some_iff.1 hs).2
  have hlen : (sc (l.take i)).length = i := by rw [sc_length, List.length_take]; omega
  rw [List.setIfInBounds_toArray, hk, show m - (i + 1) = k from by omega, List.set_append_right _ _ (by omega), hlen, Nat.sub_self, List.replicate_succ, List.set_cons_zero, List.take_succ_eq_append_getElem hi, sc_append, e, List.append_assoc]
  rfl
theorem filled_at (l : List ByteArray) (m i : Nat) (h : i < m) (hl : l.length = m) : (filled l m i)[i]? = some (.string ByteArray.empty) := by
  unfold filled
  have hlen : (sc (l.take i)).length = i := by rw [sc_length, List.length_take]; omega
  obtain ⟨k, hk⟩ : ∃ k, m - i = k + 1 := ⟨m - i - 1, by omega⟩
  rw [List.getElem?_toArray, List.getElem?_append_right (by omega), hlen, Nat.sub_self, hk, List.replicate_succ]
  rfl

theorem madeS (w : World) (m : Nat) (hm : m ≤ 8) (l : List ByteArray) : ∃ w1, (Instr.makeSlice 31 (.int .i64 (m : Int)) (.int .i64 (m : Int))).run Try.prog w = .ok (.slice (some ⟨w.heap.size, 0, none⟩) m m) w1 ∧
    w1.heap[w.heap.size]? = some (.cells (filled l m 0) 9 (0, 0)) ∧ Below w.heap.size w w1 ∧ w1.heap.size = w.heap.size + 1 := by
  obtain ⟨i0, hi, hz, hs, hb⟩ := info_parts infoS
  have hr := run_make (P := Try.prog) w 31 9 i0 _ Try.underlying31 hi hz .i64 .i64 (m : Int) (m : Int) (by omega) (by omega) (by rw [hb]; omega) (by omega)
  simp only [Int.toNat_natCast] at hr
  refine ⟨_, hr, ?_, (Below.refl _ _).alloc (Nat.le_refl _) _, by simp⟩
  rw [hs]
  show (w.heap.push _)[w.heap.size]? = _
  rw [Array.getElem?_push_size]
  have e : madeCells (Value.string ByteArray.empty).cells (m * 1) = filled l m 0 := by
    apply Array.ext'
    rw [show (Value.string ByteArray.empty).cells = #[Value.string ByteArray.empty] from by simp [Value.cells], toList_madeCells_one]
    simp [filled, sc]
  rw [e]

set_option maxRecDepth 100000 in
set_option maxHeartbeats 1600000 in
theorem lay_any (x : Int) (data : ByteArray) (w : World) :
    Calls Try.prog 21 #[.int .i64 x, .string data] w (LayPost (Pl.layF x data) w) := by
  cases hx : numOk x with
  | false =>
    have HL := Lib.hid (layF_none (data := data) (.inl hx))
    have HX := Lib.hid hx
    clear hx
    go_enter Try.func21, Try.ntmps21
    go_wp2_with fail
    refine (isNumber_any _ _).mono ?_
    rw [HX.out]
    rintro e w1 ⟨rfl, rfl⟩
    go_wp2_with fail
    go_ret2
    rw [HL.out]
    exact lay_fail (Below.refl _ _)
  | true =>
    have hx1 : 1 ≤ x ∧ x ≤ 2147483647 := by simpa [numOk] using hx
    have HX := Lib.hid hx
    clear hx
    by_cases hs : data.size ≤ 440
    · obtain ⟨n, rfl⟩ := Int.eq_ofNat_of_zero_le (show 0 ≤ x by omega)
      have hl := layF_some (n := n) (data := data) (by omega) (by omega) hs
      have HL := Lib.hid hl
      obtain ⟨m, hm⟩ : ∃ m, Pl.partsN data.size = m := ⟨_, rfl⟩
      have hp1 := Pl.partsN_pos data.size
      have hp8 := Pl.partsN_le hs
      have hpu := Pl.partsN_up data.size
      have hpl := Pl.partsN_lo data.size
      have hpd : max (((data.size : Int) + 55 - 1) / 55) 1 = (m : Int) := by rw [← hm]; unfold Pl.partsN; omega
      rw [hm] at hp1 hp8 hpu hpl
      clear hl
      obtain ⟨wm, hmk, hgm, hbm, hsm⟩ := madeS w m hp8 (Pl.secs n data)
      have HGM := Lib.hid hgm
      have HBM := Lib.hid hbm
      have hlen : (Pl.secs n data).length = m := by rw [Pl.secs_length, hm]
      have HLEN := Lib.hid hlen
      have HP := Lib.hid (fun i (h : i < m) => Pl.piece_ok n data i (by omega) (by omega) hs (by rw [hm]; exact h))
      have HG := Lib.hid (fun i (h : i < m) => Pl.secs_get n data i (by rw [hm]; exact h))
      rw [hm] at HG
      have HD := Lib.hid hs
      clear hgm hbm hsm hlen hm hs
      go_enter Try.func21, Try.ntmps21
      go_wp2_with fail
      refine (isNumber_any _ _).mono ?_
      rw [HX.out]
      rintro e w1 ⟨rfl, rfl⟩
      clear HX
      have HD := HD.out
      go_wp2_with fail
      clear hmk hpd
      go_loopw [28] (fun i wr => ∃ k : Nat, k ≤ m ∧ i = .int .i64 (k : Int) ∧ Hid (wr.heap[w.heap.size]? = some (.cells (filled (Pl.secs n data) m k) 9 (0, 0))) ∧ Hid (Below w.heap.size w wr)) (fun i _ => m - (intOf i).toNat)
      case atStart => exact ⟨0, by omega, rfl, HGM, HBM⟩
      case round =>
        obtain ⟨k, hk, rfl, HB, HW⟩ := hrel
        by_cases hlt : k < m
        · have h55 : k * 55 ≤ data.size := by
            rcases hpl with h | h
            · omega
            · have := Nat.mul_le_mul_right 55 (show k ≤ m - 1 by omega)
              omega
          have h1 : (0 : Int) ≤ (k : Int) := by omega
          have h2 : (k : Int) < (m : Int) := by omega
          have s0 : (0 : Int) ≤ (k : Int) * 55 := by omega
          have s1 : (k : Int) * 55 ≤ min (((k : Int) + 1) * 55) (data.size : Int) := by omega
          have s2 : min (((k : Int) + 1) * 55) (data.size : Int) ≤ (data.size : Int) := by omega
          have s3 : (min (((k : Int) + 1) * 55) (data.size : Int)).toNat = min ((k + 1) * 55) data.size := by omega
          have s4 : ((k : Int) * 55).toNat = k * 55 := by omega
          go_wp2_with fail
          have hp := HP.out k hlt
          have hget := HG.out k hlt
          clear s0 s1 s2 s3 s4 h55 hpl hpu
          rw [show data.extract (k * 55) (min ((k + 1) * 55) data.size) = Pl.piece data k from rfl]
          refine (assemble_any n k m (Pl.piece data k) wr (by omega) (by omega) (by omega) hp.2).mono ?_
          rintro e w2 ⟨rfl, hb⟩
          have hgs : w.heap.size < wr.heap.size := lt_of_block HB.out
          have HB2 := Lib.hid ((hb.block w.heap.size hgs).trans HB.out)
          have HW2 := Lib.hid (HW.out.trans (hb.mono HW.out.size))
          have hc0 : w2.cell? ⟨w.heap.size, k, none⟩ = some (.string ByteArray.empty) := by rw [cell_of_block HB2.out]; exact filled_at _ _ _ hlt HLEN.out
          have hf0 : w2.frozen? ⟨w.heap.size, k, none⟩ = false := frozen_of_block HB2.out
          have HSET := Lib.hid (filled_set (Pl.secs n data) m k _ hlt HLEN.out hget)
          clear hp hget hb
          go_wp2_with fail
          go_roundw
          case rel => exact ⟨k + 1, by omega, by go_num, Lib.hid (by rw [block_setCell HB2.out, HSET.out]), Lib.hid (HW2.out.setCell (p := ⟨w.heap.size, k, none⟩) (Nat.le_refl _) _)⟩
          case measure => simp [intOf]; omega
        · obtain rfl : k = m := by omega
          have HRD : Hid (Rd wr wr.heap.size (some ⟨w.heap.size, 0, none⟩) (sc (Pl.secs n data))) := Lib.hid (fun _ => ⟨w.heap.size, 0, rfl, lt_of_block HB.out, fun j u hu => by
            rw [cell_of_block HB.out, Nat.zero_add]
            unfold filled
            rw [Nat.sub_self, List.replicate_zero, List.append_nil, List.take_of_length_le (by rw [HLEN.out]; omega), List.getElem?_toArray]
            exact hu⟩)
          clear hpl hpu
          go_wp2_with fail
          go_ret2
          rw [HL.out]
          exact lay_done (v := .slice (some ⟨w.heap.size, 0, none⟩) k k) ⟨some ⟨w.heap.size, 0, none⟩, k, by rw [HLEN.out], by rw [HLEN.out]; exact Nat.le_refl _, by omega, HRD.out, HW.out, fun q hq => by simp [Value.ownBlock] at hq; omega⟩
    · have HL := Lib.hid (layF_none (x := x) (data := data) (.inr (by omega)))
      go_enter Try.func21, Try.ntmps21
      go_wp2_with fail
      refine (isNumber_any _ _).mono ?_
      rw [HX.out]
      rintro e w1 ⟨rfl, rfl⟩
      go_wp2_with fail
      go_ret2
      rw [HL.out]
      exact lay_fail (Below.refl _ _)

end Go.Proofs.Ytcmeaeemjecjiaa.Fm
