/-
  CONTRACTS of putBig and takeBig, headerFor, headerOf, claimed.
-/
import Derived.Test.YtkcickbkmedbmaaFBase
import Derived.Test.YtkcickbkmedbmaaFSum
import Derived.Test.YtkcickbkmedbmaaSSlot
import Derived.Laws.BitsLemmas
import Derived.Laws.CopyRow
import Derived.Laws.CopyOwn
import Derived.Laws.Rows
import Derived.Laws.IdiomStrings
import Derived.Deep.MidRow
import Derived.StillTailTactics
import Derived.Lib.MinMax
namespace Go.Proofs.Ytkcickbkmedbmaa.Fm
open Go.RowKit

/-- Byte k of a field of so many bytes. -/
def pv (len : Nat) (n : Int) (k : Nat) : Value := .int .u8 (n / 2 ^ (8 * (len - 1 - k)) % 256)
def putA (c : Array Value) (off len : Nat) (n : Int) : Nat → Array Value
  | 0 => c
  | k + 1 => (putA c off len n k).setIfInBounds (off + k) (pv len n k)
theorem putA_size (c : Array Value) (off len : Nat) (n : Int) (k : Nat) : (putA c off len n k).size = c.size := by
  induction k with
  | zero => rfl
  | succ k ih => simp [putA, ih]

set_option maxRecDepth 100000 in
set_option maxHeartbeats 800000 in
theorem putBig_any (b off len cap : Nat) (t : TypeId) (n : Nat) (c : Array Value) (w : World) (_hn : n ≤ 9223372036854775807) (hl : len ≤ 4) (hc : off + len ≤ c.size) (h : w.heap[b]? = some (.cells c t (0, 0))) :
    Calls Try.prog 47 #[.slice (some ⟨b, off, none⟩) len cap, .int .i64 (n : Int)] w fun e w' =>
      e = .returned (.tuple #[]) ∧ w'.heap[b]? = some (.cells (putA c off len n len) t (0, 0)) ∧ Only (fun i => i = b) w w' := by
  have HB := Lib.hid h
  clear h
  go_enter Try.func47, Try.ntmps47
  go_wp2_with fail
  go_loopw [7] (fun i wr => ∃ k : Nat, k ≤ len ∧ i = .int .i64 (k : Int) ∧ Hid (wr.heap[b]? = some (.cells (putA c off len n k) t (0, 0))) ∧ Hid (Only (fun i => i = b) w wr)) (fun i _ => len - (intOf i).toNat)
  case atStart => exact ⟨0, by omega, rfl, HB, Lib.hid (Only.refl _ _)⟩
  case round =>
    obtain ⟨k, hk, rfl, HG, HO⟩ := hrel
    by_cases hlt : k < len
    · have hlk : off + k < (putA c off len n k).size := by rw [putA_size]; omega
      have hc0 : wr.cell? ⟨b, off + k, none⟩ = some ((putA c off len n k)[off + k]) := by rw [cell_of_block HG.out, Array.getElem?_eq_getElem hlk]
      have hf : wr.frozen? ⟨b, off + k, none⟩ = false := frozen_of_block HG.out
      have h1 : (0 : Int) ≤ (k : Int) := by omega
      have h2 : (k : Int) < (len : Int) := by omega
      generalize (putA c off len n k)[off + k] = u0 at hc0
      clear hlk
      go_wp2_with fail
      go_roundw
      case rel => exact ⟨k + 1, by omega, by go_num, Lib.hid (by rw [block_setCell HG.out]; rfl), Lib.hid (HO.out.tr (Only.set _ _ _ _))⟩
      case measure => simp [intOf]; omega
    · obtain rfl : k = len := by omega
      go_wp2_with fail
      go_end0
      exact ⟨rfl, HG.out, HO.out⟩

theorem or_byte (m d : Nat) (hm : m < 16777216) (hd : d < 256) : bits .or .i64 ((m : Int) * 256) (d : Int) = ((m * 256 + d : Nat) : Int) := by
  have hw : (m : Int) * 256 = ((m * 256 : Nat) : Int) := by simp
  have hwr : ∀ n : Int, 0 ≤ n → n < 2 ^ 63 → IntKind.i64.wrap n = n := fun n h0 h1 => by rw [IntKind.wrap_i64]; omega
  rw [hw, (bits_nat .i64 63 (by decide) hwr _ _ (by omega) (by omega)).2, Nat.mul_comm m, show 256 = 2 ^ 8 from rfl, ← Nat.two_pow_add_eq_or_of_lt (by omega : d < 2 ^ 8) m]

def numK (l : List UInt8) : Nat := l.foldl (fun a b => a * 256 + b.toNat) 0
theorem numK_snoc (l : List UInt8) (c : UInt8) : numK (l ++ [c]) = numK l * 256 + c.toNat := by simp [numK]
theorem numK_lt (l : List UInt8) : numK l < 256 ^ l.length := by
  suffices h : ∀ (l : List UInt8), numK l.reverse < 256 ^ l.reverse.length from by have := h l.reverse; rwa [List.reverse_reverse] at this
  intro l
  induction l with
  | nil => simp [numK]
  | cons c r ih =>
    rw [List.reverse_cons, numK_snoc, List.length_append, List.length_singleton, Nat.pow_succ]
    have := c.toNat_lt
    omega

set_option maxRecDepth 100000 in
set_option maxHeartbeats 800000 in
theorem takeBig_any (b off cap m : Nat) (l : List UInt8) (w : World) (hl : l.length ≤ 4) (hm : m = l.length) (h : ∀ i (hi : i < l.length), w.cell? ⟨b, off + i, none⟩ = some (.int .u8 (l[i].toNat : Int))) :
    Calls Try.prog 42 #[.slice (some ⟨b, off, none⟩) m cap] w fun e w' => e = .returned (.int .i64 (numK l : Int)) ∧ w = w' := by
  have HC := Lib.hid h
  have HM := Lib.hid hm
  clear h hm
  go_enter Try.func42, Try.ntmps42
  go_wp2
  go_loop [3, 8] (fun n i => ∃ k : Nat, k ≤ m ∧ i = .int .i64 (k : Int) ∧ n = .int .i64 (numK (l.take k) : Int)) (fun _ i => m - (intOf i).toNat)
  case atStart => exact ⟨0, by omega, rfl, rfl⟩
  case round =>
    obtain ⟨k, hk, rfl, rfl⟩ := hrel
    by_cases hlt : k < m
    · have hlt2 : k < l.length := by have := HM.out; omega
      have hsn := numK_snoc (l.take k) l[k]
      rw [← List.take_succ_eq_append_getElem hlt2] at hsn
      have hlq : numK (l.take k) < 16777216 := by
        have h1 := numK_lt (l.take k)
        have h2 : (l.take k).length ≤ 3 := by rw [List.length_take]; omega
        have h3 : 256 ^ (l.take k).length ≤ 256 ^ 3 := Nat.pow_le_pow_right (by omega) h2
        omega
      have hb : l[k].toNat < 256 := l[k].toNat_lt
      have HO := Lib.hid (or_byte _ _ hlq hb)
      have HS := Lib.hid hsn
      have hc0 := HC.out k hlt2
      have h1 : (0 : Int) ≤ (k : Int) := by omega
      have h2 : (k : Int) < (m : Int) := by omega
      clear hsn
      generalize numK (l.take k) = q at HO HS hlq ⊢
      go_wp2
      all_goals
        go_round
        case rel => exact ⟨k + 1, by omega, by go_num, by rw [HS.out, ← HO.out]⟩
        case measure => simp [intOf]; omega
    · obtain rfl : k = m := by omega
      go_wp2
      go_ret
      exact ⟨ret_int (by rw [List.take_of_length_le (by have := HM.out; omega)]), rfl⟩

/-! ### the header -/
def hd9 (n p k m : Nat) : List UInt8 := [UInt8.ofNat (n / 16777216), UInt8.ofNat (n / 65536), UInt8.ofNat (n / 256), UInt8.ofNat n, UInt8.ofNat (p / 256), UInt8.ofNat p, UInt8.ofNat (k / 256), UInt8.ofNat k, UInt8.ofNat m]
def hz : Array Value := (List.replicate 9 (Value.int .u8 0)).toArray
/-- Block g is a header's variable that holds the bytes l. -/
def HB (w : World) (g : Nat) (l : List UInt8) : Prop := w.heap[g]? = some (.cells (bv l).toArray 75 (0, 0))
theorem hz_bv : hz = (bv (List.replicate 9 0)).toArray := by simp [hz, bv]
theorem infoH : (Try.prog.info? 75).map (·.size) = some 9 := by kernel_rfl
theorem infoU8s : (Try.prog.info? 5).map (·.size) = some 1 := by kernel_rfl
theorem u8v (n : Nat) : Value.int .u8 ((n : Int) % 256) = Value.int .u8 ((UInt8.ofNat n).toNat : Int) := by
  rw [UInt8.toNat_ofNat']; congr 1
theorem u8w (n : Nat) (h : n ≤ 255) : Value.int .u8 (n : Int) = Value.int .u8 ((UInt8.ofNat n).toNat : Int) := by
  rw [← u8v]; congr 1; omega
theorem hcells4 (n : Nat) : putA hz 0 4 n 4 = (bv [UInt8.ofNat (n / 16777216), UInt8.ofNat (n / 65536), UInt8.ofNat (n / 256), UInt8.ofNat n] ++ List.replicate 5 (Value.int .u8 0)).toArray := by
  have e0 : pv 4 n 0 = Value.int .u8 ((UInt8.ofNat (n / 16777216)).toNat : Int) := by rw [← u8v]; rfl
  have e1 : pv 4 n 1 = Value.int .u8 ((UInt8.ofNat (n / 65536)).toNat : Int) := by rw [← u8v]; rfl
  have e2 : pv 4 n 2 = Value.int .u8 ((UInt8.ofNat (n / 256)).toNat : Int) := by rw [← u8v]; rfl
  have e3 : pv 4 n 3 = Value.int .u8 ((UInt8.ofNat n).toNat : Int) := by rw [← u8v]; simp [pv]
  simp only [putA, e0, e1, e2, e3]
  rfl
theorem pv2 (x : Nat) : pv 2 x 0 = Value.int .u8 ((UInt8.ofNat (x / 256)).toNat : Int) ∧ pv 2 x 1 = Value.int .u8 ((UInt8.ofNat x).toNat : Int) :=
  ⟨by rw [← u8v]; rfl, by rw [← u8v]; simp [pv]⟩
theorem hcells8 (n p k : Nat) : putA (putA (putA hz 0 4 n 4) 4 2 p 2) 6 2 k 2 = (bv [UInt8.ofNat (n / 16777216), UInt8.ofNat (n / 65536), UInt8.ofNat (n / 256), UInt8.ofNat n, UInt8.ofNat (p / 256), UInt8.ofNat p, UInt8.ofNat (k / 256), UInt8.ofNat k] ++ [Value.int .u8 0]).toArray := by
  rw [hcells4]
  simp only [putA, (pv2 p).1, (pv2 p).2, (pv2 k).1, (pv2 k).2]
  rfl
theorem hcells9 (n p k m : Nat) (hm : m ≤ 255) : (putA (putA (putA hz 0 4 n 4) 4 2 p 2) 6 2 k 2).setIfInBounds 8 (.int .u8 (m : Int)) = (bv (hd9 n p k m)).toArray := by
  rw [hcells8, u8w m hm]
  rfl

section
variable (w : World) {ops : Array Oper} {rest : List Oper} {o : Oper} {a : Act} {Q : Exit → Act → World → Prop}
theorem setRow_only (w : World) (g : Nat) (cs : Array Value) : Only (fun i => i = g) w (w.setRow g cs) :=
  ⟨rfl, rfl, rfl, by simp [World.setRow], fun k _ hk => setRow_other w g k cs hk⟩
theorem wpList_alloc_hd (p : Nat) (_hp : o.dst = some p) (hg : o.guard = none) (hop : o.op = Op.alloc 75)
    (hK : ∀ w1, w1.heap.size = w.heap.size + 1 → Below w.heap.size w w1 → Hid (HB w1 w.heap.size (List.replicate 9 0)) → wpList Try.prog ops Q rest (a.put o.dst (.pointer (some ⟨w.heap.size, 0, none⟩))) w1) :
    wpList Try.prog ops Q (o :: rest) a w := by
  clear _hp p
  refine wpList_plain hg fun K' hK' => ?_
  unfold Oper.wp
  simp [execOp, hop, Instr.alloc, newVar, newRow, Value.cells, Result.andThen]
  refine hK' _ _ (hK _ (by simp) ((Below.refl _ _).alloc (Nat.le_refl _) _) ?_)
  show (w.heap.push _)[w.heap.size]? = _
  rw [Array.getElem?_push_size]
  rfl
theorem wpList_store_row (hg : o.guard = none) (T : TypeId) (x y : Operand) (hop : o.op = .store T x y)
    (g : Nat) (cs : List Value) (hx : a.eval x = .pointer (some ⟨g, 0, none⟩)) (hy : a.eval y = .agg cs.toArray) (hi : (Try.prog.info? T).map (·.size) = some cs.length) (h1 : ∀ v ∈ cs, v.oneCell' = true) {c : Array Value} {t : TypeId} (hc : c.size = cs.length) (hb : w.heap[g]? = some (.cells c t (0, 0)))
    (hK : ∀ w1, Only (fun i => i = g) w w1 → Hid (w1.heap[g]? = some (.cells cs.toArray t (0, 0))) → wpList Try.prog ops Q rest (a.put o.dst undef) w1) :
    wpList Try.prog ops Q (o :: rest) a w := by
  have hst := run_storeCells_at Try.prog g 0 t cs 0 c w hb (by rw [hc]; omega) h1
  have hl : c.toList.length ≤ 0 + 0 + cs.length := by simp [hc]
  rw [Nat.add_zero, List.take_zero, List.nil_append, List.drop_eq_nil_of_le (by simpa using hl), List.append_nil] at hst
  have hth : w.there g 0 cs.length := fun j hj => by
    rw [Nat.zero_add, cell_of_block hb]
    exact ⟨by rw [Array.getElem?_eq_getElem (by omega)]; rfl, frozen_of_block hb⟩
  have hsv : (Instr.storeAt T (.pointer (some ⟨g, 0, none⟩)) (.agg cs.toArray)).run Try.prog w = .ok () (w.setRow g cs.toArray) := by
    rw [run_storeAt_mid w g 0 T cs.toArray (by simpa using hth) (by rw [hi]; simp) (all_oneCell_toArray h1)]
    have e := run_storeCells_cells (P := Try.prog) g 0 cs 0 w (fun j hj => by simpa using (hth j (by omega)).1) (fun j hj => by simpa using (hth j (by omega)).2) h1
    simp only [Nat.add_zero] at e
    rw [hst] at e
    injection e with _ e
    rw [e]
  refine wpList_plain hg fun K' hK' => ?_
  unfold Oper.wp
  simp [execOp, hop, hx, hy, hsv, Result.andThen]
  exact hK' _ _ (hK _ (setRow_only _ _ _) (setRow_heap w g _ _ _ _ hb))
/-- A copy out of a text that may be longer. -/
theorem wpList_copy_text (hg : o.guard = none) (d s : Operand) (hop : o.op = .call { callee := .builtin .copy, args := #[d, s], argTypes := #[59, 9] })
    (g off len cap : Nat) (str : ByteArray) (hd : a.eval d = .slice (some ⟨g, off, none⟩) len cap) (hs : a.eval s = .string str) {c : Array Value} {t : TypeId} (l : List UInt8) (hl : l = str.data.toList.take len) (hc : off + l.length ≤ c.size) (hb : w.heap[g]? = some (.cells c t (0, 0)))
    (hK : ∀ w1, Only (fun i => i = g) w w1 → Hid (w1.heap[g]? = some (.cells (c.toList.take off ++ (bv l ++ c.toList.drop (off + l.length))).toArray t (0, 0))) → wpList Try.prog ops Q rest (a.put o.dst (.int .i64 (l.length : Int))) w1) :
    wpList Try.prog ops Q (o :: rest) a w := by
  have hst := run_storeCells_at Try.prog g off t (bv l) 0 c w hb (by rw [bv_length]; omega) (fun v hv => bv_one _ v hv)
  rw [Nat.add_zero, bv_length] at hst
  have hn2 : Nat.min str.size len = l.length := by rw [hl, List.length_take, Pl.length_toList]; exact Nat.min_comm _ _
  have hcells : List.take l.length (List.map (fun b : UInt8 => Value.int .u8 (b.toNat : Int)) str.data.toList) = bv l := by
    unfold bv
    rw [← List.map_take]
    congr 1
    rw [hl, List.length_take]
    by_cases h : len ≤ str.data.toList.length
    · rw [Nat.min_eq_left h]
    · rw [Nat.min_eq_right (by omega), List.take_of_length_le (Nat.le_refl _), List.take_of_length_le (by omega)]
  refine wpList_plain hg fun K' hK' => ?_
  unfold Oper.wp
  cases hq : Try.prog.info? 5 with
  | none => have := infoU8s; rw [hq] at this; cases this
  | some i =>
    simp [execOp, hop, resolve, invoke, builtin, hd, hs, Builtin.copy_, run_underlying Try.underlying59, Builtin.lenOf, Builtin.firstCells, sizeOf, typeInfo, hq, hn2, hcells, hst, goInt, Result.andThen]
    exact hK' _ _ (hK _ (setRow_only _ _ _) (setRow_heap w g _ _ _ _ hb))
end
theorem hd_length (n p k m : Nat) : (hd9 n p k m).length = 9 := rfl

/-- A header, as a value. -/
def hdV (l : List UInt8) : Value := .agg (bv l).toArray
def HdPost (l : List UInt8) (w : World) (e : Ending) (w' : World) : Prop := e = .returned (hdV l) ∧ Below w.heap.size w w'
theorem ret_hd {W : World} {b : Nat} {l : List UInt8} {fn : Func} {p : Tmp} {tmps : Array Value} (hf : fn.results = #[.cell p 75]) (hp : tmps.getD p undef = .pointer (some ⟨b, 0, none⟩)) (hl : l.length = 9)
    (h : HB W b l) : (results fn tmps).run Try.prog W = .ok (hdV l) W :=
  results_cell_row hf tmps W b _ _ _ _ hp h Try.underlying75 rfl (by rw [infoH]; simp [bv_length, hl])

set_option maxRecDepth 100000 in
set_option maxHeartbeats 1600000 in
theorem headerOf_any (s : ByteArray) (w : World) (hs : s.size = 64) :
    Calls Try.prog 41 #[.string s] w (HdPost (s.data.toList.take 9) w) := by
  have hl : (s.data.toList.take 9).length = 9 := by rw [List.length_take, Pl.length_toList]; omega
  obtain ⟨l, hls⟩ : ∃ l, l = s.data.toList.take 9 := ⟨_, rfl⟩
  have HLS := Lib.hid hls
  rw [← hls] at hl
  have HL := Lib.hid hl
  rw [← hls]
  clear hls hl
  have HCP : Hid ((((bv (List.replicate 9 0)).toArray.toList.take 0 ++ (bv l ++ (bv (List.replicate 9 0)).toArray.toList.drop (0 + l.length))).toArray) = (bv l).toArray) := Lib.hid (by
    rw [HL.out]; simp [bv])
  have HC9 : Hid (0 + l.length ≤ (bv (List.replicate 9 0)).toArray.size) := Lib.hid (by rw [HL.out]; simp [bv])
  have HI9 : Hid ((Try.prog.info? 75).map (·.size) = some (bv l).length) := Lib.hid (by rw [infoH, bv_length, HL.out])
  have HI9a : Hid ((Try.prog.info? 75).map (·.size) = some (bv l).toArray.size) := Lib.hid (by rw [infoH, List.size_toArray, bv_length, HL.out])
  have HZ9 : Hid ((bv (List.replicate 9 0)).toArray.size = (bv l).length) := Lib.hid (by rw [bv_length, HL.out]; simp [bv])
  go_enter Try.func41, Try.ntmps41
  go_wp2_with (first
    | (with_reducible refine wpList_alloc_hd _ 2 rfl rfl rfl ?_; intro w1 hs1 hb1 HG1; have HS1 := Lib.hid hs1; have HW1 := Lib.hid hb1; clear hs1 hb1)
    | (with_reducible refine wpList_alloc_hd _ 3 rfl rfl rfl ?_; intro w2 hs2 hb2 HG2; have HS2 := Lib.hid hs2; have HW2 := Lib.hid hb2; clear hs2 hb2)
    | (refine wpList_copy_text _ rfl (.tmp 4) (.tmp 5) rfl w1.heap.size 0 9 9 s rfl rfl l HLS.out HC9.out HG2.out ?_; intro w3 ho3 hb3; rw [HCP.out] at hb3; have HO3 := Lib.hid ho3; have HG3 : Hid (HB w3 w1.heap.size l) := hb3; clear ho3 hb3; have HG1b : Hid (HB w3 w.heap.size (List.replicate 9 0)) := Lib.hid ((HO3.out.block _ (by have := HS1.out; have := HS2.out; omega) (by have := HS1.out; omega)).trans ((HW2.out.block _ (by have := HS1.out; omega)).trans HG1.out)))
    | (refine wpList_load_row rfl 75 (.tmp 3) rfl w1.heap.size rfl _ _ _ _ HG3.out Try.underlying75 rfl HI9a.out ?_)
    | (refine wpList_store_row _ rfl 75 (.tmp 2) (.tmp 7) rfl w.heap.size (bv l) rfl rfl HI9.out (bv_one l) HZ9.out HG1b.out ?_; intro w4 ho4 hb4; have HO4 := Lib.hid ho4; have HG4 : Hid (HB w4 w.heap.size l) := hb4; clear ho4 hb4)
    | fail)
  refine bodyPost_ret (ret_hd rfl rfl HL.out HG4.out) rfl ?_
  exact ⟨rfl, HW1.out.trans ((HW2.out.mono (by have := HS1.out; omega)).trans ((HO3.out.to_below (by have := HS1.out; have := HS2.out; omega) (fun i hi _ => by have := HS1.out; omega)).trans (HO4.out.to_below (B := w.heap.size) (by have := HS1.out; have := HS2.out; have := HO3.out.size; omega) (fun i hi _ => by omega))))⟩

set_option maxRecDepth 100000 in
set_option maxHeartbeats 1600000 in
theorem headerFor_any (n p k m : Nat) (w : World) (hn : n ≤ 4294967295) (hp : p ≤ 65535) (hk : k ≤ 65535) (hm : m ≤ 255) :
    Calls Try.prog 39 #[.int .i64 (n : Int), .int .i64 (p : Int), .int .i64 (k : Int), .int .i64 (m : Int)] w (HdPost (hd9 n p k m) w) := by
  have HI9 : Hid ((Try.prog.info? 75).map (·.size) = some (bv (hd9 n p k m)).length) := Lib.hid (by rw [infoH, bv_length, hd_length])
  have HI9a : Hid ((Try.prog.info? 75).map (·.size) = some (bv (hd9 n p k m)).toArray.size) := Lib.hid (by rw [infoH, List.size_toArray, bv_length, hd_length])
  have HZ9 : Hid ((bv (List.replicate 9 0)).toArray.size = (bv (hd9 n p k m)).length) := Lib.hid (by rw [bv_length, hd_length]; simp [bv])
  go_enter Try.func39, Try.ntmps39
  go_wp2_with (first
    | (with_reducible refine wpList_alloc_hd _ 8 rfl rfl rfl ?_; intro w1 hs1 hb1 HG1; have HS1 := Lib.hid hs1; have HW1 := Lib.hid hb1; clear hs1 hb1)
    | (with_reducible refine wpList_alloc_hd _ 9 rfl rfl rfl ?_; intro w2 hs2 hb2 HG2; have HS2 := Lib.hid hs2; have HW2 := Lib.hid hb2; clear hs2 hb2)
    | fail)
  obtain ⟨g, hg⟩ : ∃ g, g = w1.heap.size := ⟨_, rfl⟩
  have HGE : Hid (g = w.heap.size + 1) := Lib.hid (by rw [hg, HS1.out])
  have HGZ : Hid (w2.heap[g]? = some (.cells hz 75 (0, 0))) := Lib.hid (by rw [hg, hz_bv]; exact HG2.out)
  have HGR : Hid (HB w2 w.heap.size (List.replicate 9 0)) := Lib.hid ((HW2.out.block _ (by have := HS1.out; omega)).trans HG1.out)
  have HB2 : Hid (Below w.heap.size w w2) := Lib.hid (HW1.out.trans (HW2.out.mono (by have := HS1.out; omega)))
  rw [← hg]
  clear hg HG1 HG2 HW1 HW2 HS1 HS2
  refine (putBig_any g 0 4 9 75 n hz w2 (by omega) (by omega) (by simp [hz]) HGZ.out).mono ?_
  rintro e w3 ⟨rfl, hg3, ho3⟩
  have HG3 := Lib.hid hg3
  have HO3 := Lib.hid ho3
  clear hg3 ho3 HGZ
  go_wp2_with fail
  refine (putBig_any g 4 2 5 75 p _ w3 (by omega) (by omega) (by simp [putA_size, hz]) HG3.out).mono ?_
  rintro e w4 ⟨rfl, hg4, ho4⟩
  have HG4 := Lib.hid hg4
  have HO4 := Lib.hid (HO3.out.tr ho4)
  clear hg4 ho4 HG3 HO3
  go_wp2_with fail
  refine (putBig_any g 6 2 3 75 k _ w4 (by omega) (by omega) (by simp [putA_size, hz]) HG4.out).mono ?_
  rintro e w5 ⟨rfl, hg5, ho5⟩
  have HG5 := Lib.hid hg5
  have HO5 := Lib.hid (HO4.out.tr ho5)
  have c8 : w5.cell? ⟨g, 8, none⟩ = some (.int .u8 0) := by rw [cell_of_block hg5, hcells8]; rfl
  have f8 : w5.frozen? ⟨g, 8, none⟩ = false := frozen_of_block hg5
  have HG6 : Hid (HB (w5.setCell ⟨g, 8, none⟩ (.int .u8 (m : Int))) g (hd9 n p k m)) := Lib.hid (by unfold HB; rw [block_setCell hg5, hcells9 n p k m hm])
  have HO6 := Lib.hid (HO5.out.tr (Only.set w5 g 8 (.int .u8 (m : Int))))
  clear hg5 ho5 HG4 HO4 HG5 HO5
  have HGR6 : Hid (HB (w5.setCell ⟨g, 8, none⟩ (.int .u8 (m : Int))) w.heap.size (List.replicate 9 0)) := Lib.hid ((HO6.out.block _ (lt_of_block HGR.out) (by have := HGE.out; omega)).trans HGR.out)
  go_wp2_with (first
    | (refine wpList_load_row rfl 75 (.tmp 9) rfl g rfl _ _ _ _ HG6.out Try.underlying75 rfl HI9a.out ?_)
    | (refine wpList_store_row _ rfl 75 (.tmp 8) (.tmp 22) rfl w.heap.size (bv (hd9 n p k m)) rfl rfl HI9.out (bv_one _) HZ9.out HGR6.out ?_; intro w7 ho7 hb7; have HO7 := Lib.hid ho7; have HG7 : Hid (HB w7 w.heap.size (hd9 n p k m)) := hb7; clear ho7 hb7)
    | fail)
  refine bodyPost_ret (ret_hd rfl rfl (hd_length _ _ _ _) HG7.out) rfl ?_
  exact ⟨rfl, HB2.out.trans ((HO6.out.to_below (B := w.heap.size) HB2.out.size (fun i hi _ => by have := HGE.out; omega)).trans (HO7.out.to_below (B := w.heap.size) (by have := HB2.out.size; have := HO6.out.size; omega) (fun i hi _ => by omega)))⟩

/-- The bytes of its part that a sector says it has. -/
def claimF (s : ByteArray) : ByteArray := s.extract 9 (9 + min (Ps.byteAt s 8) 53)
set_option maxRecDepth 100000 in
set_option maxHeartbeats 1600000 in
theorem claimed_any (s : ByteArray) (w : World) (hs : s.size = 64) :
    Calls Try.prog 43 #[.string s] w fun e w' => e = .returned (.string (claimF s)) ∧ Below w.heap.size w w' := by
  obtain ⟨l, hls⟩ : ∃ l, l = s.data.toList.take 9 := ⟨_, rfl⟩
  have hl : l.length = 9 := by rw [hls, List.length_take, Pl.length_toList]; omega
  have hb8 : (bv l)[8]? = some (.int .u8 (Ps.byteAt s 8 : Int)) := by
    have h8 : 8 < s.data.toList.length := by rw [Pl.length_toList]; omega
    unfold bv Ps.byteAt
    rw [List.getElem?_map, hls, List.getElem?_take_of_lt (by omega), List.getElem?_eq_getElem h8, List.getD_eq_getElem?_getD, List.getElem?_eq_getElem h8]
    rfl
  have hlt := Ps.byteAt_lt s 8
  have HHD := Lib.hid (fun W => headerOf_any s W hs)
  rw [← hls] at HHD
  have HL := Lib.hid hl
  have HB8 := Lib.hid hb8
  obtain ⟨q, hq⟩ : ∃ q, q = Ps.byteAt s 8 := ⟨_, rfl⟩
  have HQ := Lib.hid (show claimF s = s.extract 9 (9 + min q 53) from by rw [hq]; rfl)
  rw [← hq] at HB8 hlt
  have r1 : (9 : Int) ≤ 9 + min (q : Int) 53 := by omega
  have r2 : 9 + min (q : Int) 53 ≤ (s.size : Int) := by omega
  have r3 : (9 + min (q : Int) 53).toNat = 9 + min q 53 := by omega
  clear hls hl hb8 hq hs
  have HI9 : Hid ((Try.prog.info? 75).map (·.size) = some (bv l).length) := Lib.hid (by rw [infoH, bv_length, HL.out])
  have HZ9 : Hid ((bv (List.replicate 9 0)).toArray.size = (bv l).length) := Lib.hid (by rw [bv_length, HL.out]; simp [bv])
  go_enter Try.func43, Try.ntmps43
  go_wp2_with fail
  refine (HHD.out _).mono ?_
  rintro e w1 ⟨rfl, hb1⟩
  have HW1 := Lib.hid hb1
  clear hb1 HHD
  unfold hdV
  go_wp2_with (first
    | (with_reducible refine wpList_alloc_hd _ 3 rfl rfl rfl ?_; intro w2 hs2 hb2 HG2; have HS2 := Lib.hid hs2; have HW2 := Lib.hid hb2; clear hs2 hb2)
    | (refine wpList_store_row _ rfl 75 (.tmp 3) (.tmp 6) rfl w1.heap.size (bv l) rfl rfl HI9.out (bv_one _) HZ9.out HG2.out ?_; intro w3 ho3 hb3; have HO3 := Lib.hid ho3; have HG3 : Hid (HB w3 w1.heap.size l) := hb3; clear ho3; have c8 : w3.cell? ⟨w1.heap.size, 8, none⟩ = some (.int .u8 (q : Int)) := (by rw [cell_of_block hb3.out, List.getElem?_toArray]; exact HB8.out); clear hb3)
    | fail)
  go_ret
  exact ⟨by rw [HQ.out]; rfl, HW1.out.trans ((HW2.out.mono HW1.out.size).trans (HO3.out.to_below (B := w.heap.size) (by have := HW1.out.size; have := HS2.out; omega) (fun i hi _ => by have := HW1.out.size; omega)))⟩
end Go.Proofs.Ytkcickbkmedbmaa.Fm
