/-
  CONTRACT of assemble: the sector of a part, in an array of its own.
-/
import Derived.Test.YtcmeaeemjecjiaaFPut
import Derived.Test.YtcmeaeemjecjiaaFSum
import Derived.Laws.CopyRow
import Derived.Laws.CopyOwn
import Derived.Laws.IdiomStrings
import Derived.StillTailTactics
import Derived.Maps.RangeWalk
namespace Go.Proofs.Ytcmeaeemjecjiaa.Fm
open Go.RowKit

def zs : Array Value := (List.replicate 64 (Value.int .u8 0)).toArray
theorem zeroSec (w : World) : (zeroValue 66).run Try.prog w = .ok (.agg zs) w := by rw [Try.zeroValue66]; rfl
theorem infoU8s : (Try.prog.info? 5).map (·.size) = some 1 := by kernel_rfl
/-- Block g is a sector's variable that holds the cells c. -/
def SB (w : World) (g : Nat) (c : Array Value) : Prop := w.heap[g]? = some (.cells c 66 (0, 0))
/-- Block b is a part's variable. -/
def PB (w : World) (b n p k : Nat) (d : ByteArray) : Prop := w.heap[b]? = some (.cells #[.int .i64 (n : Int), .int .i64 (p : Int), .int .i64 (k : Int), .string d] 75 (0, 0))

theorem setRow_only (w : World) (g : Nat) (cs : Array Value) : Only (fun i => i = g) w (w.setRow g cs) :=
  ⟨rfl, rfl, rfl, by simp [World.setRow], fun k _ hk => setRow_other w g k cs hk⟩

section
variable (w : World) {ops : Array Oper} {rest : List Oper} {o : Oper} {a : Act} {Q : Exit → Act → World → Prop}

theorem wpList_alloc_sec (hg : o.guard = none) (hop : o.op = Op.alloc 66)
    (hK : ∀ w1, w1.heap.size = w.heap.size + 1 → Below w.heap.size w w1 → Hid (SB w1 w.heap.size zs) → wpList Try.prog ops Q rest (a.put o.dst (.pointer (some ⟨w.heap.size, 0, none⟩))) w1) :
    wpList Try.prog ops Q (o :: rest) a w := by
  refine wpList_plain hg fun K' hK' => ?_
  unfold Oper.wp
  simp [execOp, hop, Instr.alloc, newVar, newRow, Value.cells, Result.andThen]
  refine hK' _ _ (hK _ (by simp) ((Below.refl _ _).alloc (Nat.le_refl _) _) ?_)
  show (w.heap.push _)[w.heap.size]? = _
  rw [Array.getElem?_push_size]
  rfl

theorem wpList_copy_str (hg : o.guard = none) (d s : Operand) (hop : o.op = .call { callee := .builtin .copy, args := #[d, s], argTypes := #[57, 9] })
    (g off len cap : Nat) (str : ByteArray) (hd : a.eval d = .slice (some ⟨g, off, none⟩) len cap) (hs : a.eval s = .string str) (hsz : str.size ≤ len) {c : Array Value} {t : TypeId} (hc : off + str.size ≤ c.size) (hb : w.heap[g]? = some (.cells c t (0, 0)))
    (hK : ∀ w1, Only (fun i => i = g) w w1 → Hid (w1.heap[g]? = some (.cells (c.toList.take off ++ (bv str.data.toList ++ c.toList.drop (off + str.size))).toArray t (0, 0))) → wpList Try.prog ops Q rest (a.put o.dst (.int .i64 (str.size : Int))) w1) :
    wpList Try.prog ops Q (o :: rest) a w := by
  have hl : (bv str.data.toList).length = str.size := by rw [bv_length, Pl.length_toList]
  have hst := run_storeCells_at Try.prog g off t (bv str.data.toList) 0 c w hb (by rw [hl]; omega) (fun v hv => bv_one _ v hv)
  rw [Nat.add_zero, hl] at hst
  have hcells : List.take str.size (List.map (fun b : UInt8 => Value.int .u8 (b.toNat : Int)) str.data.toList) = bv str.data.toList := List.take_of_length_le (by simp)
  refine wpList_plain hg fun K' hK' => ?_
  unfold Oper.wp
  cases hq : Try.prog.info? 5 with
  | none => have := infoU8s; rw [hq] at this; cases this
  | some i =>
    have hn2 : Nat.min str.size len = str.size := Nat.min_eq_left hsz
    simp [execOp, hop, resolve, invoke, builtin, hd, hs, Builtin.copy_, run_underlying Try.underlying57, Builtin.lenOf, Builtin.firstCells, sizeOf, typeInfo, hq, hn2, hcells, hst, goInt, Result.andThen]
    exact hK' _ _ (hK _ (setRow_only _ _ _) (setRow_heap w g _ _ _ _ hb))
end

/-- The first cells of a block, read as a text. -/
theorem blockText {w : World} {g cap : Nat} {c : Array Value} {t : TypeId} {l : List UInt8} {r : List Value} (h : w.heap[g]? = some (.cells c t (0, 0))) (hc : c.toList = bv l ++ r) {m : Nat} (hm : m = l.length) :
    (convert 57 9 (.slice (some ⟨g, 0, none⟩) m cap)).run Try.prog w = .ok (.string ⟨l.toArray⟩) w := by
  subst hm
  exact run_convert_bytes_back (P := Try.prog) w 57 9 5 ⟨g, 0, none⟩ cap l Try.underlying57 Try.underlying5 Try.underlying9 (fun j hj => by
    rw [Addr.add_lit, Nat.zero_add, cell_of_block h, ← Array.getElem?_toList, hc, List.getElem?_append_left (by rw [bv_length]; exact hj)]
    simp [bv, List.getElem?_eq_getElem hj])

/-! ### the cells, step by step -/
def hd7 (n p k m : Nat) : List UInt8 := [UInt8.ofNat (n / 16777216), UInt8.ofNat (n / 65536), UInt8.ofNat (n / 256), UInt8.ofNat n, UInt8.ofNat p, UInt8.ofNat k, UInt8.ofNat m]
theorem u8v (n : Nat) : Value.int .u8 ((n : Int) % 256) = Value.int .u8 ((UInt8.ofNat n).toNat : Int) := by
  rw [UInt8.toNat_ofNat']; congr 1
theorem cells4 (n : Nat) : putA zs 0 4 n 4 = (bv [UInt8.ofNat (n / 16777216), UInt8.ofNat (n / 65536), UInt8.ofNat (n / 256), UInt8.ofNat n] ++ List.replicate 60 (Value.int .u8 0)).toArray := by
  have e0 : pv 4 n 0 = Value.int .u8 ((UInt8.ofNat (n / 16777216)).toNat : Int) := by rw [← u8v]; rfl
  have e1 : pv 4 n 1 = Value.int .u8 ((UInt8.ofNat (n / 65536)).toNat : Int) := by rw [← u8v]; rfl
  have e2 : pv 4 n 2 = Value.int .u8 ((UInt8.ofNat (n / 256)).toNat : Int) := by rw [← u8v]; rfl
  have e3 : pv 4 n 3 = Value.int .u8 ((UInt8.ofNat n).toNat : Int) := by rw [← u8v]; simp [pv]
  simp only [putA, e0, e1, e2, e3]
  rfl
theorem u8w (n : Nat) (h : n ≤ 255) : Value.int .u8 (n : Int) = Value.int .u8 ((UInt8.ofNat n).toNat : Int) := by
  rw [← u8v]; congr 1; omega
theorem cells7 (n p k m : Nat) (hp : p ≤ 255) (hk : k ≤ 255) (hm : m ≤ 255) : (((putA zs 0 4 n 4).setIfInBounds 4 (.int .u8 (p : Int))).setIfInBounds 5 (.int .u8 (k : Int))).setIfInBounds 6 (.int .u8 (m : Int)) = (bv (hd7 n p k m) ++ List.replicate 57 (Value.int .u8 0)).toArray := by
  rw [cells4, u8w p hp, u8w k hk, u8w m hm]
  rfl
theorem cells62 (n p k : Nat) (d : List UInt8) (hd : d.length ≤ 55) (c : Array Value) (hc : c = (bv (hd7 n p k d.length) ++ List.replicate 57 (Value.int .u8 0)).toArray) :
    (c.toList.take 7 ++ (bv d ++ c.toList.drop (7 + d.length))).toArray = (bv (Pl.bodyL n p k d) ++ List.replicate 2 (Value.int .u8 0)).toArray := by
  subst hc
  have h7 : (bv (hd7 n p k d.length)).length = 7 := rfl
  simp only []
  rw [← h7, List.take_left, List.drop_append, List.drop_of_length_le (by omega), List.nil_append, show (bv (hd7 n p k d.length)).length + d.length - (bv (hd7 n p k d.length)).length = d.length from by omega, List.drop_replicate]
  congr 1
  unfold Pl.bodyL
  rw [bv_append, bv_append]
  show _ = bv (hd7 n p k d.length) ++ _ ++ _
  rw [List.append_assoc, List.append_assoc]
  congr 2
  rw [show bv (List.replicate (55 - d.length) 0) = List.replicate (55 - d.length) (Value.int .u8 0) from by simp [bv], List.replicate_append_replicate]
  congr 1
  omega
theorem cells64 (b : List UInt8) (h : b.length = 62) (x : Nat) : putA (bv b ++ List.replicate 2 (Value.int .u8 0)).toArray 62 2 x 2 = (bv (b ++ [UInt8.ofNat (x / 256), UInt8.ofNat x])).toArray := by
  have e0 : pv 2 x 0 = Value.int .u8 ((UInt8.ofNat (x / 256)).toNat : Int) := by rw [← u8v]; rfl
  have e1 : pv 2 x 1 = Value.int .u8 ((UInt8.ofNat x).toNat : Int) := by rw [← u8v]; simp [pv]
  have hl : (bv b).length = 62 := by rw [bv_length, h]
  simp only [putA, e0, e1, List.setIfInBounds_toArray]
  rw [List.set_append_right _ _ (by omega), List.set_append_right _ _ (by omega), hl, bv_append]
  rfl

set_option maxRecDepth 100000 in
set_option maxHeartbeats 1600000 in
theorem assemble_any (n p k : Nat) (d : ByteArray) (w : World) (hn : n ≤ 4294967295) (hp : p ≤ 255) (hk : k ≤ 255) (hd : d.size ≤ 55) :
    Calls Try.prog 33 #[.agg #[.int .i64 (n : Int), .int .i64 (p : Int), .int .i64 (k : Int), .string d]] w fun e w' => e = .returned (.string (Pl.secB n p k d)) ∧ Below w.heap.size w w' := by
  go_enter Try.func33, Try.ntmps33
  go_wp2_with (first
    | (with_reducible refine wpList_alloc_sec _ rfl rfl ?_; intro w1 hs1 hb1 HG1)
    | fail)
  have hP1 : PB w1 w.heap.size n p k d := (hb1.block w.heap.size (by simp)).trans (by show (w.heap.push _)[w.heap.size]? = _; rw [Array.getElem?_push_size])
  have hg : (w.alloc (.cells #[.int .i64 (n : Int), .int .i64 (p : Int), .int .i64 (k : Int), .string d] 75)).heap.size = w.heap.size + 1 := by simp
  rw [hg] at HG1 hb1
  rw [hg]
  have HB1 := Lib.hid (((Below.refl w.heap.size w).alloc (Nat.le_refl _) (.cells #[.int .i64 (n : Int), .int .i64 (p : Int), .int .i64 (k : Int), .string d] 75)).trans (hb1.mono (by omega)))
  have HP1 := Lib.hid hP1
  clear hg hb1 hs1 hP1
  have q0 : w1.cell? ⟨w.heap.size, 0, none⟩ = some (.int .i64 (n : Int)) := by rw [cell_of_block HP1.out]; rfl
  go_frame
  go_still_tail 3, (by kernel_rfl)
  change wpList _ _ _ _ _ w1.drew
  have HG2 : Hid (SB w1.drew (w.heap.size + 1) zs) := HG1
  have HP2 : Hid (PB w1.drew w.heap.size n p k d) := HP1
  have HB2 := Lib.hid (HB1.out.drew)
  clear q0 HG1 HP1 HB1
  generalize w1.drew = w2 at HG2 HP2 HB2 ⊢
  go_wp2_with fail
  refine (putBig_any (w.heap.size + 1) 0 4 64 66 n zs w2 (by omega) (by omega) (by simp [zs]) HG2.out).mono ?_
  rintro e w3 ⟨rfl, hg3, ho3⟩
  have HB3 := Lib.hid (HB2.out.trans (ho3.to_below (B := w.heap.size) HB2.out.size (fun i hi _ => by omega)))
  have HG3 := Lib.hid hg3
  have HP3 := Lib.hid (show PB w3 w.heap.size n p k d from (ho3.block w.heap.size (lt_of_block HP2.out) (by omega)).trans HP2.out)
  clear hg3 ho3 HB2 HG2 HP2
  have q1 : w3.cell? ⟨w.heap.size, 1, none⟩ = some (.int .i64 (p : Int)) := by rw [cell_of_block HP3.out]; rfl
  have q2 : w3.cell? ⟨w.heap.size, 2, none⟩ = some (.int .i64 (k : Int)) := by rw [cell_of_block HP3.out]; rfl
  have q3 : w3.cell? ⟨w.heap.size, 3, none⟩ = some (.string d) := by rw [cell_of_block HP3.out]; rfl
  have c4 : w3.cell? ⟨w.heap.size + 1, 4, none⟩ = some (.int .u8 0) := by rw [cell_of_block HG3.out, cells4]; rfl
  have c5 : w3.cell? ⟨w.heap.size + 1, 5, none⟩ = some (.int .u8 0) := by rw [cell_of_block HG3.out, cells4]; rfl
  have c6 : w3.cell? ⟨w.heap.size + 1, 6, none⟩ = some (.int .u8 0) := by rw [cell_of_block HG3.out, cells4]; rfl
  have f4 : w3.frozen? ⟨w.heap.size + 1, 4, none⟩ = false := frozen_of_block HG3.out
  have f5 : w3.frozen? ⟨w.heap.size + 1, 5, none⟩ = false := frozen_of_block HG3.out
  have f6 : w3.frozen? ⟨w.heap.size + 1, 6, none⟩ = false := frozen_of_block HG3.out
  go_wp2_with fail
  have HG4 : Hid ((((w3.setCell ⟨w.heap.size + 1, 4, none⟩ (.int .u8 (p : Int))).setCell ⟨w.heap.size + 1, 5, none⟩ (.int .u8 (k : Int))).setCell ⟨w.heap.size + 1, 6, none⟩ (.int .u8 (d.size : Int))).heap[w.heap.size + 1]? = some (.cells (bv (hd7 n p k d.size) ++ List.replicate 57 (Value.int .u8 0)).toArray 66 (0, 0))) :=
    Lib.hid (by rw [block_setCell (block_setCell (block_setCell HG3.out _) _), cells7 n p k d.size hp hk (by omega)])
  have HP4 : Hid (PB (((w3.setCell ⟨w.heap.size + 1, 4, none⟩ (.int .u8 (p : Int))).setCell ⟨w.heap.size + 1, 5, none⟩ (.int .u8 (k : Int))).setCell ⟨w.heap.size + 1, 6, none⟩ (.int .u8 (d.size : Int))) w.heap.size n p k d) :=
    Lib.hid (by unfold PB; rw [block_setCell_other (by omega), block_setCell_other (by omega), block_setCell_other (by omega)]; exact HP3.out)
  have HB4 : Hid (Below w.heap.size w (((w3.setCell ⟨w.heap.size + 1, 4, none⟩ (.int .u8 (p : Int))).setCell ⟨w.heap.size + 1, 5, none⟩ (.int .u8 (k : Int))).setCell ⟨w.heap.size + 1, 6, none⟩ (.int .u8 (d.size : Int)))) :=
    Lib.hid (((HB3.out.setCell (p := ⟨w.heap.size + 1, 4, none⟩) (Nat.le_succ _) _).setCell (p := ⟨w.heap.size + 1, 5, none⟩) (Nat.le_succ _) _).setCell (p := ⟨w.heap.size + 1, 6, none⟩) (Nat.le_succ _) _)
  clear q1 q2 q3 c4 c5 c6 f4 f5 f6 HG3 HP3 HB3
  generalize (((w3.setCell ⟨w.heap.size + 1, 4, none⟩ (.int .u8 (p : Int))).setCell ⟨w.heap.size + 1, 5, none⟩ (.int .u8 (k : Int))).setCell ⟨w.heap.size + 1, 6, none⟩ (.int .u8 (d.size : Int))) = w4 at HG4 HP4 HB4 ⊢
  have q3 : w4.cell? ⟨w.heap.size, 3, none⟩ = some (.string d) := by rw [cell_of_block HP4.out]; rfl
  go_still_tail 3, (by kernel_rfl)
  change wpList _ _ _ _ _ w4.drew
  refine wpList_copy_str _ rfl (.tmp 21) (.tmp 23) rfl (w.heap.size + 1) 7 55 57 d rfl rfl hd (c := (bv (hd7 n p k d.size) ++ List.replicate 57 (Value.int .u8 0)).toArray) (t := 66) (by simp [bv, hd7]; omega) HG4.out ?_
  intro w5 ho5 hg5
  have HG5 : Hid (w5.heap[w.heap.size + 1]? = some (.cells (bv (Pl.bodyL n p k d.data.toList) ++ List.replicate 2 (Value.int .u8 0)).toArray 66 (0, 0))) := Lib.hid (by
    have hl := Pl.length_toList d
    rw [hg5.out, ← hl, cells62 n p k d.data.toList (by omega) _ rfl])
  have HB5 := Lib.hid (HB4.out.drew.trans (ho5.to_below (B := w.heap.size) HB4.out.drew.size (fun i hi _ => by omega)))
  clear q3 hg5 ho5 HG4 HP4 HB4
  have hl2 := Pl.bodyL_length n p k d.data.toList (by rw [Pl.length_toList]; exact hd)
  have hsm := sum_any ⟨(Pl.bodyL n p k d.data.toList).toArray⟩ w5.drew (by simp only [maxLen]; show (Pl.bodyL n p k d.data.toList).toArray.size ≤ _; simp; omega)
  have htx := blockText (cap := 64) (w := w5.drew) (g := w.heap.size + 1) (l := Pl.bodyL n p k d.data.toList) (m := 62) HG5.out rfl hl2.symm
  have HS := Lib.hid hsm
  have HL2 := Lib.hid hl2
  clear hsm hl2
  go_wp2_with fail
  go_still_tail 4, (by kernel_rfl)
  still_call (HS.out.mono fun e w' ⟨h1, h2⟩ => ⟨h1, h2.symm⟩)
  refine wpStill_nil ?_
  change wpList _ _ _ _ _ w5.drew
  have HG6 : Hid (w5.drew.heap[w.heap.size + 1]? = some (.cells (bv (Pl.bodyL n p k d.data.toList) ++ List.replicate 2 (Value.int .u8 0)).toArray 66 (0, 0))) := HG5
  have HB6 := Lib.hid HB5.out.drew
  have HX : Hid (Pl.sumF 1 (Pl.bodyL n p k d.data.toList) < 65521) := Lib.hid (Pl.sumF_lt _ _ (by omega))
  have HSB : Hid (Pl.secB n p k d = ⟨(Pl.bodyL n p k d.data.toList ++ [UInt8.ofNat (Pl.sumF 1 (Pl.bodyL n p k d.data.toList) / 256), UInt8.ofNat (Pl.sumF 1 (Pl.bodyL n p k d.data.toList))]).toArray⟩) := Lib.hid rfl
  clear htx HS HG5 HB5
  generalize w5.drew = w6 at HG6 HB6 ⊢
  generalize Pl.bodyL n p k d.data.toList = body at HG6 HX HSB HL2 ⊢
  change wpList _ _ _ _ { tmps := #[_, _, _, _, _, _, _, _, _, _, _, _, _, _, _, _, _, _, _, _, _, _, _, _, _, _, _, _, .int .i64 ((Pl.sumF 1 body : Nat) : Int), _, _, _], defers := [] } w6
  generalize Pl.sumF 1 body = x at HX HSB ⊢
  go_wp2_with fail
  refine (putBig_any (w.heap.size + 1) 62 2 2 66 x _ w6 (by have := HX.out; omega) (by omega) (by have := HL2.out; simp [bv]; omega) HG6.out).mono ?_
  rintro e w7 ⟨rfl, hg7, ho7⟩
  have HB7 := Lib.hid (HB6.out.trans (ho7.to_below (B := w.heap.size) HB6.out.size (fun i hi _ => by omega)))
  have htx := blockText (cap := 64) (w := w7) (g := w.heap.size + 1) (m := 64) (l := body ++ [UInt8.ofNat (x / 256), UInt8.ofNat x]) (r := []) hg7 (by rw [cells64 body HL2.out]; simp) (by rw [List.length_append, HL2.out]; rfl)
  clear hg7 ho7 HG6 HB6
  go_wp2_with fail
  go_ret
  exact ⟨by rw [HSB.out]; rfl, HB7.out⟩
end Go.Proofs.Ytcmeaeemjecjiaa.Fm
