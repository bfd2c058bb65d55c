/-
  A SECTOR IN A VARIABLE OF ITS OWN: laws at the operations (made, copied into, stored, read as a text); a map's element deleted.
-/
import Derived.Test.YtkcickbkmedbmaaMRead
import Derived.Laws.CopyRow
import Derived.Laws.CopyOwn
import Derived.Laws.IdiomStrings
import Derived.Deep.MidRow
namespace Go.Proofs.Ytkcickbkmedbmaa
open Go.RowKit Go.Maps

def zs : Array Value := Array.replicate 64 (.int .u8 0)
theorem zs_size : zs.size = 64 := by simp [zs]
theorem zeroSec (w : World) : (zeroValue 69).run Try.prog w = .ok (.agg zs) w := by rw [Try.zeroValue69]; rfl
theorem infoSec : (Try.prog.info? 69).map (·.size) = some 64 := by kernel_rfl
theorem infoU8s : (Try.prog.info? 5).map (·.size) = some 1 := by kernel_rfl

/-- Block g is a sector's variable that holds the cells c. -/
def SB (w : World) (g : Nat) (c : Array Value) : Prop := w.heap[g]? = some (.cells c 69 (0, 0))
theorem SB.range {w : World} {g : Nat} {c : List Value} (h : SB w g c.toArray) : w.rangeAt g 0 c := fun j v hv => by
  rw [Nat.zero_add, cell_of_block h]; simpa using hv
theorem SB.there {w : World} {g : Nat} {c : Array Value} (h : SB w g c) : w.there g 0 c.size := fun j hj => by
  rw [Nat.zero_add, cell_of_block h]
  exact ⟨by rw [Array.getElem?_eq_getElem hj]; rfl, frozen_of_block h⟩

section
variable (w : World) {ops : Array Oper} {rest : List Oper} {o : Oper} {a : Act} {Q : Exit → Act → World → Prop}

theorem wpList_alloc_sec (hg : o.guard = none) (hop : o.op = Op.alloc 69)
    (hK : ∀ w1, w1.heap.size = w.heap.size + 1 → Below w.heap.size w w1 → Hid (SB w1 w.heap.size zs) → wpList Try.prog ops Q rest (a.put o.dst (.pointer (some ⟨w.heap.size, 0, none⟩))) w1) :
    wpList Try.prog ops Q (o :: rest) a w := by
  refine wpList_plain hg fun K' hK' => ?_
  unfold Oper.wp
  simp [execOp, hop, Instr.alloc, newVar, newRow, Value.cells, Result.andThen]
  refine hK' _ _ (hK _ (by simp) ((Below.refl _ _).alloc (Nat.le_refl _) _) ?_)
  show (w.heap.push _)[w.heap.size]? = _
  rw [Array.getElem?_push_size]
  rfl

theorem setRow_only (w : World) (g : Nat) (cs : Array Value) : Only (fun i => i = g) w (w.setRow g cs) :=
  ⟨rfl, rfl, rfl, by simp [World.setRow], fun k _ hk => setRow_other w g k cs hk⟩

theorem wpList_copy_str (hg : o.guard = none) (d s : Operand) (hop : o.op = .call { callee := .builtin .copy, args := #[d, s], argTypes := #[59, 9] })
    (g : Nat) (str : ByteArray) (hd : a.eval d = .slice (some ⟨g, 0, none⟩) 64 64) (hs : a.eval s = .string str) (hsz : str.size = 64) {c : Array Value} (hc : c.size = 64) (hb : SB w g c)
    (hK : ∀ w1, Only (fun i => i = g) w w1 → Hid (SB w1 g (bytesV str).toArray) → wpList Try.prog ops Q rest (a.put o.dst (.int .i64 64)) w1) :
    wpList Try.prog ops Q (o :: rest) a w := by
  have hst := run_storeCells_at Try.prog g 0 69 (bytesV str) 0 c w hb (by rw [bytesV_length, hsz, hc]; omega) (fun v hv => by
    obtain ⟨u, _, rfl⟩ := List.mem_map.1 hv; rfl)
  have hl : c.toList.length ≤ 0 + 0 + (bytesV str).length := by rw [bytesV_length, hsz]; simp [hc]
  rw [Nat.add_zero, List.take_zero, List.nil_append, List.drop_eq_nil_of_le (by simpa using hl), List.append_nil] at hst
  have hcells : List.take 64 (List.map (fun b : UInt8 => Value.int .u8 (b.toNat : Int)) str.data.toList) = bytesV str := List.take_of_length_le (by simp; omega)
  refine wpList_plain hg fun K' hK' => ?_
  unfold Oper.wp
  cases hq : Try.prog.info? 5 with
  | none => have := infoU8s; rw [hq] at this; cases this
  | some i =>
    have hn : Nat.min str.size 64 = 64 := by rw [hsz]; rfl
    simp [execOp, hop, resolve, invoke, builtin, hd, hs, Builtin.copy_, run_underlying Try.underlying59, Builtin.lenOf, Builtin.firstCells, sizeOf, typeInfo, hq, hn, hcells, hst, goInt, Result.andThen]
    exact hK' _ _ (hK _ (setRow_only _ _ _) (setRow_heap w g _ _ _ _ hb))

theorem wpList_store_sec (hg : o.guard = none) (x y : Operand) (hop : o.op = .store 69 x y)
    (g : Nat) (cs : List Value) (hx : a.eval x = .pointer (some ⟨g, 0, none⟩)) (hy : a.eval y = .agg cs.toArray) (hsz : cs.length = 64) (h1 : ∀ v ∈ cs, v.oneCell' = true) {c : Array Value} (hc : c.size = 64) (hb : SB w g c)
    (hK : ∀ w1, Only (fun i => i = g) w w1 → Hid (SB w1 g cs.toArray) → wpList Try.prog ops Q rest (a.put o.dst undef) w1) :
    wpList Try.prog ops Q (o :: rest) a w := by
  have hst := run_storeCells_at Try.prog g 0 69 cs 0 c w hb (by rw [hsz, hc]; omega) h1
  have hl : c.toList.length ≤ 0 + 0 + cs.length := by rw [hsz]; simp [hc]
  rw [Nat.add_zero, List.take_zero, List.nil_append, List.drop_eq_nil_of_le (by simpa using hl), List.append_nil] at hst
  have hsv : (Instr.storeAt 69 (.pointer (some ⟨g, 0, none⟩)) (.agg cs.toArray)).run Try.prog w = .ok () (w.setRow g cs.toArray) := by
    rw [run_storeAt_mid w g 0 69 cs.toArray (by have := hb.there; rw [hc] at this; simpa [hsz] using this) (by rw [infoSec]; simp [hsz]) (all_oneCell_toArray h1)]
    have e := run_storeCells_cells (P := Try.prog) g 0 cs 0 w (fun j hj => by simpa using (hb.there j (by omega)).1) (fun j hj => by simpa using (hb.there j (by omega)).2) h1
    simp only [Nat.add_zero] at e
    rw [hst] at e
    injection e with _ e
    rw [e]
  refine wpList_plain hg fun K' hK' => ?_
  unfold Oper.wp
  simp [execOp, hop, hx, hy, hsv, Result.andThen]
  exact hK' _ _ (hK _ (setRow_only _ _ _) (setRow_heap w g _ _ _ _ hb))

theorem wpList_delete_im (hg : o.guard = none) (m x : Operand) (t : TypeId) (hop : o.op = Op.call { callee := Callee.builtin Builtin.delete, args := #[m, x], argTypes := #[t, 3] })
    (e : TypeId) (ht : Try.prog.underlying t = some (.map 3 e)) (b n : Nat) (f : Int → Option Value) (hm : a.eval m = .map (some b)) (hown : IM w b n f) (k : Int) (hk : Wf k) (hx : a.eval x = .int .i64 k)
    (hK : ∀ w', Hid (IM w' b n (upd f k none)) → w.mapTurned w' b → wpList Try.prog ops Q rest (a.put o.dst (.tuple #[])) w') :
    wpList Try.prog ops Q (o :: rest) a w := by
  refine wpList_plain hg fun K' hK' => ?_
  obtain ⟨w', hrun, r1, r2⟩ := hown.drop ht hk o.type
  unfold Oper.wp
  simp [execOp, hop, resolve, invoke, builtin, hm, hx, hrun, Result.andThen]
  exact hK' _ _ (hK w' r1 r2)

theorem wpList_update_im (hg : o.guard = none) (m x v : Operand) (t : TypeId) (hop : o.op = Op.mapUpdate t m x v)
    (e : TypeId) (ht : Try.prog.underlying t = some (.map 3 e)) (b n : Nat) (f : Int → Option Value) (hm : a.eval m = .map (some b)) (hown : IM w b n f) (hn : n < maxLen) (k : Int) (hk : Wf k) (hx : a.eval x = .int .i64 k) (u : Value) (hv : a.eval v = u)
    (hK : ∀ w', Hid (IM w' b (n + 1) (upd f k (some u))) → w.mapTurned w' b → wpList Try.prog ops Q rest (a.put o.dst undef) w') :
    wpList Try.prog ops Q (o :: rest) a w := by
  refine wpList_plain hg fun K' hK' => ?_
  obtain ⟨w', hrun, r1, r2⟩ := hown.store ht hn hk u
  unfold Oper.wp
  simp [execOp, hop, hm, hx, hv, hrun, Result.andThen]
  exact hK' _ _ (hK w' r1 r2)
end

/-- A map against nil. -/
theorem eql_files (j : Nat) (w : World) : Sem.run Try.prog (binOp .eql 50 (.map (some j)) (.map none)) w = .ok (.bool false) w := by kernel_rfl
theorem eql_some (j : Nat) (w : World) : Sem.run Try.prog (binOp .eql 67 (.map (some j)) (.map none)) w = .ok (.bool false) w := by kernel_rfl
theorem eql_none (w : World) : Sem.run Try.prog (binOp .eql 67 (.map none) (.map none)) w = .ok (.bool true) w := by kernel_rfl

/-- A sector's variable, read as a text. -/
theorem secText {w : World} {g : Nat} {d : ByteArray} (hd : d.size = 64) (h : SB w g (bytesV d).toArray) :
    (convert 59 9 (.slice (some ⟨g, 0, none⟩) 64 64)).run Try.prog w = .ok (.string d) w := by
  have hl : d.data.toList.length = 64 := by simpa using hd
  have := run_convert_bytes_back (P := Try.prog) w 59 9 5 ⟨g, 0, none⟩ 64 d.data.toList Try.underlying59 Try.underlying5 Try.underlying9 (fun j hj => by
    rw [Addr.add_lit, Nat.zero_add, cell_of_block h]
    simp [bytesV, List.getElem?_eq_getElem hj])
  rwa [hl, Array.toArray_toList] at this
end Go.Proofs.Ytkcickbkmedbmaa
