/-
  CONTRACT of assemble: the sector of a part, in an array of its own.
-/
import Derived.Test.YtkcickbkmedbmaaSHead
namespace Go.Proofs.Ytkcickbkmedbmaa.Fm
open Go.RowKit

def zs64 : Array Value := (List.replicate 64 (Value.int .u8 0)).toArray
/-- Block g is a sector's variable that holds the cells c. -/
def SB64 (w : World) (g : Nat) (c : Array Value) : Prop := w.heap[g]? = some (.cells c 68 (0, 0))
theorem sumF_eq (l : List UInt8) : ∀ n, Pl.sumF n l = Ps.sumF n l := by
  induction l with
  | nil => intro n; rfl
  | cons c r ih => intro n; exact ih _

section
variable (w : World) {ops : Array Oper} {rest : List Oper} {o : Oper} {a : Act} {Q : Exit → Act → World → Prop}
theorem wpList_alloc_s64 (hg : o.guard = none) (hop : o.op = Op.alloc 68)
    (hK : ∀ w1, w1.heap.size = w.heap.size + 1 → Below w.heap.size w w1 → Hid (SB64 w1 w.heap.size zs64) → wpList Try.prog ops Q rest (a.put o.dst (.pointer (some ⟨w.heap.size, 0, none⟩))) w1) :
    wpList Try.prog ops Q (o :: rest) a w := by
  refine wpList_plain hg fun K' hK' => ?_
  unfold Oper.wp
  simp [execOp, hop, Instr.alloc, newVar, newRow, Value.cells, Result.andThen]
  refine hK' _ _ (hK _ (by simp) ((Below.refl _ _).alloc (Nat.le_refl _) _) ?_)
  show (w.heap.push _)[w.heap.size]? = _
  rw [Array.getElem?_push_size]
  rfl
/-- A copy of a row's first cells. -/
theorem wpList_copy_cells (hg : o.guard = none) (d s : Operand) (hop : o.op = .call { callee := .builtin .copy, args := #[d, s], argTypes := #[59, 59] })
    (g off len cap b cap2 : Nat) (l : List UInt8) (hd : a.eval d = .slice (some ⟨g, off, none⟩) len cap) (hs : a.eval s = .slice (some ⟨b, 0, none⟩) len cap2) (hl : l.length = len) {c : Array Value} {t t2 : TypeId} (hc : off + l.length ≤ c.size) (hb : w.heap[g]? = some (.cells c t (0, 0))) (hsrc : w.heap[b]? = some (.cells (bv l).toArray t2 (0, 0)))
    (hK : ∀ w1, Only (fun i => i = g) w w1 → Hid (w1.heap[g]? = some (.cells (c.toList.take off ++ (bv l ++ c.toList.drop (off + l.length))).toArray t (0, 0))) → wpList Try.prog ops Q rest (a.put o.dst (.int .i64 (l.length : Int))) w1) :
    wpList Try.prog ops Q (o :: rest) a w := by
  refine wpList_copy_own hg d s 59 59 hop 5 Try.underlying59 infoU8s g off len cap ⟨b, 0, none⟩ len cap2 hd hs c t hb (bv l) (by rw [bv_length, hl]; exact (Nat.min_self _).symm) (fun j v hj => by
    rw [Addr.add_lit, Nat.zero_add, cell_of_block hsrc, List.getElem?_toArray]; exact hj) (by rw [bv_length]; exact hc) (bv_one l) ?_
  have := hK _ (setRow_only _ _ _) (setRow_heap w g _ _ _ _ hb)
  rw [bv_length]
  exact this
end

/-- The first cells of a block, read as a text. -/
theorem blockText {w : World} {g cap : Nat} {c : Array Value} {t : TypeId} {l : List UInt8} {r : List Value} (h : w.heap[g]? = some (.cells c t (0, 0))) (hc : c.toList = bv l ++ r) {m : Nat} (hm : m = l.length) :
    (convert 59 9 (.slice (some ⟨g, 0, none⟩) m cap)).run Try.prog w = .ok (.string ⟨l.toArray⟩) w := by
  subst hm
  exact run_convert_bytes_back (P := Try.prog) w 59 9 5 ⟨g, 0, none⟩ cap l Try.underlying59 Try.underlying5 Try.underlying9 (fun j hj => by
    rw [Addr.add_lit, Nat.zero_add, cell_of_block h, ← Array.getElem?_toList, hc, List.getElem?_append_left (by rw [bv_length]; exact hj)]
    simp [bv, List.getElem?_eq_getElem hj])

theorem cells9 (h : List UInt8) (hl : h.length = 9) : (zs64.toList.take 0 ++ (bv h ++ zs64.toList.drop (0 + h.length))).toArray = (bv h ++ List.replicate 55 (Value.int .u8 0)).toArray := by
  rw [hl]; simp [zs64]
theorem cells62 (n p k : Nat) (d : List UInt8) (hd : d.length ≤ 53) :
    ((bv (hd9 n p k d.length) ++ List.replicate 55 (Value.int .u8 0)).toArray.toList.take 9 ++ (bv d ++ (bv (hd9 n p k d.length) ++ List.replicate 55 (Value.int .u8 0)).toArray.toList.drop (9 + d.length))).toArray = (bv (Ps.bodyL n p k d) ++ List.replicate 2 (Value.int .u8 0)).toArray := by
  have h9 : (bv (hd9 n p k d.length)).length = 9 := rfl
  simp only []
  rw [← h9, List.take_left, List.drop_append, List.drop_of_length_le (by omega), List.nil_append, show (bv (hd9 n p k d.length)).length + d.length - (bv (hd9 n p k d.length)).length = d.length from by omega, List.drop_replicate]
  congr 1
  unfold Ps.bodyL
  rw [bv_append, bv_append]
  show _ = (bv (hd9 n p k d.length) ++ (bv d ++ bv (List.replicate (53 - d.length) 0))) ++ List.replicate 2 (Value.int .u8 0)
  rw [List.append_assoc, List.append_assoc]
  congr 2
  rw [show bv (List.replicate (53 - d.length) 0) = List.replicate (53 - d.length) (Value.int .u8 0) from by simp [bv], List.replicate_append_replicate]
  congr 1
  omega
theorem cells64 (b : List UInt8) (h : b.length = 62) (x : Nat) : putA (bv b ++ List.replicate 2 (Value.int .u8 0)).toArray 62 2 x 2 = (bv (b ++ [UInt8.ofNat (x / 256), UInt8.ofNat x])).toArray := by
  have hl : (bv b).length = 62 := by rw [bv_length, h]
  simp only [putA, (pv2 x).1, (pv2 x).2, List.setIfInBounds_toArray]
  rw [List.set_append_right _ _ (by omega), List.set_append_right _ _ (by omega), hl, bv_append]
  rfl

set_option maxRecDepth 100000 in
set_option maxHeartbeats 1600000 in
theorem assemble_any (n p k : Nat) (d : ByteArray) (w : World) (hd : d.size ≤ 53) :
    Calls Try.prog 38 #[hdV (hd9 n p k d.size), .string d] w fun e w' => e = .returned (.string (Ps.secB n p k d)) ∧ Below w.heap.size w w' := by
  have hdl : d.data.toList.length = d.size := Pl.length_toList d
  obtain ⟨h, hh⟩ : ∃ h, h = hd9 n p k d.size := ⟨_, rfl⟩
  have hl9 : h.length = 9 := by rw [hh]; rfl
  have HL9 := Lib.hid hl9
  have HHH := Lib.hid hh
  have HD := Lib.hid hd
  have HC62 : Hid (((bv h ++ List.replicate 55 (Value.int .u8 0)).toArray.toList.take 9 ++ (bv d.data.toList ++ (bv h ++ List.replicate 55 (Value.int .u8 0)).toArray.toList.drop (9 + d.data.toList.length))).toArray = (bv (Ps.bodyL n p k d.data.toList) ++ List.replicate 2 (Value.int .u8 0)).toArray) := Lib.hid (by
    have := cells62 n p k d.data.toList (by omega)
    rw [hh, ← hdl]
    exact this)
  have HTK : Hid (d.data.toList = d.data.toList.take 53) := Lib.hid (by rw [List.take_of_length_le (by omega)])
  have HDL := Lib.hid hdl
  rw [← hh]
  clear hl9 hh hdl hd
  unfold hdV
  go_enter Try.func38, Try.ntmps38
  go_wp2_with (first
    | (with_reducible refine wpList_alloc_s64 _ rfl rfl ?_; intro w1 hs1 hb1 HG1)
    | fail)
  have hP1 : w1.heap[w.heap.size]? = some (.cells (bv h).toArray 75 (0, 0)) := (hb1.block w.heap.size (by simp)).trans (by show (w.heap.push _)[w.heap.size]? = _; rw [Array.getElem?_push_size])
  have hg : (w.alloc (.cells (bv h).toArray 75)).heap.size = w.heap.size + 1 := by simp
  rw [hg] at HG1 hb1
  have HB2 : Hid (Below w.heap.size w w1.drew) := Lib.hid (((Below.refl w.heap.size w).alloc (Nat.le_refl _) (.cells (bv h).toArray 75)).trans (hb1.mono (by omega))).drew
  have HP2 : Hid (w1.drew.heap[w.heap.size]? = some (.cells (bv h).toArray 75 (0, 0))) := Lib.hid hP1
  have HG2 : Hid (SB64 w1.drew (w.heap.size + 1) zs64) := HG1
  clear hg hb1 hs1 hP1 HG1
  go_still_tail 2, (by kernel_rfl)
  change wpList _ _ _ _ _ w1.drew
  refine wpList_copy_cells _ rfl (.tmp 6) (.tmp 7) rfl (w.heap.size + 1) 0 9 64 w.heap.size 9 h rfl rfl HL9.out (c := zs64) (t := 68) (t2 := 75) (by rw [HL9.out]; simp [zs64]) HG2.out HP2.out ?_
  intro w3 ho3 hg3
  have HG3 : Hid (w3.heap[w.heap.size + 1]? = some (.cells (bv h ++ List.replicate 55 (Value.int .u8 0)).toArray 68 (0, 0))) := Lib.hid (by rw [hg3.out, cells9 h HL9.out])
  have HB3 := Lib.hid (HB2.out.trans (ho3.to_below (B := w.heap.size) HB2.out.size (fun i hi _ => by omega)))
  have HC53 : Hid (9 + d.data.toList.length ≤ (bv h ++ List.replicate 55 (Value.int .u8 0)).toArray.size) := Lib.hid (by rw [HDL.out, List.size_toArray, List.length_append, bv_length, HL9.out, List.length_replicate]; have := HD.out; omega)
  clear hg3 ho3 HG2 HP2 HB2
  go_wp2_with (first
    | (refine wpList_copy_text _ rfl (.tmp 9) (.tmp 10) rfl (w.heap.size + 1) 9 53 55 d rfl rfl d.data.toList HTK.out HC53.out HG3.out ?_; intro w5 ho5 hg5; rw [HC62.out] at hg5; have HG5 := hg5; have HO5 := Lib.hid ho5; clear ho5 hg5)
    | fail)
  have HB5 := Lib.hid (HB3.out.trans (HO5.out.to_below (B := w.heap.size) HB3.out.size (fun i hi _ => by omega)))
  clear HO5 HG3 HB3
  have hl2 := Ps.bodyL_length n p k d.data.toList (by rw [HDL.out]; exact HD.out)
  have hsm := sum_any ⟨(Ps.bodyL n p k d.data.toList).toArray⟩ w5.drew (by simp only [maxLen]; show (Ps.bodyL n p k d.data.toList).toArray.size ≤ _; simp; omega)
  have htx := blockText (cap := 64) (w := w5.drew) (g := w.heap.size + 1) (l := Ps.bodyL n p k d.data.toList) (m := 62) HG5.out rfl hl2.symm
  simp only [sumF_eq] at hsm
  have HS := Lib.hid hsm
  have HL2 := Lib.hid hl2
  clear hsm hl2
  go_still_tail 4, (by kernel_rfl)
  still_call (HS.out.mono fun e w' ⟨h1, h2⟩ => ⟨h1, h2.symm⟩)
  refine wpStill_nil ?_
  change wpList _ _ _ _ _ w5.drew
  have HG6 : Hid (w5.drew.heap[w.heap.size + 1]? = some (.cells (bv (Ps.bodyL n p k d.data.toList) ++ List.replicate 2 (Value.int .u8 0)).toArray 68 (0, 0))) := HG5
  have HB6 := Lib.hid HB5.out.drew
  have HX : Hid (Ps.sumF 1 (Ps.bodyL n p k d.data.toList) < 65521) := Lib.hid (Ps.sumF_lt _ _ (by omega))
  have HSB : Hid (Ps.secB n p k d = ⟨(Ps.bodyL n p k d.data.toList ++ [UInt8.ofNat (Ps.sumF 1 (Ps.bodyL n p k d.data.toList) / 256), UInt8.ofNat (Ps.sumF 1 (Ps.bodyL n p k d.data.toList))]).toArray⟩) := Lib.hid rfl
  clear htx HS HG5 HB5 HC62
  generalize w5.drew = w6 at HG6 HB6 ⊢
  generalize Ps.bodyL n p k d.data.toList = body at HG6 HX HSB HL2 ⊢
  generalize Ps.sumF 1 body = x at HX HSB ⊢
  go_wp2_with fail
  refine (putBig_any (w.heap.size + 1) 62 2 2 68 x _ w6 (by have := HX.out; omega) (by omega) (by have := HL2.out; simp [bv]; omega) HG6.out).mono ?_
  rintro e w7 ⟨rfl, hg7, ho7⟩
  have HB7 := Lib.hid (HB6.out.trans (ho7.to_below (B := w.heap.size) HB6.out.size (fun i hi _ => by omega)))
  have htx := blockText (cap := 64) (w := w7) (g := w.heap.size + 1) (m := 64) (l := body ++ [UInt8.ofNat (x / 256), UInt8.ofNat x]) (r := []) hg7 (by rw [cells64 body HL2.out]; simp) (by rw [List.length_append, HL2.out]; rfl)
  clear hg7 ho7 HG6 HB6
  go_wp2_with fail
  go_ret
  exact ⟨by rw [HSB.out]; rfl, HB7.out⟩
end Go.Proofs.Ytkcickbkmedbmaa.Fm
