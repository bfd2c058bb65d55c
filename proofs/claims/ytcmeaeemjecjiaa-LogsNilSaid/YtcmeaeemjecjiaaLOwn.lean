/-
  THE LOG IN MEMORY: its struct's block, its map of last numbers; what 'end' and 'Next' do.
-/
import Derived.Test.YtcmeaeemjecjiaaLCon
import Derived.StillTailTactics
import Derived.Deep.QuietTactic
import Derived.BigQuiet
namespace Go.Proofs.Ytcmeaeemjecjiaa
open Go.RowKit Go.Maps

/-- The last numbers of the segments from lo on, whose frames are numbered from n on. -/
def lastL : Nat → Nat → List (List ByteArray) → Int → Option Int
  | _, _, [], _ => none
  | lo, n, c :: r, f => if f = (lo : Int) then (if c = [] then none else some (((n + c.length : Nat) : Int) - 1)) else lastL (lo + 1) (n + c.length) r f
theorem lastL_low : ∀ (l : List (List ByteArray)) (lo n : Nat) (f : Int), f < (lo : Int) → lastL lo n l f = none := by
  intro l
  induction l with
  | nil => intro lo n f _; rfl
  | cons c r ih => intro lo n f h; unfold lastL; rw [if_neg (by omega)]; exact ih _ _ f (by omega)
theorem lastL_snoc (c : List ByteArray) (f : Int) : ∀ (l : List (List ByteArray)) (lo n : Nat),
    lastL lo n (l ++ [c]) f = if f = ((lo + l.length : Nat) : Int) then (if c = [] then none else some (((n + Pl.cnt l + c.length : Nat) : Int) - 1)) else lastL lo n l f := by
  intro l
  induction l with
  | nil => intro lo n; simp only [List.nil_append, lastL, Pl.cnt, List.map_nil, List.sum_nil, List.length_nil, Nat.add_zero]
  | cons x r ih =>
    intro lo n
    rw [List.cons_append]
    unfold lastL
    rw [ih, Pl.cnt_cons, List.length_cons]
    by_cases h : f = (lo : Int)
    · simp only [if_pos h]
      rw [if_neg (show ¬ f = ((lo + (r.length + 1) : Nat) : Int) from by omega)]
    · simp only [if_neg h]
      rw [show lo + 1 + r.length = lo + (r.length + 1) from by omega, show n + x.length + Pl.cnt r + c.length = n + (x.length + Pl.cnt r) + c.length from by omega]
def lastF (lo nn : Nat) (pre : List (List ByteArray)) (cur : List ByteArray) : Int → Option Int := lastL lo nn (pre ++ [cur])
theorem last_cur (lo nn : Nat) (pre : List (List ByteArray)) (cur : List ByteArray) (f : Int) :
    lastF lo nn pre cur f = if f = ((lo + pre.length : Nat) : Int) then (if cur = [] then none else some (((nn + Pl.cnt pre + cur.length : Nat) : Int) - 1)) else lastL lo nn pre f := lastL_snoc cur f pre lo nn
theorem last_more (lo nn : Nat) (pre : List (List ByteArray)) (cur : List ByteArray) (d : ByteArray) (f : Int) :
    lastF lo nn pre (cur ++ [d]) f = upd (lastF lo nn pre cur) ((lo + pre.length : Nat) : Int) (some ((nn + Pl.cnt pre + cur.length : Nat) : Int)) f := by
  unfold upd
  rw [last_cur, last_cur]
  by_cases h : f = ((lo + pre.length : Nat) : Int)
  · rw [if_pos h, if_pos h, if_neg (by simp), List.length_append, List.length_singleton]
    congr 1
    omega
  · rw [if_neg h, if_neg h, if_neg h]
theorem last_next (lo nn : Nat) (pre : List (List ByteArray)) (cur : List ByteArray) (d : ByteArray) (f : Int) :
    lastF lo nn (pre ++ [cur]) [d] f = upd (lastF lo nn pre cur) ((lo + pre.length + 1 : Nat) : Int) (some ((nn + Pl.cnt pre + cur.length : Nat) : Int)) f := by
  unfold upd
  rw [last_cur, List.length_append, List.length_singleton, Pl.cnt_snoc, show lo + (pre.length + 1) = lo + pre.length + 1 from rfl]
  by_cases h : f = ((lo + pre.length + 1 : Nat) : Int)
  · rw [if_pos h, if_pos h, if_neg (by simp), List.length_singleton]
    congr 1
    omega
  · rw [if_neg h, if_neg h]; rfl
theorem last_drop (lo nn : Nat) (c : List ByteArray) (pre : List (List ByteArray)) (cur : List ByteArray) (f : Int) :
    lastF (lo + 1) (nn + c.length) pre cur f = upd (lastF lo nn (c :: pre) cur) (lo : Int) none f := by
  unfold upd lastF
  rw [List.cons_append]
  by_cases h : f = (lo : Int)
  · rw [if_pos h, lastL_low _ _ _ _ (by omega)]
  · rw [if_neg h]
    conv => rhs; unfold lastL
    rw [if_neg h]
theorem last_head (lo nn : Nat) (c : List ByteArray) (pre : List (List ByteArray)) (cur : List ByteArray) (hc : c ≠ []) : lastF lo nn (c :: pre) cur (lo : Int) = some (((nn + c.length : Nat) : Int) - 1) := by
  unfold lastF
  rw [List.cons_append]
  unfold lastL
  rw [if_pos rfl, if_neg hc]
theorem last_tail (lo nn : Nat) (pre : List (List ByteArray)) (cur : List ByteArray) : lastF lo nn pre cur ((lo + pre.length : Nat) : Int) = if cur = [] then none else some (((nn + Pl.cnt pre + cur.length : Nat) : Int) - 1) := by
  rw [last_cur, if_pos rfl]
theorem last_bare (lo nn : Nat) (f : Int) : lastF lo nn [] [] f = none := by
  rw [last_cur, if_pos rfl]
  split <;> rfl

/-- The map's cells. -/
def lastV (lo nn : Nat) (pre : List (List ByteArray)) (cur : List ByteArray) : Int → Option Value := fun f => (lastF lo nn pre cur f).map (Value.int .i64)
theorem upd_map (g : Int → Option Int) (x : Int) (o : Option Int) (f : Int) : (upd g x o f).map (Value.int .i64) = upd (fun f => (g f).map (Value.int .i64)) x (o.map (Value.int .i64)) f := by
  unfold upd; split <;> rfl

/-- Block bl is a Log. -/
def LG (w : World) (bl b bm : Nat) (sg tl nx : Int) : Prop :=
  w.heap[bl]? = some (.cells #[.pointer (some ⟨b, 0, none⟩), .int .i64 sg, .int .i64 tl, .int .i64 nx, .map (some bm)] 53 (0, 0))
theorem LG.lt {w : World} {bl b bm : Nat} {sg tl nx : Int} (h : LG w bl b bm sg tl nx) : bl < w.heap.size := (Array.getElem?_eq_some_iff.1 h).1
structure LCl (w : World) (bl b bm : Nat) (sg tl nx : Int) : Prop where
  c0 : w.cell? ⟨bl, 0, none⟩ = some (.pointer (some ⟨b, 0, none⟩))
  c1 : w.cell? ⟨bl, 1, none⟩ = some (.int .i64 sg)
  c2 : w.cell? ⟨bl, 2, none⟩ = some (.int .i64 tl)
  c3 : w.cell? ⟨bl, 3, none⟩ = some (.int .i64 nx)
  c4 : w.cell? ⟨bl, 4, none⟩ = some (.map (some bm))
  f0 : w.frozen? ⟨bl, 0, none⟩ = false
  f1 : w.frozen? ⟨bl, 1, none⟩ = false
  f2 : w.frozen? ⟨bl, 2, none⟩ = false
  f3 : w.frozen? ⟨bl, 3, none⟩ = false
  f4 : w.frozen? ⟨bl, 4, none⟩ = false
theorem LG.cl {w : World} {bl b bm : Nat} {sg tl nx : Int} (h : LG w bl b bm sg tl nx) : LCl w bl b bm sg tl nx := by
  unfold LG at h
  exact ⟨by rw [cell_of_block h]; rfl, by rw [cell_of_block h]; rfl, by rw [cell_of_block h]; rfl, by rw [cell_of_block h]; rfl, by rw [cell_of_block h]; rfl,
    frozen_of_block h, frozen_of_block h, frozen_of_block h, frozen_of_block h, frozen_of_block h⟩

/-- A log of the next number nx, whose frames are pre and cur; Z: its blocks. -/
def LX (nx : Nat) (w : World) (Z : Nat → Prop) (b bl lo nn : Nat) (pre : List (List ByteArray)) (cur : List ByteArray) : Prop :=
  ∃ bm c, LG w bl b bm ((lo + pre.length : Nat) : Int) (((Pl.segL (nn + Pl.cnt pre) cur).length : Nat) : Int) (nx : Int) ∧ IM w bm c (lastV lo nn pre cur) ∧ c ≤ nn + Pl.cnt pre + cur.length ∧ ∀ k, Z k ↔ k = bl ∨ k = bm
def LO : Own := fun w Z b bl lo nn pre cur => LX (nn + Pl.cnt pre + cur.length) w Z b bl lo nn pre cur

section
variable {nx : Nat} {w w' : World} {Z : Nat → Prop} {b bl lo nn : Nat} {pre : List (List ByteArray)} {cur : List ByteArray}
theorem LX.kept (h : LX nx w Z b bl lo nn pre cur) (e : ∀ k, Z k → w'.heap[k]? = w.heap[k]?) : LX nx w' Z b bl lo nn pre cur := by
  obtain ⟨bm, c, hg, hm, hc, hZ⟩ := h
  exact ⟨bm, c, (e bl ((hZ bl).2 (.inl rfl))).trans hg, hm.kept (e bm ((hZ bm).2 (.inr rfl))), hc, hZ⟩
theorem LX.lt (h : LX nx w Z b bl lo nn pre cur) : ∀ k, Z k → k < w.heap.size := by
  obtain ⟨bm, c, hg, hm, hc, hZ⟩ := h
  intro k hk
  rcases (hZ k).1 hk with rfl | rfl
  · exact hg.lt
  · exact hm.lt
theorem LX.below (h : LX nx w Z b bl lo nn pre cur) (hb : Below w.heap.size w w') : LX nx w' Z b bl lo nn pre cur := h.kept fun k hk => hb.block k (h.lt k hk)
end

/-- What 'end' leaves: two blocks turned. -/
def EndPost (bl b bm c : Nat) (F : Int → Option Value) (num sg tl : Int) (w : World) (e : Ending) (w' : World) : Prop :=
  e = .returned (.tuple #[]) ∧ LG w' bl b bm sg tl (num + 1) ∧ IM w' bm (c + 1) (upd F sg (some (.int .i64 num))) ∧ Only (fun k => k = bl ∨ k = bm) w w'

set_option maxRecDepth 100000 in
set_option maxHeartbeats 800000 in
theorem end_any (bl b bm c : Nat) (F : Int → Option Value) (num sg tl sg0 tl0 nx0 : Int) (w : World) (h : LG w bl b bm sg0 tl0 nx0) (hm : IM w bm c F) (hc : c ≤ 1000000) (hn0 : 0 ≤ num) (hn : num ≤ 4611686018427387904) (hs : Wf sg) :
    Calls Try.prog 23 #[.pointer (some ⟨bl, 0, none⟩), .int .i64 num, .int .i64 sg, .int .i64 tl] w (EndPost bl b bm c F num sg tl w) := by
  have HG := Lib.hid h
  have HM := Lib.hid hm
  have hne : bm ≠ bl := hm.ne_cells h
  obtain ⟨c0, c1, c2, c3, c4, f0, f1, f2, f3, f4⟩ := h.cl
  clear h hm c0
  go_enter Try.func23, Try.ntmps23
  have HC := Lib.hid hc
  have HS := Lib.hid hs
  clear hc hs
  have HMA : ∀ w2 : World, w2.heap[bm]? = w.heap[bm]? → Hid (IM w2 bm c F) := fun w2 e => Lib.hid (HM.out.kept e)
  go_wp2_with (first
    | (at_mapUpdate; refine wpList_update_im _ rfl _ _ _ _ rfl 3 Try.underlying51 bm c _ rfl (HMA _ (by (repeat rw [block_setCell_other hne]))).out (by simp only [maxLen]; have := HC.out; omega) sg HS.out rfl (.int .i64 num) rfl ?_; intro w2 hI2 ht2; have HT2 := Lib.hid ht2; clear ht2)
    | fail)
  go_end0
  have ho2 := Only.turned (X := fun k => k = bm) HT2.out rfl
  refine ⟨rfl, ?_, hI2.out, ?_⟩
  · refine (ho2.block bl ?_ (fun e => hne e.symm)).trans ?_
    · simp only [World.setCell, Array.size_modify]; exact HG.out.lt
    · rw [block_setCell (block_setCell (block_setCell HG.out _) _) _]; rfl
  · refine Only.tr (b := ((w.setCell ⟨bl, 1, none⟩ (.int .i64 sg)).setCell ⟨bl, 2, none⟩ (.int .i64 tl)).setCell ⟨bl, 3, none⟩ (.int .i64 (num + 1))) ?_ (ho2.mono (fun k hk _ => .inr hk))
    exact ((Only.setCell w (a := ⟨bl, 1, none⟩) (.inl rfl) _).tr (Only.setCell _ (a := ⟨bl, 2, none⟩) (.inl rfl) _)).tr (Only.setCell _ (a := ⟨bl, 3, none⟩) (.inl rfl) _)

set_option maxRecDepth 100000 in
theorem next_any (bl b bm : Nat) (sg tl nx : Int) (w : World) (h : LG w bl b bm sg tl nx) :
    Calls Try.prog 13 #[.pointer (some ⟨bl, 0, none⟩)] w fun e w' => e = .returned (.int .i64 nx) ∧ w' = w := by
  obtain ⟨_, _, _, c3, _, _, _, _, _, _⟩ := h.cl
  clear h
  go_enter Try.func13, Try.ntmps13
  go_wp2
  go_ret
  exact ⟨rfl, rfl⟩
end Go.Proofs.Ytcmeaeemjecjiaa
