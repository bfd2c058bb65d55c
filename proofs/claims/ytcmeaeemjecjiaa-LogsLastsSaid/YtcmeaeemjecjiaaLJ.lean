/-
  THE LAWS' BUNDLE: a log over a medium beside a list of texts.
-/
import Derived.Test.YtcmeaeemjecjiaaLFill
import Derived.Test.YtcmeaeemjecjiaaMApp
namespace Go.Proofs.Ytcmeaeemjecjiaa
open Go.RowKit Go.Maps
open Fm (sc)

theorem Full.len {T : Pl.Md} : ∀ {pre : List (List ByteArray)} {lo n : Nat}, Pl.Full T lo n pre → pre.length ≤ Pl.cnt pre := by
  intro pre
  induction pre with
  | nil => intro lo n _; simp
  | cons c r ih =>
    intro lo n h
    obtain ⟨⟨_, h2, _⟩, hr⟩ := h
    have := ih hr
    have hc : c ≠ [] := Pl.seg_some h2
    have : 1 ≤ c.length := by cases c with | nil => exact absurd rfl hc | cons a b => simp
    rw [Pl.cnt_cons]
    simp only [List.length_cons]
    omega
theorem flat_length (pre : List (List ByteArray)) (cur : List ByteArray) : (flat pre cur).length = Pl.cnt pre + cur.length := by simp [flat, Pl.cnt, List.length_flatten]
theorem flat_drop (pre : List (List ByteArray)) (cur : List ByteArray) (i : Nat) : flat (pre.drop i) cur = (flat pre cur).drop (Pl.cnt (pre.take i)) := by
  have h : flat pre cur = (pre.take i).flatten ++ flat (pre.drop i) cur := by
    unfold flat
    conv => lhs; rw [← List.take_append_drop i pre, List.append_assoc, List.flatten_append]
  have hl : (pre.take i).flatten.length = Pl.cnt (pre.take i) := by simp [Pl.cnt, List.length_flatten]
  rw [h, ← hl, List.drop_left]
theorem cnt_split (pre : List (List ByteArray)) (i : Nat) : Pl.cnt (pre.take i) + Pl.cnt (pre.drop i) = Pl.cnt pre := by
  have : Pl.cnt (pre.take i ++ pre.drop i) = Pl.cnt (pre.take i) + Pl.cnt (pre.drop i) := by simp only [Pl.cnt, List.map_append, List.sum_append]
  rw [← this, List.take_append_drop]

/-- What is so of the frames: all of them, from some one on. -/
structure JF (i n : Nat) (lo nn : Nat) (pre : List (List ByteArray)) (cur : List ByteArray) (all : List ByteArray) (tr : Int) : Prop where
  all_ : flat pre cur = all.drop (nn - 1)
  len : all.length + 1 = nn + Pl.cnt pre + cur.length
  n1 : 1 ≤ nn
  tr0 : 0 ≤ tr
  tr1 : tr ≤ 1000000
  tr2 : (nn : Int) ≤ tr + 1
  capA : all.length ≤ i
  capN : n ≤ 2000 * i
  lo1 : lo ≤ nn + 1
  pl : pre.length ≤ Pl.cnt pre

theorem JF.next {i n n' lo nn : Nat} {pre : List (List ByteArray)} {cur all : List ByteArray} {tr : Int} (h : JF i n lo nn pre cur all tr) (hn : n' ≤ n + 2000) : JF (i + 1) n' lo nn pre cur all tr :=
  ⟨h.all_, h.len, h.n1, h.tr0, h.tr1, h.tr2, by have := h.capA; omega, by have := h.capN; omega, h.lo1, h.pl⟩
theorem JF.app {i n lo nn : Nat} {pre pre' : List (List ByteArray)} {cur cur' all : List ByteArray} {tr : Int} {d : ByteArray} (h : JF i n lo nn pre cur all tr) (hf : flat pre' cur' = flat pre cur ++ [d]) (hp : pre'.length ≤ Pl.cnt pre') : JF (i + 1) (n + 8) lo nn pre' cur' (all ++ [d]) tr := by
  have h1 := flat_length pre cur
  have h2 := flat_length pre' cur'
  have h3 := h.len
  have h4 := h.n1
  rw [hf, List.length_append, List.length_singleton, h1] at h2
  refine ⟨?_, by rw [List.length_append, List.length_singleton]; omega, h4, h.tr0, h.tr1, h.tr2, by rw [List.length_append, List.length_singleton]; have := h.capA; omega, by have := h.capN; omega, h.lo1, hp⟩
  rw [hf, h.all_, List.drop_append_of_le_length (by omega)]
theorem JF.trim {i n lo nn j : Nat} {pre : List (List ByteArray)} {cur all : List ByteArray} {tr z : Int} (h : JF i n lo nn pre cur all tr) (hj : j ≤ pre.length) (hz : j = 0 ∨ ((nn + Pl.cnt (pre.take j) : Nat) : Int) ≤ z + 1) (hz2 : z ≤ 1000000) (hp : (pre.drop j).length ≤ Pl.cnt (pre.drop j)) (hq : j ≤ Pl.cnt (pre.take j)) :
    JF (i + 1) (n + 1000) (lo + j) (nn + Pl.cnt (pre.take j)) (pre.drop j) cur all (max tr z) := by
  have h1 := cnt_split pre j
  have h2 := h.len
  have h3 := h.n1
  refine ⟨?_, by omega, by omega, by have := h.tr0; omega, by have := h.tr1; omega, ?_, by have := h.capA; omega, by have := h.capN; omega, by have := h.lo1; omega, hp⟩
  · rw [flat_drop, h.all_, List.drop_drop]
    congr 1
    omega
  · have := h.tr2
    rcases hz with rfl | hz
    · simp [Pl.cnt]; omega
    · omega
theorem Full.take {T : Pl.Md} : ∀ {pre : List (List ByteArray)} {lo n : Nat}, Pl.Full T lo n pre → ∀ j, j ≤ pre.length → j ≤ Pl.cnt (pre.take j) := by
  intro pre
  induction pre with
  | nil => intro lo n _ j hj; simp at hj; omega
  | cons c r ih =>
    intro lo n h j hj
    cases j with
    | zero => omega
    | succ j =>
      obtain ⟨⟨_, h2, _⟩, hr⟩ := h
      have hc : c ≠ [] := Pl.seg_some h2
      have h1 : 1 ≤ c.length := by cases c with | nil => exact absurd rfl hc | cons a b => simp
      have := ih hr j (by simpa using hj)
      rw [List.take_succ_cons, Pl.cnt_cons]
      omega

/-- Pairs of ints as cells. -/
def pz : List (Int × Int) → List Value
  | [] => []
  | p :: r => .int .i64 p.1 :: .int .i64 p.2 :: pz r
theorem pz_length (l : List (Int × Int)) : (pz l).length = l.length * 2 := by
  induction l with
  | nil => rfl
  | cons p r ih => simp only [pz, List.length_cons, ih]; omega
theorem pz_at0 (l : List (Int × Int)) : ∀ i (h : i < l.length), (pz l)[i * 2]? = some (.int .i64 l[i].1) := by
  induction l with
  | nil => intro i h; simp at h
  | cons p r ih =>
    intro i h
    cases i with
    | zero => rfl
    | succ i =>
      rw [pz, show (i + 1) * 2 = i * 2 + 1 + 1 from by omega, List.getElem?_cons_succ, List.getElem?_cons_succ]
      exact ih i (by simpa using h)
theorem pz_at1 (l : List (Int × Int)) : ∀ i (h : i < l.length), (pz l)[i * 2 + 1]? = some (.int .i64 l[i].2) := by
  induction l with
  | nil => intro i h; simp at h
  | cons p r ih =>
    intro i h
    cases i with
    | zero => rfl
    | succ i =>
      rw [pz, show (i + 1) * 2 + 1 = i * 2 + 1 + 1 + 1 from by omega, List.getElem?_cons_succ, List.getElem?_cons_succ]
      exact ih i (by simpa using h)
/-- Both cells of one pair. -/
theorem Rd.pz_at {w : World} {B : Nat} {A : Option Addr} {l : List (Int × Int)} (h : Rd w B A (pz l)) {i : Nat} (hi : i < l.length) :
    ∃ b off, A = some ⟨b, off, none⟩ ∧ b < B ∧ w.cell? ⟨b, off + i * 2, none⟩ = some (.int .i64 l[i].1) ∧ w.cell? ⟨b, off + i * 2 + 1, none⟩ = some (.int .i64 l[i].2) := by
  obtain ⟨b, off, e, hb, hc⟩ := h (by rw [pz_length]; omega)
  exact ⟨b, off, e, hb, hc _ _ (pz_at0 l i hi), by rw [Nat.add_assoc]; exact hc _ _ (pz_at1 l i hi)⟩

/-- The medium alone. -/
structure JM (w wr : World) (X : Nat → Prop) (b n : Nat) (s : St) (lo nn : Nat) (pre : List (List ByteArray)) (cur : List ByteArray) (all : List ByteArray) (v9 : Value) : Prop where
  m : M wr X b n s
  inv : Pl.Inv (mdT s) lo nn pre cur
  above : ∀ k, X k → w.heap.size ≤ k
  bel : Below w.heap.size w wr
  own : wr.ownsRow w.heap.size 9 1 v9 all.length (sc all)
  dis : ∀ g, v9.ownBlock = some g → ¬ X g
/-- The log too. -/
structure JL (LO : Own) (w wr : World) (X : Nat → Prop) (b bl n : Nat) (s : St) (lo nn : Nat) (pre : List (List ByteArray)) (cur : List ByteArray) (all : List ByteArray) (v9 : Value) : Prop where
  lm : LM LO wr X b bl n s lo nn pre cur
  above : ∀ k, X k → w.heap.size ≤ k
  bel : Below w.heap.size w wr
  own : wr.ownsRow w.heap.size 9 1 v9 all.length (sc all)
  dis : ∀ g, v9.ownBlock = some g → ¬ X g

theorem own_only {w w' : World} {X : Nat → Prop} {base n : Nat} {v : Value} {xs : List Value} (h : w.ownsRow base 9 1 v n xs) (ho : Only X w w') (hd : ∀ g, v.ownBlock = some g → ¬ X g) : w'.ownsRow base 9 1 v n xs := by
  refine ⟨h.1, h.2.imp id fun ⟨g, cap, cur, hv, hg, hh, hr⟩ => ⟨g, cap, cur, hv, hg, (ho.block g (lt_of_block hh) (hd g (by rw [hv]; rfl))).trans hh, hr⟩⟩
theorem own_lt {w : World} {base n : Nat} {v : Value} {xs : List Value} (h : w.ownsRow base 9 1 v n xs) : ∀ g, v.ownBlock = some g → g < w.heap.size := fun g hg => (h.lt g hg).2

section
variable {LO : Own} {w wr w' : World} {X X' : Nat → Prop} {b bl n n' : Nat} {s s' : St} {lo nn lo' nn' : Nat} {pre pre' : List (List ByteArray)} {cur cur' : List ByteArray} {all : List ByteArray} {v9 : Value}
/-- A call that turns the log alone. -/
theorem JL.step (h : JL LO w wr X b bl n s lo nn pre cur all v9) (ho : Only X wr w') (hX : ∀ k, X' k → X k ∨ wr.heap.size ≤ k) {bl' : Nat} (hl : LM LO w' X' b bl' n' s' lo' nn' pre' cur') : JL LO w w' X' b bl' n' s' lo' nn' pre' cur' all v9 :=
  ⟨hl, fun k hk => (hX k hk).elim (h.above k) (fun h' => Nat.le_trans h.bel.size h'), h.bel.trans (ho.to_below h.bel.size (fun i hi _ => h.above i hi)), own_only h.own ho h.dis,
    fun g hg hx => (hX g hx).elim (h.dis g hg) (fun h' => by have := own_lt h.own g hg; omega)⟩
theorem JL.stepM (h : JL LO w wr X b bl n s lo nn pre cur all v9) (ho : Only X wr w') (hX : ∀ k, X' k → X k ∨ wr.heap.size ≤ k) (hm : M w' X' b n' s') (hi : Pl.Inv (mdT s') lo' nn' pre' cur') : JM w w' X' b n' s' lo' nn' pre' cur' all v9 :=
  ⟨hm, hi, fun k hk => (hX k hk).elim (h.above k) (fun h' => Nat.le_trans h.bel.size h'), h.bel.trans (ho.to_below h.bel.size (fun i hi _ => h.above i hi)), own_only h.own ho h.dis,
    fun g hg hx => (hX g hx).elim (h.dis g hg) (fun h' => by have := own_lt h.own g hg; omega)⟩
theorem JL.below (C : Cons LO) (h : JL LO w wr X b bl n s lo nn pre cur all v9) (hb : Below wr.heap.size wr w') : JL LO w w' X b bl n s lo nn pre cur all v9 :=
  ⟨h.lm.below C hb, h.above, h.bel.trans (hb.mono h.bel.size), own_only h.own (Only.below hb) h.dis, h.dis⟩
theorem JL.med (h : JL LO w wr X b bl n s lo nn pre cur all v9) : ∃ Y, JM w wr Y b n s lo nn pre cur all v9 := by
  obtain ⟨Y, hm, hy, hi⟩ := h.lm.med
  exact ⟨Y, hm, hi, fun k hk => h.above k (hy k hk), h.bel, h.own, fun g hg hx => h.dis g hg (hy g hx)⟩
theorem JM.step (h : JM w wr X b n s lo nn pre cur all v9) (ho : Only X wr w') (hm : M w' X b n' s') (e : mdT s' = mdT s) : JM w w' X b n' s' lo nn pre cur all v9 :=
  ⟨hm, by rw [e]; exact h.inv, h.above, h.bel.trans (ho.to_below h.bel.size (fun i hi _ => h.above i hi)), own_only h.own ho h.dis, h.dis⟩
/-- Opened again. -/
theorem JM.opened (h : JM w wr X b n s lo nn pre cur all v9) (hb : Below wr.heap.size wr w') (hX : ∀ k, X' k → X k ∨ wr.heap.size ≤ k) (hl : LM LO w' X' b bl n s lo nn pre cur) : JL LO w w' X' b bl n s lo nn pre cur all v9 :=
  ⟨hl, fun k hk => (hX k hk).elim (h.above k) (fun h' => Nat.le_trans h.bel.size h'), h.bel.trans (hb.mono h.bel.size), own_only h.own (Only.below hb) h.dis,
    fun g hg hx => (hX g hx).elim (h.dis g hg) (fun h' => by have := own_lt h.own g hg; omega)⟩
/-- A text more in the list: its row may be a new one. -/
theorem JL.more (h : JL LO w wr X b bl n s lo nn pre cur all v9) (C : Cons LO) {d : ByteArray} {v : Value} (hg : wr.grownBy w' v9.ownBlock) (ho : w'.ownsRow w.heap.size 9 1 v (all.length + 1) (sc all ++ [.string d])) (hv : ∀ g, v.ownBlock = some g → v9.ownBlock = some g ∨ wr.heap.size ≤ g) :
    JL LO w w' X b bl n s lo nn pre cur (all ++ [d]) v := by
  have hlt : ∀ k, X k → k < wr.heap.size := fun k hk => h.lm.lt C hk
  have hkeep : ∀ k, X k → w'.heap[k]? = wr.heap[k]? := fun k hk => hg.block k (hlt k hk) (fun e => h.dis k e.symm hk)
  refine ⟨?_, h.above, h.bel.grown hg h.bel.size (fun q hq => (h.own.lt q hq).1), by rw [List.length_append, Fm.sc_append]; exact ho, fun g hg' hx => ?_⟩
  · obtain ⟨Y, Z, hm, hl, hd, hX, hi⟩ := h.lm
    exact ⟨Y, Z, hm.keptB (fun k hk => hkeep k ((hX k).2 (.inl hk))), C.kept hl (fun k hk => hkeep k ((hX k).2 (.inr hk))), hd, hX, hi⟩
  · rcases hv g hg' with h1 | h1
    · exact h.dis g h1 hx
    · have := hlt g hx; omega
end
end Go.Proofs.Ytcmeaeemjecjiaa
