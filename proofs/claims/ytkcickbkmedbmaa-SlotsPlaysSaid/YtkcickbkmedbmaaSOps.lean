/-
  THE LAWS' CALLS ('Op'), six cells each: how a slice of them reads; an argument that is one, opened.
-/
import Derived.Test.YtkcickbkmedbmaaSRow
import Derived.Deep.Slices
import Derived.Deep.Fields
namespace Go.Proofs.Ytkcickbkmedbmaa
open Go.ChangeShapes Go.WideShapes Go.Deep Go.RowKit Go.Joins

structure Cl6 where
  ask : Int
  num : Int
  size : Int
  byte : Int
  left : Int
  at_ : Int
def Cl6.vs (o : Cl6) : List Value := [.int .i64 o.ask, .int .i64 o.num, .int .i64 o.size, .int .i64 o.byte, .int .i64 o.left, .int .i64 o.at_]
structure Cl6.Ok (o : Cl6) : Prop where
  ask : Wf o.ask
  num : Wf o.num
  size : Wf o.size
  byte : Wf o.byte
  left : Wf o.left
  at_ : Wf o.at_
/-- Calls as cells. -/
def oc (l : List Cl6) : List Value := l.flatMap Cl6.vs
theorem oc_cons (o : Cl6) (l : List Cl6) : oc (o :: l) = o.vs ++ oc l := rfl
theorem oc_length (l : List Cl6) : (oc l).length = l.length * 6 := by
  induction l with
  | nil => rfl
  | cons o l ih => rw [oc_cons, List.length_append, ih]; simp [Cl6.vs]; omega
theorem oc_at (l : List Cl6) (i j : Nat) (h : i < l.length) (hj : j < 6) : (oc l)[i * 6 + j]? = l[i].vs[j]? := by
  induction l generalizing i with
  | nil => simp at h
  | cons o l ih =>
    rw [oc_cons]
    cases i with
    | zero => rw [List.getElem?_append_left (by simp [Cl6.vs]; omega)]; simp
    | succ i =>
      rw [List.getElem?_append_right (by simp [Cl6.vs]; omega), show (i + 1) * 6 + j - o.vs.length = i * 6 + j from by simp [Cl6.vs]; omega]
      exact ih i (by simpa using h)

/-- One call's six cells, at its place. -/
theorem Rd.call {w : World} {B : Nat} {A : Option Addr} {l : List Cl6} (h : Rd w B A (oc l)) {i : Nat} (hi : i < l.length) :
    ∃ b off, A = some ⟨b, off, none⟩ ∧ b < B ∧ ∀ j (hj : j < l.length),
      w.cell? ⟨b, off + j * 6, none⟩ = some (.int .i64 l[j].ask) ∧ w.cell? ⟨b, off + j * 6 + 1, none⟩ = some (.int .i64 l[j].num) ∧ w.cell? ⟨b, off + j * 6 + 2, none⟩ = some (.int .i64 l[j].size) ∧
      w.cell? ⟨b, off + j * 6 + 3, none⟩ = some (.int .i64 l[j].byte) ∧ w.cell? ⟨b, off + j * 6 + 4, none⟩ = some (.int .i64 l[j].left) ∧ w.cell? ⟨b, off + j * 6 + 5, none⟩ = some (.int .i64 l[j].at_) := by
  obtain ⟨b, off, e, hb, hc⟩ := h (by rw [oc_length]; omega)
  refine ⟨b, off, e, hb, fun j hj => ?_⟩
  have g : ∀ k, k < 6 → ∀ u, l[j].vs[k]? = some u → w.cell? ⟨b, off + j * 6 + k, none⟩ = some u := fun k hk u hu => by
    rw [Nat.add_assoc]; exact hc _ _ ((oc_at l j k hj hk).trans hu)
  exact ⟨g 0 (by omega) _ rfl, g 1 (by omega) _ rfl, g 2 (by omega) _ rfl, g 3 (by omega) _ rfl, g 4 (by omega) _ rfl, g 5 (by omega) _ rfl⟩

theorem undOps : Try.prog.underlying 22 = some (.slice 28) := Try.underlying22
theorem bytesO : Try.prog.bytesOf 28 = 48 := by kernel_rfl
theorem cellsO : Try.prog.cellsOf 28 = 6 := by kernel_rfl
theorem cellsI : Try.prog.cellsOf 3 = 1 := by kernel_rfl

section
variable {H : Type} {enc : TypeId × Value → H} {W : World}

theorem one_of {cs : List Value} {j : Nat} (h : j < cs.length) : (cs.drop j).take 1 = [cs[j]] := by
  rw [List.drop_eq_getElem_cons h]; rfl

theorem ops_in {A : Option Addr} {len cap : Nat} {d : DataW H} {p : List MemPlace} (h : DataW.Trod enc Try.prog W 0 (fun _ => true) true 22 (.slice A len cap) d p) :
    ∃ l : List Cl6, len = l.length ∧ len ≤ cap ∧ cap ≤ 9223372036854775807 ∧ Rd W W.heap.size A (oc l) ∧ (∀ o ∈ l, o.Ok) ∧ (len = 0 ∨ ∃ elems spare, d = .slice elems spare ∧ elems.length = len) := by
  obtain ⟨fuel, hf⟩ := h
  rcases open_slice undOps (by simpa [Value.cells] using hf) with ⟨hcs, _⟩ | ⟨a, n, c, m, fu, D, Pl, hcs, _, hnc, hc, hm, hx, hi⟩
  · simp at hcs
    obtain ⟨rfl, rfl, rfl⟩ := hcs
    exact ⟨[], rfl, by omega, by omega, Rd.none_, (fun p hp => by cases hp), .inl rfl⟩
  · simp at hcs
    obtain ⟨rfl, rfl, rfl⟩ := hcs
    simp at hm
    subst hm
    have hs : ∀ i, i < len → ∃ q : Cl6, q.Ok ∧ ∀ k, k < 6 → ∀ u, q.vs[k]? = some u → W.cell? (a.add (i * 6 + k)) = some u := fun i hil => by
      obtain ⟨cs, hcc, ht⟩ := hi i (by omega)
      rw [cellsO] at hcc
      obtain ⟨ys, n', _, _, _, hyl, hg⟩ := DataW.trod_struct Try.underlying28 ht
      obtain ⟨_, hcl, hat⟩ := World.cells?_some hcc
      have h6 : cs.length = 6 := hcl
      have f0 : DataW.trod enc Try.prog W 0 (fun _ => true) true n' 3 ((cs.drop 0).take (Try.prog.cellsOf 3)) = ys[0]? := hg 0 _ rfl
      have f1 : DataW.trod enc Try.prog W 0 (fun _ => true) true n' 3 ((cs.drop 1).take (Try.prog.cellsOf 3)) = ys[1]? := hg 1 _ rfl
      have f2 : DataW.trod enc Try.prog W 0 (fun _ => true) true n' 3 ((cs.drop 2).take (Try.prog.cellsOf 3)) = ys[2]? := hg 2 _ rfl
      have f3 : DataW.trod enc Try.prog W 0 (fun _ => true) true n' 3 ((cs.drop 3).take (Try.prog.cellsOf 3)) = ys[3]? := hg 3 _ rfl
      have f4 : DataW.trod enc Try.prog W 0 (fun _ => true) true n' 3 ((cs.drop 4).take (Try.prog.cellsOf 3)) = ys[4]? := hg 4 _ rfl
      have f5 : DataW.trod enc Try.prog W 0 (fun _ => true) true n' 3 ((cs.drop 5).take (Try.prog.cellsOf 3)) = ys[5]? := hg 5 _ rfl
      rw [cellsI] at f0 f1 f2 f3 f4 f5
      rw [one_of (by omega)] at f0 f1 f2 f3 f4 f5
      have hy6 : ys.length = 6 := hyl
      obtain ⟨y0, hy0⟩ : ∃ y, ys[0]? = some y := ⟨_, List.getElem?_eq_getElem (by omega)⟩
      rw [hy0] at f0
      obtain ⟨y1, hy1⟩ : ∃ y, ys[1]? = some y := ⟨_, List.getElem?_eq_getElem (by omega)⟩
      rw [hy1] at f1
      obtain ⟨y2, hy2⟩ : ∃ y, ys[2]? = some y := ⟨_, List.getElem?_eq_getElem (by omega)⟩
      rw [hy2] at f2
      obtain ⟨y3, hy3⟩ : ∃ y, ys[3]? = some y := ⟨_, List.getElem?_eq_getElem (by omega)⟩
      rw [hy3] at f3
      obtain ⟨y4, hy4⟩ : ∃ y, ys[4]? = some y := ⟨_, List.getElem?_eq_getElem (by omega)⟩
      rw [hy4] at f4
      obtain ⟨y5, hy5⟩ : ∃ y, ys[5]? = some y := ⟨_, List.getElem?_eq_getElem (by omega)⟩
      rw [hy5] at f5
      obtain ⟨z0, e0, _, w0⟩ := DataW.trod_int Try.underlying3 f0
      obtain ⟨z1, e1, _, w1⟩ := DataW.trod_int Try.underlying3 f1
      obtain ⟨z2, e2, _, w2⟩ := DataW.trod_int Try.underlying3 f2
      obtain ⟨z3, e3, _, w3⟩ := DataW.trod_int Try.underlying3 f3
      obtain ⟨z4, e4, _, w4⟩ := DataW.trod_int Try.underlying3 f4
      obtain ⟨z5, e5, _, w5⟩ := DataW.trod_int Try.underlying3 f5
      refine ⟨⟨z0, z1, z2, z3, z4, z5⟩, ⟨Wf.of_lit w0, Wf.of_lit w1, Wf.of_lit w2, Wf.of_lit w3, Wf.of_lit w4, Wf.of_lit w5⟩, fun k hk u hu => ?_⟩
      rw [← Go.Deep.add_add, hat k hk]
      simp at e0 e1 e2 e3 e4 e5
      rw [List.getElem?_eq_getElem (by omega)]
      match k, hk, hu with
      | 0, _, hu => simp [Cl6.vs] at hu; rw [← hu, e0]
      | 1, _, hu => simp [Cl6.vs] at hu; rw [← hu, e1]
      | 2, _, hu => simp [Cl6.vs] at hu; rw [← hu, e2]
      | 3, _, hu => simp [Cl6.vs] at hu; rw [← hu, e3]
      | 4, _, hu => simp [Cl6.vs] at hu; rw [← hu, e4]
      | 5, _, hu => simp [Cl6.vs] at hu; rw [← hu, e5]
    obtain ⟨f, hf'⟩ : ∃ f : Nat → Cl6, ∀ i, i < len → (f i).Ok ∧ ∀ k, k < 6 → ∀ u, (f i).vs[k]? = some u → W.cell? (a.add (i * 6 + k)) = some u := by
      refine ⟨fun i => if h : i < len then Classical.choose (hs i h) else ⟨0, 0, 0, 0, 0, 0⟩, fun i h => ?_⟩
      simp only [h, dite_true]
      exact Classical.choose_spec (hs i h)
    refine ⟨(List.range len).map f, by simp, hnc, by simpa [maxLen] using hc, ?_, ?_, .inr ⟨_, _, (Prod.mk.inj hx).1, by simp⟩⟩
    · intro hpos
      rw [oc_length] at hpos
      simp at hpos
      have hc0 := (hf' 0 (by omega)).2 0 (by omega) _ rfl
      obtain ⟨b, off, spot⟩ := a
      have hspot : spot = none := by simpa [Addr.add] using World.cell?_spot hc0
      subst hspot
      have hb := World.block_lt_of_cell? W _ hc0
      refine ⟨b, off, rfl, by simpa [Addr.add] using hb, fun j u hu => ?_⟩
      have hj : j < len * 6 := by
        have := (List.getElem?_eq_some_iff.1 hu).1
        rw [oc_length] at this
        simpa using this
      have hj2 : j / 6 < ((List.range len).map f).length := by simp; omega
      have ej : j = j / 6 * 6 + j % 6 := by omega
      rw [ej, oc_at _ _ _ hj2 (by omega)] at hu
      have := (hf' (j / 6) (by omega)).2 (j % 6) (by omega) u (by simpa using hu)
      rw [Addr.add_lit] at this
      rw [ej]
      exact this
    · intro o ho
      obtain ⟨i, hi, rfl⟩ := List.mem_map.1 ho
      exact (hf' i (by simpa using hi)).1
end
end Go.Proofs.Ytkcickbkmedbmaa
