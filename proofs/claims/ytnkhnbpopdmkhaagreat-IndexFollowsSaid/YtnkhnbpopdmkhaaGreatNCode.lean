/-
  WHAT byItem's loop keeps: the map of lists, the map of twins, up to the k-th quant.
  CONTRACT of the code's byItem. (By wip/tools/gen_ncode.py.)
  WHAT Follow's loops keep: a range over a map by keys; an item's list renewed; stands are as a machine holds them.
  CONTRACT of the code's Follow. (By wip/tools/gen_ncode.py.)
  THE CODE's contracts, together.
  (By wip/tools/merge.py.)
-/
import Derived.Test.YtnkhnbpopdmkhaaGreatNUpd
import Derived.Test.YtnkhnbpopdmkhaaGreatNIx
import Derived.Test.YtnkhnbpopdmkhaaGreatWCon
import Derived.Test.YtnkhnbpopdmkhaaGreatNElig
import Derived.Test.YtnkhnbpopdmkhaaGreatWRefA
import Derived.Test.YtnkhnbpopdmkhaaGreatHAppK
import Derived.Test.YtnkhnbpopdmkhaaGreatHLastN
import Derived.Test.YtnkhnbpopdmkhaaGreatNRow
import Derived.Deep.CutRange
import Derived.Carry
import Derived.Test.YtnkhnbpopdmkhaaGreatKL
import Derived.Sort.MapsRangeIn
import Derived.Maps.RangeWalk
import Derived.Test.YtnkhnbpopdmkhaaGreatNNaive
namespace Go.Proofs.YtnkhnbpopdmkhaaGreat
set_option linter.unusedVariables false
open Go.RowKit Go.Maps

/-- An item's stands among the first k quants. -/
def idxK (L : Nat → List (List Value)) (item : ByteArray) (k : Nat) : List (List Value) := ((List.range k).filter (elN L item)).map (stA L (twN L))
theorem idxK_succ (L : Nat → List (List Value)) (item : ByteArray) (k : Nat) : idxK L item (k + 1) = idxK L item k ++ if elN L item k = true then [stA L (twN L) k] else [] := by
  unfold idxK
  rw [List.range_succ, List.filter_append, List.map_append]
  congr 1
  by_cases h : elN L item k = true
  · rw [if_pos h]; simp only [List.filter_cons, h, if_true]; rfl
  · rw [if_neg h]; simp only [List.filter_cons, h]; rfl
theorem idxK_all (L : Nat → List (List Value)) (item : ByteArray) : idxK L item (L 4).length = idxM L item := rfl
theorem idxK_len (L : Nat → List (List Value)) (item : ByteArray) (k : Nat) : (idxK L item k).length ≤ k := by
  unfold idxK
  rw [List.length_map]
  refine Nat.le_trans (List.length_filter_le _ _) ?_
  rw [List.length_range]; exact Nat.le_refl _
theorem idxK_things (L : Nat → List (List Value)) (item : ByteArray) (k : Nat) : Things kstand (idxK L item k) := things_st _ _ _
/-- What the maps hold behind k quants. -/
structure ByF (L : Nat → List (List Value)) (B0 mbL mbT k : Nat) (W : World) (f ft : Lit → Option Value) (G C : ByteArray → Nat) : Prop where
  gl : GM 9 W mbL k f
  gt : GM kyT W mbT k ft
  tw : ∀ ky : Ky, ky.mild → ft (kk ky) = if cntK L ky k = 0 then none else some (.int .i64 (cntK L ky k : Nat))
  no : ∀ s, idxK L s k = [] → f (sk s) = none
  yes : ∀ s, idxK L s k ≠ [] → f (sk s) = some (.slice (some ⟨G s, 0, none⟩) (idxK L s k).length (C s)) ∧ RowS W (G s) (C s) (idxK L s k) ∧ B0 ≤ G s
  inj : ∀ s t, idxK L s k ≠ [] → idxK L t k ≠ [] → G s = G t → s = t
def ByI (L : Nat → List (List Value)) (B0 mbL mbT k : Nat) (W : World) : Prop := ∃ f ft G C, ByF L B0 mbL mbT k W f ft G C
theorem cntK_zero (L : Nat → List (List Value)) (ky : Ky) : cntK L ky 0 = 0 := by unfold cntK; simp
theorem ByI.start {L : Nat → List (List Value)} {B0 mbL mbT : Nat} {W : World} (h1 : GM 9 W mbL 0 (fun _ => none)) (h2 : GM kyT W mbT 0 (fun _ => none)) : ByI L B0 mbL mbT 0 W :=
  ⟨_, _, fun _ => 0, fun _ => 0, h1, h2, fun ky _ => by rw [if_pos (cntK_zero L ky)], fun _ _ => rfl, fun s h => absurd rfl h, fun s t h => absurd rfl h⟩
theorem row_keep {w w' : World} {g c : Nat} {S : List (List Value)} (h : RowS w g c S) (e : w'.heap[g]? = w.heap[g]?) : RowS w' g c S := row_kept h e
theorem ByI.skip {L : Nat → List (List Value)} {B0 mbL mbT k : Nat} {W W' : World} (h : ByI L B0 mbL mbT k W) (hk : k < (L 4).length) (he : elB (L 2) (L 3) (qA (L 4) k) = false) (hb : Below W.heap.size W W') : ByI L B0 mbL mbT (k + 1) W' := by
  obtain ⟨f, ft, G, C, h⟩ := h
  have e1 : ∀ s, idxK L s (k + 1) = idxK L s k := fun s => by rw [idxK_succ, if_neg (by unfold elN; rw [he]; simp), List.append_nil]
  have e2 : ∀ ky, cntK L ky (k + 1) = cntK L ky k := fun ky => by rw [cntK_succ L ky hk, if_neg (by rw [he]; simp)]; omega
  exact ⟨f, ft, G, C, (h.gl.kept (hb.block _ h.gl.lt)).mono (Nat.le_succ k), (h.gt.kept (hb.block _ h.gt.lt)).mono (Nat.le_succ k), fun ky m => by rw [e2]; exact h.tw ky m, fun s hs => by rw [e1] at hs; exact h.no s hs,
    fun s hs => by rw [e1] at hs ⊢; exact ⟨(h.yes s hs).1, row_keep (h.yes s hs).2.1 (hb.block _ (own_ltS (h.yes s hs).2.1)), (h.yes s hs).2.2⟩, fun s t hs ht => by rw [e1] at hs ht; exact h.inj s t hs ht⟩
theorem ByF.step {L : Nat → List (List Value)} {B0 mbL mbT k g' c' : Nat} {W W' : World} {f ft : Lit → Option Value} {G C : ByteArray → Nat} (h : ByF L B0 mbL mbT k W f ft G C) (hk : k < (L 4).length) {s0 : ByteArray} (hs0 : (qnOf (qA (L 4) k)).item = s0) (he : elB (L 2) (L 3) (qA (L 4) k) = true) (hm : (qnOf (qA (L 4) k)).ky.mild)
    (e1 : GM 9 W' mbL (k + 1) (updL f (sk s0) (some (.slice (some ⟨g', 0, none⟩) ((idxK L s0 k).length + 1) c')))) (e2 : GM kyT W' mbT (k + 1) (updL ft (kk (qnOf (qA (L 4) k)).ky) (some (.int .i64 ((cntK L (qnOf (qA (L 4) k)).ky k + 1 : Nat) : Int)))))
    (e3 : RowS W' g' c' (idxK L s0 k ++ [stA L (twN L) k])) (e4 : ∀ s, s ≠ s0 → idxK L s k ≠ [] → W'.heap[G s]? = W.heap[G s]?) (e5 : B0 ≤ g') (e6 : ∀ s, s ≠ s0 → idxK L s k ≠ [] → G s ≠ g') : ByI L B0 mbL mbT (k + 1) W' := by
  have el : ∀ s, elN L s k = Pl.eqv s0 s := fun s => by unfold elN itB; rw [he, hs0, Bool.and_true]
  have i0 : idxK L s0 (k + 1) = idxK L s0 k ++ [stA L (twN L) k] := by rw [idxK_succ, if_pos (by rw [el]; exact (Pl.eqv_iff _ _).2 rfl)]
  have i1 : ∀ s, s ≠ s0 → idxK L s (k + 1) = idxK L s k := fun s hs => by
    rw [idxK_succ, if_neg (by rw [el]; intro e; exact hs ((Pl.eqv_iff _ _).1 e).symm), List.append_nil]
  have u1 : ∀ s, s ≠ s0 → updL f (sk s0) (some (.slice (some ⟨g', 0, none⟩) ((idxK L s0 k).length + 1) c')) (sk s) = f (sk s) := fun s hs => updL_other (sk_key s0) (fun e => hs (sk_inj e))
  refine ⟨_, _, fun s => if Pl.eqv s s0 = true then g' else G s, fun s => if Pl.eqv s s0 = true then c' else C s, e1, e2, fun ky m => ?_, fun s hs => ?_, fun s hs => ?_, fun s t hs ht => ?_⟩
  · rw [cntK_succ L ky hk, he]
    simp only [Bool.true_and]
    by_cases hky : ky = (qnOf (qA (L 4) k)).ky
    · subst hky
      rw [if_pos (isKy_iff.2 rfl), updL_same _ (by trivial), if_neg (by omega)]
    · rw [if_neg (fun e => hky (isKy_iff.1 e).symm), updL_other (by trivial) (fun e => hky (kk_inj m hm e)), Nat.add_zero]
      exact h.tw ky m
  · by_cases e : s = s0
    · subst e; rw [i0] at hs; simp at hs
    · rw [u1 s e]; rw [i1 s e] at hs; exact h.no s hs
  · by_cases e : s = s0
    · subst e
      have hv : Pl.eqv s s = true := (Pl.eqv_iff _ _).2 rfl
      simp only [hv, if_true]
      rw [i0, updL_same _ (sk_key s)]
      exact ⟨by rw [List.length_append]; rfl, e3, e5⟩
    · have hv : ¬ Pl.eqv s s0 = true := fun q => e ((Pl.eqv_iff _ _).1 q)
      simp only [if_neg hv]
      rw [i1 s e] at hs ⊢
      rw [u1 s e]
      exact ⟨(h.yes s hs).1, row_keep (h.yes s hs).2.1 (e4 s e hs), (h.yes s hs).2.2⟩
  · by_cases es : s = s0 <;> by_cases et : t = s0
    · exact fun _ => es.trans et.symm
    · subst es
      have hv : Pl.eqv s s = true := (Pl.eqv_iff _ _).2 rfl
      have hw : ¬ Pl.eqv t s = true := fun q => et ((Pl.eqv_iff _ _).1 q)
      rw [i1 t et] at ht
      simp only [hv, if_true, if_neg hw]
      exact fun q => absurd q.symm (e6 t et ht)
    · subst et
      have hv : Pl.eqv t t = true := (Pl.eqv_iff _ _).2 rfl
      have hw : ¬ Pl.eqv s t = true := fun q => es ((Pl.eqv_iff _ _).1 q)
      rw [i1 s es] at hs
      simp only [hv, if_true, if_neg hw]
      exact fun q => absurd q (e6 s es hs)
    · have hv : ¬ Pl.eqv t s0 = true := fun q => et ((Pl.eqv_iff _ _).1 q)
      have hw : ¬ Pl.eqv s s0 = true := fun q => es ((Pl.eqv_iff _ _).1 q)
      rw [i1 s es] at hs
      rw [i1 t et] at ht
      simp only [if_neg hv, if_neg hw]
      exact h.inj s t hs ht
theorem grown_below {w w' : World} {row : Option Nat} {B : Nat} (h : w.grownBy w' row) (hB : B ≤ w.heap.size) (hr : ∀ j, row = some j → B ≤ j) : Below B w w' :=
  ⟨h.os, h.tape, h.output, h.size, fun i hi => h.block i (by omega) (fun e => by have := hr i e.symm; omega)⟩
theorem ByF.close {L : Nat → List (List Value)} {B0 mbL mbT k n c c' : Nat} {A A' : Option Addr} {W W4 W6 W7 W8 W9 : World} {f ft : Lit → Option Value} {G C : ByteArray → Nat} (h : ByF L B0 mbL mbT k W f ft G C) (hk : k < (L 4).length) {s0 : ByteArray} (hs0 : (qnOf (qA (L 4) k)).item = s0) (he : elB (L 2) (L 3) (qA (L 4) k) = true) (hm : (qnOf (qA (L 4) k)).ky.mild)
    (b1 : mbL < B0) (b2 : mbT < B0) (b3 : mbL ≠ mbT) (b4 : B0 ≤ W.heap.size) (h4 : ∀ j, j < W.heap.size → W4.heap[j]? = W.heap[j]?) (h4s : W.heap.size ≤ W4.heap.size) (h6 : W4.mapTurned W6 mbT)
    (hg6 : GM kyT W6 mbT (k + 1) (updL ft (kk (qnOf (qA (L 4) k)).ky) (some (.int .i64 ((cntK L (qnOf (qA (L 4) k)).ky k + 1 : Nat) : Int))))) (h7 : Below W6.heap.size W6 W7) (hA : A = none ∧ idxK L s0 k = [] ∨ A = some ⟨G s0, 0, none⟩ ∧ idxK L s0 k ≠ []) (h8 : W7.grownBy W8 (Value.slice A n c).ownBlock)
    (hb : (Value.slice A' ((idxK L s0 k).length + 1) c').ownBlock = (Value.slice A n c).ownBlock ∨ (Value.slice A' ((idxK L s0 k).length + 1) c').ownBlock = some W7.heap.size) (hown : W8.ownsRow 0 112 8 (.slice A' ((idxK L s0 k).length + 1) c') ((idxK L s0 k).length + 1) ((idxK L s0 k).flatten ++ stA L (twN L) k))
    (hg9 : GM 9 W9 mbL (k + 1) (updL f (sk s0) (some (.slice A' ((idxK L s0 k).length + 1) c')))) (h9 : W8.mapTurned W9 mbL) : ByI L B0 mbL mbT (k + 1) W9 := by
  have t6 := h6.grown
  have t9 := h9.grown
  have s6 := t6.size
  have s7 := h7.size
  have s8 := h8.size
  have s9 := t9.size
  obtain ⟨g', rfl⟩ : ∃ g', A' = some ⟨g', 0, none⟩ := by
    rcases hown.2 with ⟨_, h0⟩ | ⟨g, cap, cur, hv, _⟩
    · omega
    · injection hv with hv _ _; exact ⟨g, hv⟩
  have hlt : ∀ s, idxK L s k ≠ [] → G s < W.heap.size := fun s hs => own_ltS (h.yes s hs).2.1
  have hge : ∀ s, idxK L s k ≠ [] → B0 ≤ G s := fun s hs => (h.yes s hs).2.2
  have hAb : ∀ j, some j = (Value.slice A n c).ownBlock → j = G s0 ∧ idxK L s0 k ≠ [] := fun j hj => by
    rcases hA with ⟨rfl, _⟩ | ⟨rfl, h2⟩
    · simp [Value.ownBlock] at hj
    · simp only [Value.ownBlock, Option.some.injEq] at hj; exact ⟨hj, h2⟩
  have hg' : g' = G s0 ∧ idxK L s0 k ≠ [] ∨ g' = W7.heap.size := by
    rcases hb with hb | hb
    · exact .inl (hAb g' (by rw [← hb]; rfl))
    · right; simpa [Value.ownBlock] using hb
  have hk6 : ∀ j, j < W.heap.size → j ≠ mbT → W6.heap[j]? = W.heap[j]? := fun j hj hne => (t6.block j (by omega) (fun e => hne (by injection e))).trans (h4 j hj)
  have hk8 : ∀ j, j < W6.heap.size → (idxK L s0 k ≠ [] → j ≠ G s0) → W8.heap[j]? = W6.heap[j]? := fun j hj hne => (h8.block j (by omega) (fun e => hne (hAb j e).2 (hAb j e).1)).trans (h7.block j hj)
  have hk9 : ∀ j, j < W8.heap.size → j ≠ mbL → W9.heap[j]? = W8.heap[j]? := fun j hj hne => t9.block j hj (fun e => hne (by injection e))
  have hgL : g' ≠ mbL := by
    rcases hg' with ⟨e, h1⟩ | e
    · have := hge s0 h1; omega
    · omega
  refine h.step hk hs0 he hm hg9 (hg6.kept ((hk9 _ (by omega) (Ne.symm b3)).trans (hk8 _ (by omega) (fun h1 e => by have := hge s0 h1; omega)))) ?_ (fun s hs hne => ?_) ?_ (fun s hs hne => ?_)
  · have hl : ((idxK L s0 k ++ [stA L (twN L) k]).length) = (idxK L s0 k).length + 1 := by rw [List.length_append]; rfl
    have hf : (idxK L s0 k ++ [stA L (twN L) k]).flatten = (idxK L s0 k).flatten ++ stA L (twN L) k := by rw [List.flatten_append]; simp
    unfold RowS
    rw [hl, hf]
    exact row_kept hown (hk9 _ (own_ltS hown) hgL)
  · have h1 := hlt s hne
    have h2 := hge s hne
    exact ((hk9 _ (by omega) (by omega)).trans (hk8 _ (by omega) (fun h3 e => hs (h.inj s s0 hne h3 e)))).trans (hk6 _ h1 (by omega))
  · rcases hg' with ⟨e, h1⟩ | e
    · rw [e]; exact hge s0 h1
    · omega
  · rcases hg' with ⟨e, h1⟩ | e
    · rw [e]; exact fun q => hs (h.inj s s0 hne h1 q)
    · have := hlt s hne; omega
/-- What byItem hands back. -/
def ByP (L : Nat → List (List Value)) (w : World) (e : Ending) (w' : World) : Prop :=
  ∃ (mb : Nat) (f : Lit → Option Value) (G C : ByteArray → Nat), e = .returned (.map (some mb)) ∧ GM 9 w' mb 1000 f ∧ w.heap.size ≤ mb ∧
    (∀ s, idxM L s = [] → f (sk s) = none) ∧ (∀ s, idxM L s ≠ [] → f (sk s) = some (.slice (some ⟨G s, 0, none⟩) (idxM L s).length (C s)) ∧ RowS w' (G s) (C s) (idxM L s) ∧ w.heap.size ≤ G s) ∧ Below w.heap.size w w'
/-! ### what a house holds is as a machine holds it -/
theorem wf_mild {z : Int} (h : Mild (.int .i64 z)) : Wf z := by
  have h : (Lit.int .i64 z).wf = true := h
  have hlo : IntKind.i64.min = -9223372036854775808 := by decide
  have hhi : IntKind.i64.max = 9223372036854775807 := by decide
  simp [Lit.wf, hlo, hhi] at h; exact h
theorem mild_q {L : Nat → List (List Value)} (hm : MildL L) {i : Nat} (hi : i < (L 4).length) (ht : Fits kQuant (qA (L 4) i)) : (qnOf (qA (L 4) i)).ky.mild ∧ Wf (qnOf (qA (L 4) i)).st := by
  have h1 := hm 4 (by decide) (qA (L 4) i) (by rw [qA_at _ _ hi]; exact List.getElem_mem hi)
  have h2 := qn_cells ht
  obtain ⟨x, hx⟩ : ∃ x, qnOf (qA (L 4) i) = x := ⟨_, rfl⟩
  rw [hx] at h2 ⊢
  rw [h2] at h1
  unfold Qn.cells at h1
  have a1 := h1 (.string x.bin) (by simp)
  have a2 := h1 (.string x.item) (by simp)
  have a3 := h1 (.string x.lot) (by simp)
  have a4 := h1 (.int .i64 x.st) (by simp)
  have w4 : Wf x.st := wf_mild a4
  exact ⟨⟨a1, a2, a3, w4⟩, w4⟩
end Go.Proofs.YtnkhnbpopdmkhaaGreat

namespace Go.Proofs.YtnkhnbpopdmkhaaGreat
set_option linter.unusedVariables false
open Go.RowKit
open Pl (firstG findG putG It firstG_none firstG_some)

open Go.Maps
set_option maxRecDepth 100000 in
set_option maxHeartbeats 6400000 in
theorem cby (h : Hs) (L : Nat → List (List Value)) (w : World) (hh : HT h L w) (hn6 : h.n 4 ≤ 1000) (hm : MildL L) :
    Calls Tryz.prog 39 #[.agg h.cells] w (ByP L w) := by
  obtain ⟨i0, z0, hi0, hz0, hz1, hz2, hz3⟩ := info_thing (P := Tryz.prog) (T := 112) (sz := 8) (by kernel_rfl)
  have hby : ∀ x, x ≤ 1000000 → x * i0.bytes ≤ 140737488355328 := fun x hx => Nat.le_trans (Nat.mul_le_mul hx hz3) (by decide)
  have HBY := Lib.hid hby
  clear hby
  have huS := Tryz.underlying112
  have huq := Tryz.underlying58
  have HS8 : Hid (∀ x : List Value, x.length = 8 → (Tryz.prog.info? 112).map (·.size) = some x.toArray.size) := Lib.hid (fun x hx => by rw [List.size_toArray, hx]; kernel_rfl)
  have HSQ6 : Hid ((Tryz.prog.info? 58).map (·.size) = some 6) := Lib.hid (by kernel_rfl)
  have HQ1 : Hid (∀ (a b c : ByteArray) (d e f : Int), (#[.string a, .string b, .string c, .int .i64 d, .int .i64 e, .int .i64 f] : Array Value).all (·.oneCell') = true) := Lib.hid (fun _ _ _ _ _ _ => by simp [Value.oneCell'])
  have HQS : Hid (∀ (a b c : ByteArray) (d e f : Int), (Tryz.prog.info? 58).map (·.size) = some (#[.string a, .string b, .string c, .int .i64 d, .int .i64 e, .int .i64 f] : Array Value).size) := Lib.hid (fun _ _ _ _ _ _ => by kernel_rfl)
  have huk := Tryz.underlying56
  have HSK4 : Hid ((Tryz.prog.info? 56).map (·.size) = some 4) := Lib.hid (by kernel_rfl)
  have huh := Tryz.underlying37
  have HSH : Hid (∀ a : Hs, (Tryz.prog.info? 37).map (·.size) = some a.cells.size) := Lib.hid (fun a => by kernel_rfl)
  have hmm := @run_makeMap Tryz.prog
  have HHT := Lib.hid hh
  have HMI := Lib.hid hm
  obtain ⟨m, hmm2⟩ : ∃ m, h.n 4 = m := ⟨_, rfl⟩
  have HNM : Hid (m = (L 4).length) := Lib.hid (by rw [← hmm2]; exact (hh 4 (by decide)).1)
  rw [hmm2] at hn6
  have HMM := Lib.hid hmm2
  clear hmm2
  obtain ⟨A0, hA0⟩ : ∃ A, h.A 4 = A := ⟨_, rfl⟩
  have HA0 := Lib.hid hA0
  clear hA0
  obtain ⟨W0, hW0⟩ : ∃ W, W = ((w.alloc (.cells h.cells 37)).alloc (.map #[] 0)).alloc (.map #[] 0) := ⟨_, rfl⟩
  have hb0 : Below w.heap.size w W0 := by rw [hW0]; exact (((Below.refl _ _).alloc (Nat.le_refl _) _).alloc (by simp) _).alloc (by simp <;> omega) _
  have HB0 := Lib.hid hb0
  have HS0 : Hid (W0.heap.size = w.heap.size + 3) := Lib.hid (by rw [hW0]; simp)
  have HH0 : Hid (W0.heap[w.heap.size]? = some (.cells h.cells 37 (0, 0))) := Lib.hid (by
    rw [hW0]
    exact (Below.heap_alloc _ _ _ (by simp <;> omega)).trans ((Below.heap_alloc _ _ _ (by simp)).trans (heap_alloc_new w _)))
  have HI0 : Hid (ByI L (w.heap.size + 3) (w.heap.size + 1) (w.heap.size + 2) 0 W0) := Lib.hid (ByI.start (by
    have hg := GM.made 9 (w.alloc (.cells h.cells 37)) 0
    have e : (w.alloc (.cells h.cells 37)).heap.size = w.heap.size + 1 := by simp
    rw [e] at hg
    exact hg.kept (by rw [hW0]; exact Below.heap_alloc _ _ _ (by simp))) (by
    have hg := GM.made kyT ((w.alloc (.cells h.cells 37)).alloc (.map #[] 0)) 0
    have e : ((w.alloc (.cells h.cells 37)).alloc (.map #[] 0)).heap.size = w.heap.size + 2 := by simp
    rw [e] at hg
    rw [hW0]; exact hg))
  have HWE := Lib.hid hW0
  have d4 : W0.cell? ⟨w.heap.size, 4, none⟩ = some (.slice A0 m (h.c 4)) := by rw [cell_of_block HH0.out, ← HMM.out, ← HA0.out]; rfl
  have dlt := lt_of_block HH0.out
  clear hb0 hW0 hh hm
  go_enter Tryz.func39, Tryz.ntmps39
  go_upto_region 2 with fail
  rw [← HWE.out]
  go_wp2_with fail
  clear d4 dlt hmm
  go_loopw [14] (fun iv wr => ∃ k : Nat, k ≤ m ∧ iv = .int .i64 (k : Int) ∧ Hid (ByI L (w.heap.size + 3) (w.heap.size + 1) (w.heap.size + 2) k wr) ∧ Hid (wr.heap[w.heap.size]? = some (.cells h.cells 37 (0, 0))) ∧ Hid (Below w.heap.size w wr) ∧ Hid (w.heap.size + 3 ≤ wr.heap.size)) (fun iv _ => m - (intOf iv).toNat)
  case atStart => exact ⟨0, by omega, rfl, HI0, HH0, HB0, Lib.hid (by rw [HS0.out]; exact Nat.le_refl _)⟩
  case round =>
    obtain ⟨k, hk, rfl, HI, HH, hw, HSZ⟩ := hrel
    by_cases hlt : k < m
    · skip
      have hkl : k < (L 4).length := by rw [← HNM.out]; exact hlt
      have HTR : Hid (HT h L wr) := Lib.hid (HHT.out.below hw.out)
      obtain ⟨b, off, hA, hb, r1⟩ := quant_atW HTR.out hkl
      have hqc := qA_cells HTR.out hkl
      have hqa := qA_at (L 4) k hkl
      have hfq : Fits kQuant (qA (L 4) k) := by rw [hqa]; exact (HTR.out 4 (by decide)).2.2.1 _ (List.getElem_mem hkl)
      have hmq := mild_q HMI.out hkl hfq
      obtain ⟨r, hr⟩ : ∃ r, elB (L 2) (L 3) (qA (L 4) k) = r := ⟨_, rfl⟩
      obtain ⟨X, hX⟩ : ∃ X, elE (L 1) (L 2) (L 3) (qA (L 4) k) = X := ⟨_, rfl⟩
      have HXF : Hid (Fits kstand X) := Lib.hid (by rw [← hX]; unfold elE; split; exact stE_fits _ _ _ _ _; exact zSd.fits)
      have HRE := Lib.hid hr
      have HQC := Lib.hid hqc
      obtain ⟨sg, hsg⟩ : ∃ z, siteT (L 2) (L 3) (qnOf (qA (L 4) k)).bin = z := ⟨_, rfl⟩
      obtain ⟨dz, hdz⟩ : ∃ z, dayQ (L 1) (qA (L 4) k) = z := ⟨_, rfl⟩
      obtain ⟨fr, hfr⟩ : ∃ z, frQ (qA (L 4) k) = z := ⟨_, rfl⟩
      obtain ⟨x, hx⟩ : ∃ x, qnOf (qA (L 4) k) = x := ⟨_, rfl⟩
      have hXE : r = true → X = [.string x.bin, .string x.item, .string x.lot, .int .i64 x.st, .string sg, .int .i64 dz, .int .i64 0, .int .i64 fr] := fun h => by rw [← hX]; unfold elE; rw [hr, if_pos h, ← hx, ← hsg, ← hdz, ← hfr]; rfl
      have hSA : stA L (twN L) k = [.string x.bin, .string x.item, .string x.lot, .int .i64 x.st, .string sg, .int .i64 dz, .int .i64 (cntK L x.ky k : Nat), .int .i64 fr] := by
        unfold stA stE stS twN
        rw [hsg, hdz, hfr, hx]
        rfl
      rw [hqc] at hr hX
      rw [hx] at r1 hr hX hmq
      have HXE := Lib.hid hXE
      have HSA := Lib.hid hSA
      have HMQ := Lib.hid hmq
      have HXQ := Lib.hid hx
      clear hXE hSA hmq hsg hdz hfr hfq hqa hx
      obtain ⟨qb, qi, ql, qs, qq, qh⟩ := x
      unfold Qn.cells at r1 hr hX
      have CE : Hid (∀ W, HT h L W → Calls Tryz.prog 41 #[.agg h.cells, .agg #[.string qb, .string qi, .string ql, .int .i64 qs, .int .i64 qq, .int .i64 qh]] W fun e w' => e = .returned (.tuple #[.agg X.toArray, .bool r]) ∧ Below W.heap.size W w') := Lib.hid (fun W hW => by have := celig h L qb qi ql qs qq qh W hW; rw [hX, hr] at this; exact this)
      have HR1 := Lib.hid r1
      have HBL := Lib.hid hb
      have HKL := Lib.hid hkl
      rw [HA0.out] at hA
      subst hA
      clear hqc hr hX r1 hb hkl
      have h1 : (0 : Int) ≤ (k : Int) := by omega
      have h2 : (k : Int) < (m : Int) := by omega
      have HBX : Hid ((wr.alloc (.cells #[.string ⟨#[]⟩, .string ⟨#[]⟩, .string ⟨#[]⟩, .int .i64 0, .int .i64 0, .int .i64 0] 58)).heap[wr.heap.size]? = some (.cells #[.string ⟨#[]⟩, .string ⟨#[]⟩, .string ⟨#[]⟩, .int .i64 0, .int .i64 0, .int .i64 0] 58 (0, 0))) := Lib.hid (heap_alloc_new _ _)
      obtain ⟨w1, hw1⟩ : ∃ W, W = (wr.alloc (.cells #[.string ⟨#[]⟩, .string ⟨#[]⟩, .string ⟨#[]⟩, .int .i64 0, .int .i64 0, .int .i64 0] 58)).setRow wr.heap.size #[.string qb, .string qi, .string ql, .int .i64 qs, .int .i64 qq, .int .i64 qh] := ⟨_, rfl⟩
      have HB1 : Hid (Below wr.heap.size wr w1) := Lib.hid (by rw [hw1]; exact setRow_below ((Below.refl _ _).alloc (Nat.le_refl _) _) (Nat.le_refl _) _)
      have HQB : Hid (w1.heap[wr.heap.size]? = some (.cells #[.string qb, .string qi, .string ql, .int .i64 qs, .int .i64 qq, .int .i64 qh] 58 (0, 0))) := Lib.hid (by rw [hw1]; exact setRow_heap _ _ _ _ _ _ HBX.out)
      have HH1 : Hid (w1.heap[w.heap.size]? = some (.cells h.cells 37 (0, 0))) := Lib.hid ((HB1.out.block _ (lt_of_block HH.out)).trans HH.out)
      have HW1 := Lib.hid hw1
      clear hw1
      go_upto_region 5 with (first
        | (refine wpList_load_mid rfl 58 (.tmp 16) rfl b (off + k * 6) rfl [.string qb, .string qi, .string ql, .int .i64 qs, .int .i64 qq, .int .i64 qh] _ HR1.out huq rfl HSQ6.out ?_)
        | (refine wpList_store_row rfl 58 (.tmp 6) (.tmp 17) rfl wr.heap.size #[.string qb, .string qi, .string ql, .int .i64 qs, .int .i64 qq, .int .i64 qh] rfl rfl _ _ HBX.out (HQS.out _ _ _ _ _ _) rfl (HQ1.out _ _ _ _ _ _) ?_)
        | fail)
      rw [← HW1.out]
      clear h1 h2
      go_wp2_with (first
        | (refine wpList_load_row rfl 37 (.tmp 1) rfl w.heap.size rfl _ _ _ _ HH1.out huh rfl (HSH.out _) ?_)
        | (refine wpList_load_row rfl 58 (.tmp 6) rfl wr.heap.size rfl _ _ _ _ HQB.out huq rfl (HQS.out _ _ _ _ _ _) ?_)
        | fail)
      refine (CE.out _ (HTR.out.below HB1.out)).mono ?_
      rintro e w2 ⟨rfl, hb2⟩
      have HBY2 : Hid ((w2.alloc (.cells #[.string ⟨#[]⟩, .string ⟨#[]⟩, .string ⟨#[]⟩, .int .i64 0, .string ⟨#[]⟩, .int .i64 0, .int .i64 0, .int .i64 0] 112)).heap[w2.heap.size]? = some (.cells #[.string ⟨#[]⟩, .string ⟨#[]⟩, .string ⟨#[]⟩, .int .i64 0, .string ⟨#[]⟩, .int .i64 0, .int .i64 0, .int .i64 0] 112 (0, 0))) := Lib.hid (heap_alloc_new _ _)
      obtain ⟨w3, hw3⟩ : ∃ W, W = (w2.alloc (.cells #[.string ⟨#[]⟩, .string ⟨#[]⟩, .string ⟨#[]⟩, .int .i64 0, .string ⟨#[]⟩, .int .i64 0, .int .i64 0, .int .i64 0] 112)).setRow w2.heap.size X.toArray := ⟨_, rfl⟩
      have HB23 : Hid (Below w2.heap.size w2 w3) := Lib.hid (by rw [hw3]; exact setRow_below ((Below.refl _ _).alloc (Nat.le_refl _) _) (Nat.le_refl _) _)
      have HB13 := Lib.hid (hb2.trans (HB23.out.mono hb2.size))
      have HB3 := Lib.hid (HB1.out.trans (HB13.out.mono HB1.out.size))
      have HSZX : Hid ((#[.string ⟨#[]⟩, .string ⟨#[]⟩, .string ⟨#[]⟩, .int .i64 0, .string ⟨#[]⟩, .int .i64 0, .int .i64 0, .int .i64 0] : Array Value).size = X.toArray.size) := Lib.hid (by rw [List.size_toArray, List.size_toArray, HXF.out.length]; rfl)
      have HX1 := Lib.hid (all_oneCell_toArray (fits_one HXF.out))
      have HXB : Hid (w3.heap[w2.heap.size]? = some (.cells X.toArray 112 (0, 0))) := Lib.hid (by rw [hw3]; exact setRow_heap _ _ _ _ _ _ HBY2.out)
      have HQB3 := Lib.hid ((HB13.out.block _ (lt_of_block HQB.out)).trans HQB.out)
      have HLT2 : Hid (wr.heap.size < w2.heap.size) := Lib.hid (Nat.lt_of_lt_of_le (lt_of_block HQB.out) hb2.size)
      have HH3 : Hid (w3.heap[w.heap.size]? = some (.cells h.cells 37 (0, 0))) := Lib.hid ((HB3.out.block _ (lt_of_block HH.out)).trans HH.out)
      have HW3 := Lib.hid hw3
      have HXL : Hid (X.length = 8) := Lib.hid HXF.out.length
      clear hw3 hb2
      go_upto_region 6 with (first
        | (refine wpList_store_row rfl 112 (.tmp 7) (.tmp 22) rfl w2.heap.size X.toArray rfl rfl _ _ HBY2.out (HS8.out _ HXL.out) HSZX.out HX1.out ?_)
        | fail)
      rw [← HW3.out]
      cases r with
      | false =>
        have HIN := Lib.hid (HI.out.skip HKL.out HRE.out HB3.out)
        have HWN := Lib.hid (hw.out.trans (HB3.out.mono hw.out.size))
        have HSN := Lib.hid (Nat.le_trans HSZ.out HB3.out.size)
        go_wp2_with fail
        go_roundw
        case rel => exact ⟨k + 1, by omega, by go_num, HIN, HH3, HWN, HSN⟩
        case measure => simp [intOf]; omega
      | true =>
        have hxe := HXE.out rfl
        subst hxe
        obtain ⟨f, ft, G, CC, HF0⟩ := HI.out
        obtain ⟨cn, hcn⟩ : ∃ z, cntK L (Qn.mk qb qi ql qs qq qh).ky k = z := ⟨_, rfl⟩
        have HCN := Lib.hid hcn
        have hmk := HMQ.out.1
        have hkk := key_k hmk
        have htw := HF0.tw _ hmk
        rw [hcn] at htw
        have hgt3 := HF0.gt.kept (HB3.out.block _ HF0.gt.lt)
        have hlk := hgt3.look (t := 148) (Keyed.of_law kyLaw) Tryz.underlying148 (z := .int .i64 0) (Tryz.zeroValue3 w3) hkk
        have hval : (ft (kk (Qn.mk qb qi ql qs qq qh).ky)).getD (.int .i64 0) = .int .i64 (cn : Int) := by
          rw [htw]
          by_cases h0 : cn = 0
          · rw [if_pos h0, h0]; rfl
          · rw [if_neg h0]; rfl
        rw [hval] at hlk
        have hky : (Qn.mk qb qi ql qs qq qh).ky.cells.toArray = #[.string qb, .string qi, .string ql, .int .i64 qs] := rfl
        rw [hky] at hlk
        have HRK3 : Hid (w3.rangeAt wr.heap.size 0 [.string qb, .string qi, .string ql, .int .i64 qs]) := Lib.hid (range_part HQB3.out (cs := [.string qb, .string qi, .string ql, .int .i64 qs, .int .i64 qq, .int .i64 qh]) (pre := []) (post := [.int .i64 qq, .int .i64 qh]))
        have c6 : w3.cell? ⟨w2.heap.size, 6, none⟩ = some (.int .i64 0) := by rw [cell_of_block HXB.out]; rfl
        have f6 : w3.frozen? ⟨w2.heap.size, 6, none⟩ = false := frozen_of_block HXB.out
        have hl7 := lt_of_block HXB.out
        obtain ⟨w4, hw4⟩ : ∃ W, W = w3.setCell ⟨w2.heap.size, 6, none⟩ (.int .i64 (cn : Int)) := ⟨_, rfl⟩
        have HX4 : Hid (w4.heap[w2.heap.size]? = some (.cells #[.string qb, .string qi, .string ql, .int .i64 qs, .string sg, .int .i64 dz, .int .i64 (cn : Int), .int .i64 fr] 112 (0, 0))) := Lib.hid (by rw [hw4, block_setCell HXB.out]; rfl)
        have ho4 : ∀ j, j ≠ w2.heap.size → w4.heap[j]? = w3.heap[j]? := fun j hj => by rw [hw4]; exact Below.heap_setCell _ _ _ _ hj
        have HO4 := Lib.hid ho4
        have HB4 : Hid (Below wr.heap.size wr w4) := Lib.hid (by rw [hw4]; exact HB3.out.setCell (Nat.le_of_lt HLT2.out) _)
        have HW4 := Lib.hid hw4
        clear hw4 ho4
        go_upto_region 8 with (first
          | (refine wpList_load_mid rfl 56 (.tmp 26) rfl wr.heap.size 0 rfl [.string qb, .string qi, .string ql, .int .i64 qs] _ HRK3.out huk rfl HSK4.out ?_)
          | fail)
        rw [← HW4.out]
        clear c6 f6 hl7 hlk
        have hne4 : w.heap.size + 2 ≠ w2.heap.size := by have := HSZ.out; have := HLT2.out; omega
        have hgd : GM kyT w4.drew (w.heap.size + 2) k ft := (hgt3.kept (HO4.out _ hne4)).kept rfl
        obtain ⟨v0, st, w5, q1, q2, q3, q4⟩ := hgd.entry (t := 148) kyLaw Tryz.underlying148 (by simp only [maxLen]; omega) (z := .int .i64 0) (Tryz.zeroValue3) hkk
        rw [hval] at q3
        rw [hky] at q1
        have hlk4 := hgd.look (t := 148) (Keyed.of_law kyLaw) Tryz.underlying148 (z := .int .i64 0) (Tryz.zeroValue3 _) hkk
        rw [hval, hky] at hlk4
        have hlk5 := q3.look (t := 148) (Keyed.of_law kyLaw) Tryz.underlying148 (z := .int .i64 0) (Tryz.zeroValue3 _) hkk
        rw [updL_same _ (by trivial), hky] at hlk5
        simp only [Option.getD_some] at hlk5
        have HQB4 : Hid (w4.heap[wr.heap.size]? = some (.cells #[.string qb, .string qi, .string ql, .int .i64 qs, .int .i64 qq, .int .i64 qh] 58 (0, 0))) := Lib.hid ((HO4.out _ (Nat.ne_of_lt HLT2.out)).trans HQB3.out)
        have HQB5 : Hid (w5.heap[wr.heap.size]? = some (.cells #[.string qb, .string qi, .string ql, .int .i64 qs, .int .i64 qq, .int .i64 qh] 58 (0, 0))) := Lib.hid ((q2.grown.block _ (lt_of_block HQB4.out) (fun e => by injection e with e; have := HSZ.out; omega)).trans HQB4.out)
        have HS4 : Hid (w4.drew.rangeAt wr.heap.size 0 [.string qb, .string qi, .string ql, .int .i64 qs] ∧ (Instr.lookup 148 (.map (some (w.heap.size + 2))) (.agg #[.string qb, .string qi, .string ql, .int .i64 qs]) false).run Tryz.prog w4.drew = .ok (.int .i64 (cn : Int)) w4.drew) := Lib.hid ⟨range_part (W := w4.drew) HQB4.out (cs := [.string qb, .string qi, .string ql, .int .i64 qs, .int .i64 qq, .int .i64 qh]) (pre := []) (post := [.int .i64 qq, .int .i64 qh]), hlk4⟩
        have HS5 : Hid (w5.rangeAt wr.heap.size 0 [.string qb, .string qi, .string ql, .int .i64 qs] ∧ (Instr.lookup 148 (.map (some (w.heap.size + 2))) (.agg #[.string qb, .string qi, .string ql, .int .i64 qs]) false).run Tryz.prog w5 = .ok (.int .i64 (cn : Int)) w5) := Lib.hid ⟨range_part (W := w5) HQB5.out (cs := [.string qb, .string qi, .string ql, .int .i64 qs, .int .i64 qq, .int .i64 qh]) (pre := []) (post := [.int .i64 qq, .int .i64 qh]), hlk5⟩
        obtain ⟨w6, p1, p2, p3⟩ := q4 (.int .i64 ((cn : Int) + 1))
        have hcb : cn ≤ 1000 := by rw [← hcn]; exact Nat.le_trans (cntK_le L _ k) (by omega)
        obtain ⟨stz, hstz⟩ : ∃ z : Int, (st : Int) = z := ⟨_, rfl⟩
        rw [hstz] at q1 p1
        have HQ2 := Lib.hid q2
        have HP2 := Lib.hid p2
        have HP3 := Lib.hid p3
        clear q2 q3 q4 p2 p3 hlk4 hlk5 hgd hgt3 hstz
        refine lastN_region (S := fun w' => w'.rangeAt wr.heap.size 0 [.string qb, .string qi, .string ql, .int .i64 qs] ∧ (Instr.lookup 148 (.map (some (w.heap.size + 2))) (.agg #[.string qb, .string qi, .string ql, .int .i64 qs]) false).run Tryz.prog w' = .ok (.int .i64 (cn : Int)) w') (n := 7) (by kernel_rfl) ?_
        refine LastN.pure (i := 0) (v := .map (some (w.heap.size + 2))) rfl (by kernel_rfl) (by kernel_rfl) (by kernel_rfl) (by decide) (fun _ _ _ h => h.elim) (.inl ⟨by kernel_rfl, fun w hw => by clear hw; go_simp⟩) (fun _ => HS4.out) ?_
        (try simp only [Act.put, List.getElem_toArray, List.getElem_cons_zero, List.setIfInBounds_toArray, List.set_cons_zero, List.set_cons_succ])
        refine LastN.pure (i := 1) (v := .pointer (some ⟨wr.heap.size, 0, none⟩)) rfl (by kernel_rfl) (by kernel_rfl) (by kernel_rfl) (by decide) (fun _ _ _ h => h.elim) (.inl ⟨by kernel_rfl, fun w hw => by clear hw; go_simp⟩) (fun _ => HS4.out) ?_
        (try simp only [Act.put, List.getElem_toArray, List.getElem_cons_succ, List.getElem_cons_zero, List.setIfInBounds_toArray, List.set_cons_zero, List.set_cons_succ])
        refine LastN.take (i := 2) (v := .agg #[.string qb, .string qi, .string ql, .int .i64 qs]) rfl (by kernel_rfl) (by kernel_rfl) (by kernel_rfl) (by kernel_rfl) (by kernel_rfl) (by decide) (fun _ _ _ h => h.elim) (yieldsIf_load_mid (by kernel_rfl) 56 (.tmp 31) rfl wr.heap.size 0 rfl [.string qb, .string qi, .string ql, .int .i64 qs] _ (fun w h => h.1) huk rfl HSK4.out) HS4.out ?_
        (try simp only [Act.put, List.getElem_toArray, List.getElem_cons_succ, List.getElem_cons_zero, List.setIfInBounds_toArray, List.set_cons_zero, List.set_cons_succ])
        refine LastN.take (i := 3) (v := .int .i64 (cn : Int)) rfl (by kernel_rfl) (by kernel_rfl) (by kernel_rfl) (by kernel_rfl) (by kernel_rfl) (by decide) (fun _ _ _ h => h.elim) (.inl ⟨by kernel_rfl, fun w h => by have hw := h.2; clear h; go_simp⟩) HS4.out ?_
        (try simp only [Act.put, List.getElem_toArray, List.getElem_cons_succ, List.getElem_cons_zero, List.setIfInBounds_toArray, List.set_cons_zero, List.set_cons_succ])
        have hwi : IntKind.i64.wrap ((cn : Int) + 1) = (cn : Int) + 1 := IntWalk.i64_in _ (by omega)
        refine LastN.pure (i := 4) (v := .int .i64 ((cn : Int) + 1)) rfl (by kernel_rfl) (by kernel_rfl) (by kernel_rfl) (by decide) (fun _ _ _ h => h.elim) (.inl ⟨by kernel_rfl, fun w hw => by clear hw; go_simp⟩) (fun _ => HS4.out) ?_
        (try simp only [Act.put, List.getElem_toArray, List.getElem_cons_succ, List.getElem_cons_zero, List.setIfInBounds_toArray, List.set_cons_zero, List.set_cons_succ])
        refine LastN.one (i := 5) (by kernel_rfl) rfl (fun K hK => ?_)
        go_simp
        refine hK.out _ _ (fun _ _ => HS5.out) (fun _ => ?_)
        clear hK K
        (try simp only [Act.put, List.getElem_toArray, List.getElem_cons_succ, List.getElem_cons_zero, List.setIfInBounds_toArray, List.set_cons_zero, List.set_cons_succ])
        refine LastN.pure (i := 6) (v := .int .i64 stz) rfl (by kernel_rfl) (by kernel_rfl) (by kernel_rfl) (by decide) (fun _ _ _ h => h.elim) (.inl ⟨by kernel_rfl, fun w hw => by clear hw; go_simp⟩) (fun _ => HS5.out) ?_
        (try simp only [Act.put, List.getElem_toArray, List.getElem_cons_succ, List.getElem_cons_zero, List.setIfInBounds_toArray, List.set_cons_zero, List.set_cons_succ])
        refine LastN.one (i := 7) (by kernel_rfl) rfl (fun K hK => ?_)
        go_simp
        refine hK.out _ _ (fun _ h => absurd rfl h) (fun _ => ?_)
        clear hK K
        (try simp only [Act.put, List.getElem_toArray, List.getElem_cons_succ, List.getElem_cons_zero, List.setIfInBounds_toArray, List.set_cons_zero, List.set_cons_succ])
        refine LastN.done (by kernel_rfl) ?_ _
        refine NoPanic.normal ?_
        clear p1 q1 hwi
        have hs46 := HP3.out.grown.size
        have hs46' : w4.heap.size ≤ w6.heap.size := hs46
        have hne1 : w.heap.size + 1 ≠ w2.heap.size := by have := HSZ.out; have := HLT2.out; omega
        have ho6 : ∀ j, j < w4.heap.size → j ≠ w.heap.size + 2 → w6.heap[j]? = w4.heap[j]? := fun j h1 h2 => HP3.out.grown.block j h1 (fun e => h2 (by injection e))
        have hgl6 : GM 9 w6 (w.heap.size + 1) k f := HF0.gl.kept (by
          rw [ho6 _ (by have := HF0.gl.lt; have := HB4.out.size; omega) (by omega)]
          exact HB4.out.block _ HF0.gl.lt)
        have HQB6 : Hid (w6.heap[wr.heap.size]? = some (.cells #[.string qb, .string qi, .string ql, .int .i64 qs, .int .i64 qq, .int .i64 qh] 58 (0, 0))) := Lib.hid ((ho6 _ (lt_of_block HQB4.out) (by have := HSZ.out; omega)).trans HQB4.out)
        have HX6 : Hid (w6.heap[w2.heap.size]? = some (.cells #[.string qb, .string qi, .string ql, .int .i64 qs, .string sg, .int .i64 dz, .int .i64 (cn : Int), .int .i64 fr] 112 (0, 0))) := Lib.hid ((ho6 _ (lt_of_block HX4.out) (by have := HSZ.out; have := HLT2.out; omega)).trans HX4.out)
        have hki := key_s hmk.2.1
        change keyOf _ _ (.string qi) = some (sk qi) at hki
        obtain ⟨m1, hm1⟩ : ∃ z, (idxK L qi k).length = z := ⟨_, rfl⟩
        have hm1k : m1 ≤ 1000 := by rw [← hm1]; exact Nat.le_trans (idxK_len L qi k) (by omega)
        obtain ⟨A, c, hXv, hXo, hXA⟩ : ∃ A c, (f (sk qi)).getD (.slice none 0 0) = .slice A m1 c ∧ w6.ownsRow 0 112 8 (.slice A m1 c) m1 (idxK L qi k).flatten ∧ (A = none ∧ idxK L qi k = [] ∨ A = some ⟨G qi, 0, none⟩ ∧ idxK L qi k ≠ []) := by
          by_cases hne : idxK L qi k = []
          · rw [hne] at hm1
            subst hm1
            exact ⟨none, 0, by rw [HF0.no qi hne]; rfl, by rw [hne]; exact ⟨rfl, .inl ⟨rfl, rfl⟩⟩, .inl ⟨rfl, hne⟩⟩
          · have hy := HF0.yes qi hne
            rw [hm1] at hy
            have hrow := hy.2.1
            unfold RowS at hrow
            rw [hm1] at hrow
            have hgl := own_ltS hrow
            have := hy.2.2
            exact ⟨_, _, by rw [hy.1]; rfl, row_kept hrow ((ho6 _ (by have := HB4.out.size; omega) (by omega)).trans (HB4.out.block _ hgl)), .inr ⟨rfl, hne⟩⟩
        have hAlt : ∀ j, some j = (Value.slice A m1 c).ownBlock → j < wr.heap.size ∧ w.heap.size + 3 ≤ j := fun j hj => by
          rcases hXA with ⟨rfl, _⟩ | ⟨rfl, h2⟩
          · simp [Value.ownBlock] at hj
          · simp only [Value.ownBlock, Option.some.injEq] at hj
            rw [hj]
            exact ⟨own_ltS (HF0.yes qi h2).2.1, (HF0.yes qi h2).2.2⟩
        have HST : Hid (∀ W : World, W.heap[wr.heap.size]? = w6.heap[wr.heap.size]? → W.heap[w2.heap.size]? = w6.heap[w2.heap.size]? → W.heap[(w.heap.size + 1)]? = w6.heap[(w.heap.size + 1)]? → W.cell? ⟨wr.heap.size, 1, none⟩ = some (.string qi) ∧ W.rangeAt w2.heap.size 0 [.string qb, .string qi, .string ql, .int .i64 qs, .string sg, .int .i64 dz, .int .i64 (cn : Int), .int .i64 fr] ∧ (Instr.lookup 118 (.map (some (w.heap.size + 1))) (.string qi) false).run Tryz.prog W = .ok (.slice A m1 c) W) := Lib.hid (fun W a1 a2 a3 => ⟨by rw [cell_of_block (a1.trans HQB6.out)]; rfl, range_row0 (a2.trans HX6.out), by
          have := (hgl6.kept a3).look (t := 118) keyedS Tryz.underlying118 (z := .slice none 0 0) (Tryz.zeroValue108 W) hki
          rw [hXv] at this
          exact this⟩)
        have HSD := Lib.hid (HST.out w6.drew rfl rfl rfl)
        obtain ⟨w7, hw7⟩ : ∃ W, W = w6.drew.alloc (.cells #[.string qb, .string qi, .string ql, .int .i64 qs, .string sg, .int .i64 dz, .int .i64 (cn : Int), .int .i64 fr] 112) := ⟨_, rfl⟩
        have HB7 : Hid (Below w6.heap.size w6 w7) := Lib.hid (by rw [hw7]; exact (Below.refl _ _).drew.alloc (Nat.le_refl _) _)
        have hs7 : w7.heap.size = w6.heap.size + 1 := by rw [hw7]; simp
        have HV7 : Hid (w7.heap[w6.heap.size]? = some (.cells #[.string qb, .string qi, .string ql, .int .i64 qs, .string sg, .int .i64 dz, .int .i64 (cn : Int), .int .i64 fr] 112 (0, 0))) := Lib.hid (by rw [hw7]; exact heap_alloc_new w6.drew _)
        have hlt6 := lt_of_block HQB6.out
        have hlt6' := lt_of_block HX6.out
        have hlt6'' := hgl6.lt
        have HS7 := Lib.hid (HST.out w7 (HB7.out.block _ hlt6) (HB7.out.block _ hlt6') (HB7.out.block _ hlt6''))
        have HO7 : Hid (w7.ownsRow 0 112 8 (.slice A m1 c) m1 (idxK L qi k).flatten) := Lib.hid (by
          rcases hXA with ⟨rfl, h2⟩ | ⟨rfl, h2⟩
          · exact ⟨hXo.1, .inl (by rcases hXo.2 with h | ⟨g, cap, cur, hv, _⟩; exact h; cases hv)⟩
          · exact row_kept hXo (HB7.out.block _ (own_ltS hXo)))
        have HLK7 := Lib.hid hgl6
        have HXA := Lib.hid hXA
        have HALT := Lib.hid hAlt
        have HKI := Lib.hid hki
        have HM1 := Lib.hid hm1
        have HW7 := Lib.hid hw7
        have HO6 := Lib.hid ho6
        have HF0 := Lib.hid HF0
        have HMK := Lib.hid hmk
        clear hgl6 hXA hAlt hki hm1 hw7 ho6 hXv hXo hkk htw hval
        go_upto_region 9 with fail
        refine lastN_region (S := fun w' => w'.cell? ⟨wr.heap.size, 1, none⟩ = some (.string qi) ∧ w'.rangeAt w2.heap.size 0 [.string qb, .string qi, .string ql, .int .i64 qs, .string sg, .int .i64 dz, .int .i64 (cn : Int), .int .i64 fr] ∧ (Instr.lookup 118 (.map (some (w.heap.size + 1))) (.string qi) false).run Tryz.prog w' = .ok (.slice A m1 c) w') (n := 12) (by kernel_rfl) ?_
        refine LastN.pure (i := 0) (v := .map (some (w.heap.size + 1))) rfl (by kernel_rfl) (by kernel_rfl) (by kernel_rfl) (by decide) (fun _ _ _ h => h.elim) (.inl ⟨by kernel_rfl, fun w hw => by clear hw; go_simp⟩) (fun _ => HSD.out) ?_
        (try simp only [Act.put, List.getElem_toArray, List.getElem_cons_zero, List.setIfInBounds_toArray, List.set_cons_zero, List.set_cons_succ])
        refine LastN.pure (i := 1) (v := .pointer (some ⟨wr.heap.size, 0, none⟩)) rfl (by kernel_rfl) (by kernel_rfl) (by kernel_rfl) (by decide) (fun _ _ _ h => h.elim) (.inl ⟨by kernel_rfl, fun w hw => by clear hw; go_simp⟩) (fun _ => HSD.out) ?_
        (try simp only [Act.put, List.getElem_toArray, List.getElem_cons_succ, List.getElem_cons_zero, List.setIfInBounds_toArray, List.set_cons_zero, List.set_cons_succ])
        refine LastN.pure (i := 2) (v := .pointer (some ⟨wr.heap.size, 1, none⟩)) rfl (by kernel_rfl) (by kernel_rfl) (by kernel_rfl) (by decide) (fun _ _ _ h => h.elim) (.inl ⟨by kernel_rfl, fun w hw => by clear hw; go_simp⟩) (fun _ => HSD.out) ?_
        (try simp only [Act.put, List.getElem_toArray, List.getElem_cons_succ, List.getElem_cons_zero, List.setIfInBounds_toArray, List.set_cons_zero, List.set_cons_succ])
        refine LastN.take (i := 3) (v := .string qi) rfl (by kernel_rfl) (by kernel_rfl) (by kernel_rfl) (by kernel_rfl) (by kernel_rfl) (by decide) (fun _ _ _ h => h.elim) (.inl ⟨by kernel_rfl, fun w h => by have hw := h.1; clear h; go_simp⟩) HSD.out ?_
        (try simp only [Act.put, List.getElem_toArray, List.getElem_cons_succ, List.getElem_cons_zero, List.setIfInBounds_toArray, List.set_cons_zero, List.set_cons_succ])
        refine LastN.pure (i := 4) (v := .map (some (w.heap.size + 1))) rfl (by kernel_rfl) (by kernel_rfl) (by kernel_rfl) (by decide) (fun _ _ _ h => h.elim) (.inl ⟨by kernel_rfl, fun w hw => by clear hw; go_simp⟩) (fun _ => HSD.out) ?_
        (try simp only [Act.put, List.getElem_toArray, List.getElem_cons_succ, List.getElem_cons_zero, List.setIfInBounds_toArray, List.set_cons_zero, List.set_cons_succ])
        refine LastN.pure (i := 5) (v := .pointer (some ⟨wr.heap.size, 0, none⟩)) rfl (by kernel_rfl) (by kernel_rfl) (by kernel_rfl) (by decide) (fun _ _ _ h => h.elim) (.inl ⟨by kernel_rfl, fun w hw => by clear hw; go_simp⟩) (fun _ => HSD.out) ?_
        (try simp only [Act.put, List.getElem_toArray, List.getElem_cons_succ, List.getElem_cons_zero, List.setIfInBounds_toArray, List.set_cons_zero, List.set_cons_succ])
        refine LastN.pure (i := 6) (v := .pointer (some ⟨wr.heap.size, 1, none⟩)) rfl (by kernel_rfl) (by kernel_rfl) (by kernel_rfl) (by decide) (fun _ _ _ h => h.elim) (.inl ⟨by kernel_rfl, fun w hw => by clear hw; go_simp⟩) (fun _ => HSD.out) ?_
        (try simp only [Act.put, List.getElem_toArray, List.getElem_cons_succ, List.getElem_cons_zero, List.setIfInBounds_toArray, List.set_cons_zero, List.set_cons_succ])
        refine LastN.take (i := 7) (v := .string qi) rfl (by kernel_rfl) (by kernel_rfl) (by kernel_rfl) (by kernel_rfl) (by kernel_rfl) (by decide) (fun _ _ _ h => h.elim) (.inl ⟨by kernel_rfl, fun w h => by have hw := h.1; clear h; go_simp⟩) HSD.out ?_
        (try simp only [Act.put, List.getElem_toArray, List.getElem_cons_succ, List.getElem_cons_zero, List.setIfInBounds_toArray, List.set_cons_zero, List.set_cons_succ])
        refine LastN.take (i := 8) (v := .slice A m1 c) rfl (by kernel_rfl) (by kernel_rfl) (by kernel_rfl) (by kernel_rfl) (by kernel_rfl) (by decide) (fun _ _ _ h => h.elim) (.inl ⟨by kernel_rfl, fun w h => by have hw := h.2.2; clear h; go_simp⟩) HSD.out ?_
        (try simp only [Act.put, List.getElem_toArray, List.getElem_cons_succ, List.getElem_cons_zero, List.setIfInBounds_toArray, List.set_cons_zero, List.set_cons_succ])
        refine LastN.take (i := 9) (v := .agg #[.string qb, .string qi, .string ql, .int .i64 qs, .string sg, .int .i64 dz, .int .i64 (cn : Int), .int .i64 fr]) rfl (by kernel_rfl) (by kernel_rfl) (by kernel_rfl) (by kernel_rfl) (by kernel_rfl) (by decide) (fun _ _ _ h => h.elim) (yieldsIf_load_mid (by kernel_rfl) 112 (.tmp 7) rfl w2.heap.size 0 rfl [.string qb, .string qi, .string ql, .int .i64 qs, .string sg, .int .i64 dz, .int .i64 (cn : Int), .int .i64 fr] _ (fun w h => h.2.1) huS rfl (HS8.out _ rfl)) HSD.out ?_
        (try simp only [Act.put, List.getElem_toArray, List.getElem_cons_succ, List.getElem_cons_zero, List.setIfInBounds_toArray, List.set_cons_zero, List.set_cons_succ])
        refine LastN.one (i := 10) (by kernel_rfl) rfl (fun K hK => ?_)
        rw [if_pos (by kernel_rfl)]
        refine wp_buildOne 108 112 (.tmp 46) rfl w6.heap.size (by simp) (.slice (some ⟨w6.heap.size, 0, none⟩) 1 1) i0 z0 8 Tryz.underlying108 hi0 hz0 hz1 (by decide) (by decide) [.string qb, .string qi, .string ql, .int .i64 qs, .string sg, .int .i64 dz, .int .i64 (cn : Int), .int .i64 fr] rfl rfl rfl ?_
        rw [← HW7.out]
        refine hK.out _ _ (fun _ _ => HS7.out) (fun _ => ?_)
        clear hK K
        (try simp only [Act.put, List.getElem_toArray, List.getElem_cons_succ, List.getElem_cons_zero, List.setIfInBounds_toArray, List.set_cons_zero, List.set_cons_succ])
        have HV : Hid (∀ j u, ([.string qb, .string qi, .string ql, .int .i64 qs, .string sg, .int .i64 dz, .int .i64 (cn : Int), .int .i64 fr] : List Value)[j]? = some u → w7.cell? ((⟨w6.heap.size, 0, none⟩ : Addr).add j) = some u) := Lib.hid (fun j u hu => by
          rw [Addr.add_lit, Nat.zero_add]
          have := range_row0 HV7.out j u (by simpa using hu)
          rwa [Nat.zero_add] at this)
        refine LastN.one (i := 11) (by kernel_rfl) rfl (fun K hK => ?_)
        rw [if_pos (by kernel_rfl)]
        refine wp_appO (.tmp 45) (.tmp 47) _ rfl 0 112 i0 z0 8 i0.bytes Tryz.underlying108 hi0 hz0 hz1 rfl hz2 (by decide) A m1 c _ rfl HO7.out ⟨w6.heap.size, 0, none⟩ 1 1 [.string qb, .string qi, .string ql, .int .i64 qs, .string sg, .int .i64 dz, .int .i64 (cn : Int), .int .i64 fr] rfl rfl HV.out (by simp [Value.oneCell']) (by simp only [maxLen]; omega) (HBY.out _ (by omega)) (Nat.zero_le _) ?_
        intro A5 c5 w8 hown8 hg8 hb8
        have hs8 := hg8.size
        have hk8 : ∀ j, j < w6.heap.size → (∀ i, some i = (Value.slice A m1 c).ownBlock → j ≠ i) → w8.heap[j]? = w6.heap[j]? := fun j h1 h2 => (hg8.block j (by omega) (fun e => h2 j e rfl)).trans (HB7.out.block _ h1)
        have n1 := hk8 _ hlt6 (fun i hi => by have := HALT.out i hi; omega)
        have n2 := hk8 _ hlt6' (fun i hi => by have := HALT.out i hi; have := HLT2.out; omega)
        have n3 := hk8 _ hlt6'' (fun i hi => by have := HALT.out i hi; omega)
        have n4 : w8.heap[w.heap.size]? = some (.cells h.cells 37 (0, 0)) := (hk8 _ (by omega) (fun i hi => by have := HALT.out i hi; omega)).trans (((HO6.out _ (by have := lt_of_block HH.out; have := HB4.out.size; omega) (by omega)).trans (HB4.out.block _ (lt_of_block HH.out))).trans HH.out)
        obtain ⟨w9, r1, r2, r3⟩ := (HLK7.out.kept n3).store (t := 118) keyedS Tryz.underlying118 (by simp only [maxLen]; omega) HKI.out (.slice A5 (m1 + 1) c5)
        have HS8' := Lib.hid (HST.out w8 n1 n2 n3)
        have HIN : Hid (ByI L (w.heap.size + 3) (w.heap.size + 1) (w.heap.size + 2) (k + 1) w9) := Lib.hid (by
          have e := HM1.out
          subst e
          exact ByF.close (W4 := w4.drew) HF0.out HKL.out (by rw [HXQ.out]) HRE.out (by rw [HXQ.out]; exact HMK.out) (by omega) (by omega) (by omega) HSZ.out (fun j hj => HB4.out.block j hj) HB4.out.size HP3.out (by rw [HXQ.out, HCN.out]; exact HP2.out) HB7.out HXA.out hg8 hb8 (by rw [HSA.out, HCN.out]; exact hown8) r2 r3)
        have HH9 : Hid (w9.heap[w.heap.size]? = some (.cells h.cells 37 (0, 0))) := Lib.hid ((r3.grown.block _ (lt_of_block n4) (fun e => by injection e with e; omega)).trans n4)
        have HWN : Hid (Below w.heap.size w w9) := Lib.hid ((((hw.out.trans (HB4.out.mono hw.out.size)).drew.trans (grown_below HP3.out.grown (by have := hw.out.size; have := HB4.out.size; show w.heap.size ≤ w4.heap.size; omega) (fun j hj => by injection hj; omega))).trans (HB7.out.mono (by omega))).trans (grown_below hg8 (by omega) (fun j hj => by have := HALT.out j hj.symm; omega))).trans (grown_below r3.grown (by omega) (fun j hj => by injection hj; omega))
        have HSN : Hid (w.heap.size + 3 ≤ w9.heap.size) := Lib.hid (by have := r3.grown.size; have := HB4.out.size; have := HSZ.out; omega)
        refine hK.out _ _ (fun _ _ => HS8'.out) (fun _ => ?_)
        clear hK K hown8 hg8 hb8 hk8 n1 n2 n3 n4 r2 r3
        (try simp only [Act.put, List.getElem_toArray, List.getElem_cons_succ, List.getElem_cons_zero, List.setIfInBounds_toArray, List.set_cons_zero, List.set_cons_succ])
        refine LastN.one (i := 12) (by kernel_rfl) rfl (fun K hK => ?_)
        go_simp
        refine hK.out _ _ (fun _ h => absurd rfl h) (fun _ => ?_)
        clear hK K
        (try simp only [Act.put, List.getElem_toArray, List.getElem_cons_succ, List.getElem_cons_zero, List.setIfInBounds_toArray, List.set_cons_zero, List.set_cons_succ])
        refine LastN.done (by kernel_rfl) ?_ _
        refine NoPanic.normal ?_
        clear r1
        go_wp2_with fail
        go_roundw
        case rel => exact ⟨k + 1, by omega, by go_num, HIN, HH9, HWN, HSN⟩
        case measure => simp [intOf]; omega
    · have hkm : k = m := by omega
      subst hkm
      have HEND : Hid (ByP L w (.returned (.map (some (w.heap.size + 1)))) wr) := Lib.hid (by
        obtain ⟨f, ft, G, CC, hf⟩ := HI.out
        have e := HNM.out
        refine ⟨_, f, G, CC, rfl, hf.gl.mono hn6, by omega, fun s hs => ?_, fun s hs => ?_, hw.out⟩
        · rw [← idxK_all, ← e] at hs; exact hf.no s hs
        · rw [← idxK_all, ← e] at hs ⊢; have := hf.yes s hs; exact ⟨this.1, this.2.1, by omega⟩)
      have h2 : ¬ ((k : Int) < (k : Int)) := by omega
      go_wp2_with fail
      go_ret
      exact HEND.out
end Go.Proofs.YtnkhnbpopdmkhaaGreat

namespace Go.Proofs.YtnkhnbpopdmkhaaGreat
set_option linter.unusedVariables false
open Go.RowKit Go.Maps
open Pl (firstG findG putG It)

/-- Block r ranges over the map at b, whose entries are as f says; those of which left says so are still to come. -/
def GR (w : World) (b r n : Nat) (f : Lit → Option Value) (left : Lit → Bool) (cnt : Nat) : Prop := ∃ D, w.ranges Tryz.prog 9 rawR b r n D left cnt ∧ SaysL D f
section
variable {w w' : World} {b r n cnt : Nat} {f : Lit → Option Value} {left : Lit → Bool}
theorem GR.gm (h : GR w b r n f left cnt) : GM 9 w b n f := by obtain ⟨D, h, s⟩ := h; exact ⟨D, h.owns, s⟩
theorem GR.kept (h : GR w b r n f left cnt) (hb : w'.heap[b]? = w.heap[b]?) (hr : w'.heap[r]? = w.heap[r]?) : GR w' b r n f left cnt := by
  obtain ⟨D, ⟨es, clock, since, seen, c0, h1, F, hs, hD, h2, rest⟩, s⟩ := h
  exact ⟨D, ⟨es, clock, since, seen, c0, hb.trans h1, F, hs, hD, hr.trans h2, rest⟩, s⟩
theorem GR.lt (h : GR w b r n f left cnt) : r < w.heap.size := by obtain ⟨D, h, _⟩ := h; exact h.lt
theorem GR.left_eq (h : GR w b r n f left cnt) : w.rangeLeft b r = cnt := by obtain ⟨D, h, _⟩ := h; exact h.left_eq
theorem GR.ne (h : GR w b r n f left cnt) : r ≠ b := by obtain ⟨D, h, _⟩ := h; exact h.ne
theorem GR.ne_cells {j : Nat} (h : GR w b r n f left cnt) {c : Array Value} {t : TypeId} {fr : Nat × Nat} (hb : w.heap[j]? = some (.cells c t fr)) : j ≠ r := by
  obtain ⟨D, ⟨es, clock, since, seen, c0, h1, F, hs, hD, h2, rest⟩, s⟩ := h
  rintro rfl; rw [hb] at h2; cases h2
end
theorem size_le {K : TypeId} {w : World} {b n : Nat} {D : DV} (h : w.ownsMap Tryz.prog K rawR b n D) : Maps.size D ≤ n := by
  obtain ⟨es, clock, hb, F, hs, rfl⟩ := h
  simp [Maps.size, length_sorted]
  exact hs
theorem key_inv {x : ByteArray} {kl : Lit} (h : keyOf Tryz.prog 9 (.string x) = some kl) : x.size ≤ 9223372036854775807 ∧ kl = sk x := by
  by_cases hx : x.size ≤ 9223372036854775807
  · rw [key_s hx] at h; injection h with h; exact ⟨hx, h.symm⟩
  · have hx' : ¬ x.size ≤ maxLen := hx
    simp [keyOf, Tryz.underlying9, mapKey, hx'] at h
theorem sk_same {s x : ByteArray} : (sk s).sameKey (sk x) = true ↔ s = x := ⟨fun h => sk_inj ((WideAt.sameKey_iff (sk_key x)).1 h), fun h => by subst h; exact WideAt.sameKey_self (sk_key s)⟩
theorem sk_diff {s x : ByteArray} (h : s ≠ x) : (sk s).sameKey (sk x) = false := by
  cases e : (sk s).sameKey (sk x) with
  | false => rfl
  | true => exact absurd (sk_same.1 e) h
/-- What the range hands out is what the map says. -/
theorem SaysL.next_at {D : DV} {f : Lit → Option Value} (h : SaysL D f) {x : ByteArray} {c : Value} {yd : DV} {yp : List MemPlace} (ha : ∀ zd, D.atKey (sk x) zd = yd) (hc : rawR c = some (yd, yp)) : f (sk x) = some c := by
  have h1 := rawR_inv hc
  cases hf : f (sk x) with
  | none =>
    have h2 : Maps.has D (sk x) = false := by rw [h.has _ (sk_key x), hf]; rfl
    have a1 := ha (.held (.bool true))
    have a2 := ha (.held (.bool false))
    rw [atKey_of_not_has h2] at a1 a2
    rw [← a2] at a1
    have := DataW.held.inj a1
    cases this
  | some v =>
    have a1 := ha (.held v)
    rw [h.at_ _ v _ (sk_key x) hf, h1] at a1
    rw [DataW.held.inj a1]
/-- No more entries than items. -/
theorem GM.tightS {w : World} {b n : Nat} {f : Lit → Option Value} (h : GM 9 w b n f) (S : List ByteArray) (hS : ∀ s, (f (sk s)).isSome = true → s ∈ S) : GM 9 w b S.length f := by
  obtain ⟨D, ho, hD⟩ := h
  have hstr : ∀ es', D = .map es' → ∀ p ∈ es', ∃ s, p.1 = sk s := by
    rintro es' rfl p hp
    obtain ⟨es, clock, hb, F, hs, hE⟩ := ho
    injection hE with hE
    subst hE
    obtain ⟨x, hx, rfl⟩ := List.mem_map.1 (mem_sorted.1 hp)
    obtain ⟨y, hy⟩ := F.reads x hx
    rw [WideElems.rg_of hy]
    obtain ⟨kl, hk⟩ := F.keys x hx
    have h1 := hk
    obtain ⟨s, hs'⟩ := Maps.keyOf_string_inv Tryz.underlying9 hk
    rw [hs'] at hk
    have h2 := WideElems.rd_key hy
    rw [hs'] at h2
    exact ⟨s, (key_inv h2).2⟩
  obtain ⟨es', rfl, hpw, hkl⟩ := ho.entries keyedS
  have hgm : GM 9 w b n f := ⟨_, ho, hD⟩
  have hl : (S.map sk).length = S.length := List.length_map ..
  rw [← hl]
  refine ⟨_, ?_, hD⟩
  obtain ⟨es, clock, hb, F, hs, hE⟩ := ho
  refine ⟨es, clock, hb, F, ?_, hE⟩
  have e1 : es.size = es'.length := by
    have := congrArg Maps.size hE
    simp [Maps.size, length_sorted] at this
    exact this.symm
  rw [e1]
  have hnd : (es'.map (·.1)).Nodup := List.pairwise_map.2 hpw
  have hsub : ∀ l ∈ es'.map (·.1), l ∈ S.map sk := fun l hl => by
    obtain ⟨p, hp, rfl⟩ := List.mem_map.1 hl
    obtain ⟨s, hs⟩ := hstr _ rfl p hp
    rw [hs]
    refine List.mem_map.2 ⟨s, hS s ?_, rfl⟩
    rw [← hs, ← hD.has _ (hkl p hp), has_eq, List.any_eq_true]
    exact ⟨p, hp, WideAt.sameKey_self (hkl p hp)⟩
  have := nodup_le _ _ hnd hsub
  simpa using this
/-- What a map of items says: the list Z s at each item s, each in a row of its own, of blocks of which Y holds. -/
structure IdxF (Y : Nat → Prop) (W : World) (Z : ByteArray → List (List Value)) (f : Lit → Option Value) (G C : ByteArray → Nat) : Prop where
  no : ∀ s, Z s = [] → f (sk s) = none
  yes : ∀ s, Z s ≠ [] → f (sk s) = some (.slice (some ⟨G s, 0, none⟩) (Z s).length (C s)) ∧ RowS W (G s) (C s) (Z s) ∧ Y (G s)
  inj : ∀ s t, Z s ≠ [] → Z t ≠ [] → G s = G t → s = t
theorem IdxF.row {Y : Nat → Prop} {W : World} {Z : ByteArray → List (List Value)} {f : Lit → Option Value} {G C : ByteArray → Nat} (h : IdxF Y W Z f G C) (s : ByteArray) :
    ∃ A c, (f (sk s)).getD (.slice none 0 0) = .slice A (Z s).length c ∧ W.ownsRow 0 112 8 (.slice A (Z s).length c) (Z s).length (Z s).flatten ∧ (A = none ∧ Z s = [] ∨ A = some ⟨G s, 0, none⟩ ∧ Z s ≠ []) := by
  by_cases hz : Z s = []
  · exact ⟨none, 0, by rw [h.no s hz, hz]; rfl, by rw [hz]; exact ⟨rfl, .inl ⟨rfl, rfl⟩⟩, .inl ⟨rfl, hz⟩⟩
  · exact ⟨_, _, by rw [(h.yes s hz).1]; rfl, (h.yes s hz).2.1, .inr ⟨rfl, hz⟩⟩
theorem IdxF.kept {Y : Nat → Prop} {W W' : World} {Z : ByteArray → List (List Value)} {f : Lit → Option Value} {G C : ByteArray → Nat} (h : IdxF Y W Z f G C) (hk : ∀ s, Z s ≠ [] → W'.heap[G s]? = W.heap[G s]?) : IdxF Y W' Z f G C :=
  ⟨h.no, fun s hs => ⟨(h.yes s hs).1, row_keep (h.yes s hs).2.1 (hk s hs), (h.yes s hs).2.2⟩, h.inj⟩
theorem RowS.cells {w : World} {g c : Nat} {S : List (List Value)} (h : RowS w g c S) : ∃ cur : Array Value, w.heap[g]? = some (.cells cur 112 (0, 0)) := by
  obtain ⟨cur, hc, _⟩ := row_cells h
  exact ⟨cur, hc⟩
/-- One item's list is renewed. -/
theorem IdxF.step {Y : Nat → Prop} {W W2 W3 : World} {Z Z' : ByteArray → List (List Value)} {f : Lit → Option Value} {G C : ByteArray → Nat} {mb n m c c' : Nat} {A A' : Option Addr} {s0 : ByteArray} (h : IdxF Y W Z f G C) (hg : GM 9 W mb n f)
    (hY : ∀ k, W.heap.size ≤ k → Y k) (hZ : ∀ s, s ≠ s0 → Z' s = Z s) (hne : Z' s0 ≠ []) (hm : m = (Z' s0).length) (hA : A = none ∧ Z s0 = [] ∨ A = some ⟨G s0, 0, none⟩ ∧ Z s0 ≠ []) (hc : Onx (Blk A) W W2)
    (hown : W2.ownsRow 0 112 8 (.slice A' m c') m (Z' s0).flatten) (hbk : ∀ k, Blk A' k → Blk A k ∨ W.heap.size ≤ k) (ht : W2.mapTurned W3 mb) :
    ∃ G' C', IdxF Y W3 Z' (updL f (sk s0) (some (.slice A' m c'))) G' C' := by
  obtain ⟨g', rfl⟩ : ∃ g', A' = some ⟨g', 0, none⟩ := by
    rcases hown.2 with ⟨_, h0⟩ | ⟨g, cap, cur, hv, _⟩
    · exact absurd (List.length_eq_zero_iff.1 (hm.symm.trans h0)) hne
    · injection hv with hv _ _; exact ⟨g, hv⟩
  have t3 := ht.grown
  have hlt : ∀ s, Z s ≠ [] → G s < W.heap.size := fun s hs => own_ltS (h.yes s hs).2.1
  have hnm : ∀ s, Z s ≠ [] → G s ≠ mb := fun s hs => by
    obtain ⟨cur, hcur⟩ := (h.yes s hs).2.1.cells
    exact fun e => hg.ne_cells hcur e.symm
  have hAb : ∀ k, Blk A k → k = G s0 ∧ Z s0 ≠ [] := fun k hk => by
    obtain ⟨a, ha, rfl⟩ := hk
    rcases hA with ⟨rfl, _⟩ | ⟨rfl, h2⟩
    · cases ha
    · injection ha with ha; subst ha; exact ⟨rfl, h2⟩
  have hg' : (g' = G s0 ∧ Z s0 ≠ []) ∨ W.heap.size ≤ g' := (hbk g' ⟨_, rfl, rfl⟩).imp (fun k => hAb g' k) id
  have hgm : g' ≠ mb := by
    rcases hg' with ⟨e, h1⟩ | e
    · rw [e]; exact hnm s0 h1
    · have := hg.lt; omega
  have hkk : ∀ s, s ≠ s0 → Z s ≠ [] → W3.heap[G s]? = W.heap[G s]? := fun s hs hz => (t3.block _ (Nat.lt_of_lt_of_le (hlt s hz) hc.size) (fun e => hnm s hz (by injection e))).trans (hc.block _ (hlt s hz) (fun hb => hs (h.inj s s0 hz (hAb _ hb).2 (hAb _ hb).1)))
  have hne' : ∀ s, s ≠ s0 → Z s ≠ [] → G s ≠ g' := fun s hs hz => by
    rcases hg' with ⟨e, h1⟩ | e
    · rw [e]; exact fun q => hs (h.inj s s0 hz h1 q)
    · have := hlt s hz; omega
  have hrow : RowS W3 g' c' (Z' s0) := by
    unfold RowS
    rw [← hm]
    exact row_kept hown (t3.block _ (own_ltS hown) (fun e => hgm (by injection e)))
  have hYg : Y g' := by
    rcases hg' with ⟨e, h1⟩ | e
    · rw [e]; exact (h.yes s0 h1).2.2
    · exact hY _ e
  have hv : Pl.eqv s0 s0 = true := (Pl.eqv_iff _ _).2 rfl
  have hn : ∀ s, s ≠ s0 → ¬ Pl.eqv s s0 = true := fun s hs q => hs ((Pl.eqv_iff _ _).1 q)
  have u1 : ∀ s, s ≠ s0 → updL f (sk s0) (some (.slice (some ⟨g', 0, none⟩) m c')) (sk s) = f (sk s) := fun s hs => updL_other (sk_key s0) (fun e => hs (sk_inj e))
  refine ⟨fun s => if Pl.eqv s s0 = true then g' else G s, fun s => if Pl.eqv s s0 = true then c' else C s, fun s hs => ?_, fun s hs => ?_, fun s t hs ht => ?_⟩
  · by_cases e : s = s0
    · subst e; exact absurd hs hne
    · rw [u1 s e]; rw [hZ s e] at hs; exact h.no s hs
  · by_cases e : s = s0
    · subst e
      simp only [hv, if_true]
      rw [updL_same _ (sk_key s), ← hm]
      exact ⟨rfl, hrow, hYg⟩
    · simp only [if_neg (hn s e)]
      rw [hZ s e] at hs ⊢
      rw [u1 s e]
      exact ⟨(h.yes s hs).1, row_keep (h.yes s hs).2.1 (hkk s e hs), (h.yes s hs).2.2⟩
  · by_cases es : s = s0 <;> by_cases et : t = s0
    · exact fun _ => es.trans et.symm
    · subst es
      rw [hZ t et] at ht
      simp only [hv, if_true, if_neg (hn t et)]
      exact fun q => absurd q.symm (hne' t et ht)
    · subst et
      rw [hZ s es] at hs
      simp only [hv, if_true, if_neg (hn s es)]
      exact fun q => absurd q (hne' s es hs)
    · rw [hZ s es] at hs
      rw [hZ t et] at ht
      simp only [if_neg (hn s es), if_neg (hn t et)]
      exact h.inj s t hs ht
/-! ### stands are as a machine holds them -/
theorem mild_mem {L : Nat → List (List Value)} (hm : MildL L) {i : Nat} (hi : i < 14) {e : List Value} (he : e ∈ L i) {u : Value} (hu : u ∈ e) : Mild u := hm i hi e he u hu
theorem zone_mild {L : Nat → List (List Value)} (hm : MildL L) (t : Things kZone (L 2)) (s : ByteArray) : (siteZ (gotZone (L 2) s)).size ≤ 9223372036854775807 := by
  have hc := zone_cells (gotZone_fits t s)
  have hu : ∀ u ∈ gotZone (L 2) s, Mild u := by
    unfold gotZone
    split
    · rename_i i hi
      have hl : i < (L 2).length := Pl.firstG_lt hi
      rw [List.getD_eq_getElem?_getD, List.getElem?_eq_getElem hl]
      exact fun u hu => hm 2 (by decide) _ (List.getElem_mem hl) u hu
    · intro u hu
      simp only [zeroZone, List.mem_cons, List.not_mem_nil, or_false, or_self] at hu
      subst hu; exact Nat.zero_le _
  obtain ⟨z, hz⟩ : ∃ z, siteZ (gotZone (L 2) s) = z := ⟨_, rfl⟩
  rw [hz] at hc ⊢
  have h1 := hu (.string z) (by rw [hc]; simp)
  exact h1
theorem lot_mild {L : Nat → List (List Value)} (hm : MildL L) (t : Things kLot (L 1)) (a c : ByteArray) : Wf (expL (gotL (L 1) a c)) := by
  have hc := lot_cells (gotL_fits t a c)
  have hu : ∀ u ∈ gotL (L 1) a c, Mild u := by
    unfold gotL
    split
    · rename_i i hi
      have hl : i < (L 1).length := Pl.firstG_lt hi
      rw [List.getD_eq_getElem?_getD, List.getElem?_eq_getElem hl]
      exact fun u hu => hm 1 (by decide) _ (List.getElem_mem hl) u hu
    · intro u hu
      simp only [zeroL, List.mem_cons, List.not_mem_nil, or_false] at hu
      rcases hu with rfl | rfl | rfl
      · exact Nat.zero_le _
      · exact Nat.zero_le _
      · exact (by decide : (Lit.int .i64 0).wf = true)
  obtain ⟨z, hz⟩ : ∃ z, expL (gotL (L 1) a c) = z := ⟨_, rfl⟩
  rw [hz] at hc ⊢
  exact wf_mild (hu (.int .i64 z) (by rw [hc]; simp))
theorem mild_st {h : Hs} {L : Nat → List (List Value)} {w : World} (hh : HT h L w) (hn6 : h.n 4 ≤ 1000) (hm : MildL L) {i : Nat} (hi : i < (L 4).length) : (sdOf (stA L (twN L) i)).mild := by
  have hfq : Fits kQuant (qA (L 4) i) := by rw [qA_at (L 4) i hi]; exact (hh 4 (by decide)).2.2.1 _ (List.getElem_mem hi)
  obtain ⟨hq, _⟩ := mild_q hm hi hfq
  have hl4 : (L 4).length ≤ 1000 := by rw [← (hh 4 (by decide)).1]; exact hn6
  unfold stA
  rw [stE_of]
  refine ⟨hq, ?_, ?_, ?_, ?_⟩
  · show (siteT (L 2) (L 3) _).size ≤ _
    unfold siteT
    split
    · exact zone_mild hm (hh 2 (by decide)).2.2.1 _
    · exact Nat.zero_le _
  · show Wf (dayQ (L 1) _)
    unfold dayQ dayZ
    split
    · exact ⟨by decide, by decide⟩
    · exact lot_mild hm (hh 1 (by decide)).2.2.1 _ _
  · show Wf ((cntK L _ i : Nat) : Int)
    have := cntK_le L (qnOf (qA (L 4) i)).ky i
    constructor <;> omega
  · show Wf (wrap64 _)
    unfold wrap64
    constructor <;> omega
theorem mild_idx {h : Hs} {L : Nat → List (List Value)} {w : World} (hh : HT h L w) (hn6 : h.n 4 ≤ 1000) (hm : MildL L) (s : ByteArray) : ∀ e ∈ idxM L s, (sdOf e).mild := fun e he => by
  unfold idxM at he
  obtain ⟨i, hi, rfl⟩ := List.mem_map.1 he
  exact mild_st hh hn6 hm (List.mem_range.1 (List.mem_filter.1 hi).1)
/-- An item of the index is an item of a quant. -/
theorem idx_item {L : Nat → List (List Value)} {s : ByteArray} (h : idxL L s ≠ []) : s ∈ (L 4).map (fun e => (qnOf e).item) := by
  have h1 : idxM L s ≠ [] := fun e => h ((idx_nil L s).2 e)
  obtain ⟨x, hx⟩ := List.exists_mem_of_ne_nil _ h1
  unfold idxM at hx
  obtain ⟨i, hi, rfl⟩ := List.mem_map.1 hx
  obtain ⟨h2, h3⟩ := List.mem_filter.1 hi
  have h4 := List.mem_range.1 h2
  unfold elN itB at h3
  simp only [Bool.and_eq_true] at h3
  refine List.mem_map.2 ⟨(L 4)[i], List.getElem_mem h4, ?_⟩
  rw [← qA_at (L 4) i h4]
  exact (Pl.eqv_iff _ _).1 h3.1
end Go.Proofs.YtnkhnbpopdmkhaaGreat

namespace Go.Proofs.YtnkhnbpopdmkhaaGreat
set_option linter.unusedVariables false
open Go.RowKit
open Pl (firstG findG putG It firstG_none firstG_some)

open Go.Maps
theorem eql_list (j : Nat) (w : World) : Sem.run Tryz.prog (binOp .eql 118 (.map (some j)) (.map none)) w = .ok (.bool false) w := by kernel_rfl
set_option maxRecDepth 100000 in
set_option maxHeartbeats 6400000 in
theorem cfollow (h : Hs) (L L0 : Nat → List (List Value)) (b : Nat) (X : Nat → Prop) (w : World) (hx : IX0 w b X L0) (hh : HT h L w) (hn6 : h.n 4 ≤ 1000) (hm : MildL L) :
    Calls Tryz.prog 15 #[.pointer (some ⟨b, 0, none⟩), .agg h.cells] w fun e w' => e = .returned (.tuple #[]) ∧ Onx X w w' ∧ ∃ X' : Nat → Prop, IX0 w' b X' L ∧ ∀ k, X' k → X k ∨ w.heap.size ≤ k := by
  obtain ⟨mb, f, G, CC, hi1, hi2, hi3, hi4, hi5, hi6⟩ := hx.ex
  have HHT := Lib.hid hh
  have HMI := Lib.hid hm
  have HIX := Lib.hid hx
  have HI0 : Hid (IdxF X w (idxL L0) f G CC) := Lib.hid ⟨hi4, hi5, hi6⟩
  have HG0 := Lib.hid hi2
  have HXM := Lib.hid hi3
  have HL4 : Hid ((L 4).length ≤ 1000) := Lib.hid (by rw [← (hh 4 (by decide)).1]; exact hn6)
  have HN6 := Lib.hid hn6
  have hml : mb < w.heap.size := hi2.lt
  have hbm : b ≠ mb := fun e => hi2.ne_cells hi1 e.symm
  have HB0 := Lib.hid hi1
  obtain ⟨wa, hwa⟩ : ∃ W, W = w.alloc (.cells h.cells 37) := ⟨_, rfl⟩
  have HBA : Hid (Below w.heap.size w wa) := Lib.hid (by rw [hwa]; exact (Below.refl _ _).alloc (Nat.le_refl _) _)
  have HSA : Hid (wa.heap.size = w.heap.size + 1) := Lib.hid (by rw [hwa]; simp)
  have HHB : Hid (wa.heap[w.heap.size]? = some (.cells h.cells 37 (0, 0))) := Lib.hid (by rw [hwa]; exact heap_alloc_new w _)
  have HWA := Lib.hid hwa
  have HBW : Hid (wa.heap[b]? = some (.cells #[.map (some mb)] 120 (0, 0))) := Lib.hid ((HBA.out.block _ (lt_of_block hi1)).trans hi1)
  have hc0 : wa.cell? ⟨b, 0, none⟩ = some (.map (some mb)) := by rw [cell_of_block HBW.out]; rfl
  have hbl := lt_of_block HBW.out
  have huh := Tryz.underlying37
  have HSH : Hid ((Tryz.prog.info? 37).map (·.size) = some h.cells.size) := Lib.hid (by kernel_rfl)
  have CB : Hid (Calls Tryz.prog 39 #[.agg h.cells] wa (ByP L wa)) := Lib.hid (cby h L wa (hh.below HBA.out) hn6 hm)
  clear hx hh hm hi1 hi2 hi3 hi4 hi5 hi6 hwa
  have hmn := eql_list mb
  go_enter Tryz.func15, Tryz.ntmps15
  go_upto_region 2 with fail
  rw [← HWA.out]
  go_upto_region 4 with (first
    | (refine wpList_load_row rfl 37 (.tmp 3) rfl w.heap.size rfl _ _ _ _ HHB.out huh rfl HSH.out ?_)
    | fail)
  clear hc0 hbl
  go_wp2_with (first
    | (refine wpList_load_row rfl 37 (.tmp 3) rfl w.heap.size rfl _ _ _ _ HHB.out huh rfl HSH.out ?_)
    | fail)
  refine CB.out.mono ?_
  rintro e w1 ⟨mbN, fN, GN, CN, rfl, hgN, hmN, hnoN, hyN, hb1⟩
  have hs1 := hb1.size
  have hsa := HSA.out
  have HGN := Lib.hid hgN
  have HNO := Lib.hid hnoN
  have HYN := Lib.hid hyN
  have HB1 := Lib.hid (HBA.out.trans (hb1.mono (by omega)))
  have hml1 : mb < w1.heap.size := by omega
  have hmNl := hgN.lt
  have hne : mbN ≠ mb := by omega
  have HBX1 : Hid (w1.heap[b]? = some (.cells #[.map (some mb)] 120 (0, 0))) := Lib.hid ((hb1.block _ (lt_of_block HBW.out)).trans HBW.out)
  have hc1 : w1.cell? ⟨b, 0, none⟩ = some (.map (some mb)) := by rw [cell_of_block HBX1.out]; rfl
  have hbl1 := lt_of_block HBX1.out
  obtain ⟨D1, hD1, hS1⟩ := HG0.out.kept (HB1.out.block _ hml)
  clear hgN hnoN hyN hb1
  go_wp2_with (first
    | (at_range; refine wpList_range_own _ rfl _ 118 rfl 9 108 keyedS Tryz.underlying118 rawR mb 1000 D1 rfl hD1 ?_; intro w2 hrg2 hgr2 hs2)
    | fail)
  go_frame
  clear hc1 hbl1
  obtain ⟨r1, hr1⟩ : ∃ z, w1.heap.size = z := ⟨_, rfl⟩
  rw [hr1] at hrg2 ⊢
  have HR1 := Lib.hid hr1
  go_loopw [5, 6, 7] (fun _ _ _ wr => ∃ (left : Lit → Bool) (cnt : Nat) (f' : Lit → Option Value), Hid (GR wr mb r1 1000 f' left cnt) ∧ Hid (∀ s, f' (sk s) = if (left (sk s) || (fN (sk s)).isSome) = true then f (sk s) else none) ∧ Hid (Onx (fun j => j = mb) w1 wr)) (fun _ _ _ wr => wr.rangeLeft mb r1)
  case atStart =>
    refine ⟨_, _, f, Lib.hid ⟨D1, hrg2, hS1⟩, Lib.hid (fun s => ?_), Lib.hid ⟨hgr2.os, hgr2.tape, hgr2.output, hgr2.size, fun i hi _ => hgr2.block i hi (by simp)⟩⟩
    rw [hS1.has _ (sk_key s)]
    cases hc : f (sk s) with
    | none => split <;> rfl
    | some v => simp
  case round =>
    obtain ⟨left, cnt, f', HR, HF, HO⟩ := hrel
    obtain ⟨D, hrg, hS⟩ := HR.out
    clear hrg2 hgr2 hs2 hD1 hS1
    go_wp2_with (first
      | (at_next; refine wpList_next_ranges _ rfl _ rfl 9 keyedS rawR Value.string (fun v : Value => v) (fun key kl hk => Maps.keyOf_string_inv Tryz.underlying9 hk) (fun v y h => ⟨v, rfl⟩) mb r1 1000 _ _ _ rfl hrg ?_ ?_)
      | fail)
    · intro hc0 hl0
      obtain ⟨wb, hwb⟩ : ∃ z, z = wr := ⟨_, rfl⟩
      subst hwb
      clear hrg hS
      have hsb := HO.out.size
      have hkb : ∀ j, j < w1.heap.size → j ≠ mb → wb.heap[j]? = w1.heap[j]? := fun j h1 h2 => HO.out.block j h1 h2
      have hnN : ∀ s, (fN (sk s)).isSome = false → idxL L s = [] := fun s hs => by
        rw [idx_nil]
        by_cases hne : idxM L s = []
        · exact hne
        · rw [(HYN.out s hne).1] at hs; cases hs
      have hff : ∀ s, f' (sk s) = if (fN (sk s)).isSome = true then f (sk s) else none := fun s => by rw [HF.out s, hl0]; simp
      have HIA : Hid (IdxF X wb (fun s => if (fN (sk s)).isSome = true then idxL L0 s else idxL L s) f' G CC) := Lib.hid (by
        have hz : ∀ s, (if (fN (sk s)).isSome = true then idxL L0 s else idxL L s) ≠ [] → (fN (sk s)).isSome = true ∧ idxL L0 s ≠ [] := fun s hs => by
          cases hc : (fN (sk s)).isSome with
          | false => rw [hc] at hs; exact absurd (hnN s hc) hs
          | true => rw [hc] at hs; exact ⟨rfl, hs⟩
        refine ⟨fun s hs => ?_, fun s hs => ?_, fun s t hs ht => ?_⟩
        · rw [hff s]
          cases hc : (fN (sk s)).isSome with
          | false => simp
          | true => simp only [hc, if_true] at hs; rw [if_pos rfl]; exact HI0.out.no s hs
        · obtain ⟨h1, h2⟩ := hz s hs
          have h3 := HI0.out.yes s h2
          have h4 := own_ltS h3.2.1
          simp only [h1, if_true]
          rw [hff s, if_pos h1]
          obtain ⟨cur, hcur⟩ := h3.2.1.cells
          exact ⟨h3.1, row_keep h3.2.1 ((hkb _ (by omega) (fun e => HG0.out.ne_cells hcur e.symm)).trans (HB1.out.block _ h4)), h3.2.2⟩
        · exact HI0.out.inj s t (hz s hs).2 (hz t ht).2)
      obtain ⟨DN, hDN, hSN⟩ := HGN.out.kept (hkb _ hmNl hne)
      have HGB := Lib.hid HR.out.gm
      have HBB : Hid (wb.heap[b]? = some (.cells #[.map (some mb)] 120 (0, 0))) := Lib.hid ((hkb _ (lt_of_block HBX1.out) hbm).trans HBX1.out)
      have HKB := Lib.hid hkb
      clear hkb hnN hff
      go_wp2_with (first
        | (at_range; refine wpList_range_own _ rfl _ 118 rfl 9 108 keyedS Tryz.underlying118 rawR mbN 1000 DN rfl hDN ?_; intro w5 hrg5 hgr5 hs5)
        | fail)
      go_frame
      obtain ⟨r2, hr2⟩ : ∃ z, wb.heap.size = z := ⟨_, rfl⟩
      rw [hr2] at hrg5 ⊢
      have HR2 := Lib.hid hr2
      have hsz5 := size_le hDN
      go_loopw [8, 9] (fun _ _ wq => ∃ (left2 : Lit → Bool) (cnt2 n2 : Nat) (f2 : Lit → Option Value) (G2 C2 : ByteArray → Nat), Hid (GR wq mbN r2 1000 fN left2 cnt2) ∧ Hid (GM 9 wq mb n2 f2) ∧ n2 + cnt2 ≤ 2000 ∧ Hid (IdxF (fun j => X j ∨ r2 ≤ j) wq (fun s => if left2 (sk s) = true then idxL L0 s else idxL L s) f2 G2 C2) ∧ Hid (Onx X wb wq) ∧ Hid (wq.heap[b]? = some (.cells #[.map (some mb)] 120 (0, 0)))) (fun _ _ wq => wq.rangeLeft mbN r2)
      case atStart =>
        have hk5 : ∀ j, j < wb.heap.size → w5.heap[j]? = wb.heap[j]? := fun j hj => hgr5.block j hj (by simp)
        refine ⟨_, _, 1000, f', G, CC, Lib.hid ⟨DN, hrg5, hSN⟩, Lib.hid (HGB.out.kept (hk5 _ HGB.out.lt)), by omega, Lib.hid ?_, Lib.hid ⟨hgr5.os, hgr5.tape, hgr5.output, hgr5.size, fun i hi _ => hk5 i hi⟩, Lib.hid ((hk5 _ (lt_of_block HBB.out)).trans HBB.out)⟩
        have e : (fun s => if Maps.has DN (sk s) = true then idxL L0 s else idxL L s) = (fun s => if (fN (sk s)).isSome = true then idxL L0 s else idxL L s) := funext (fun s => by rw [hSN.has _ (sk_key s)])
        rw [e]
        have hi := HIA.out
        exact ⟨hi.no, fun s hs => ⟨(hi.yes s hs).1, row_keep (hi.yes s hs).2.1 (hk5 _ (own_ltS (hi.yes s hs).2.1)), .inl (hi.yes s hs).2.2⟩, hi.inj⟩
      case round =>
        obtain ⟨left2, cnt2, n2, f2, G2, C2, HRQ, HGQ, hnq, HIQ, HOQ, HBQ⟩ := hrel
        obtain ⟨wq, hwq⟩ : ∃ z, z = wr := ⟨_, rfl⟩
        subst hwq
        obtain ⟨D2, hrgq, hSq⟩ := HRQ.out
        clear hrg5 hgr5 hs5 hDN hSN hsz5
        go_wp2_with (first
          | (at_next; refine wpList_next_ranges _ rfl _ rfl 9 keyedS rawR Value.string (fun v : Value => v) (fun key kl hk => Maps.keyOf_string_inv Tryz.underlying9 hk) (fun v y h => ⟨v, rfl⟩) mbN r2 1000 _ _ _ rfl hrgq ?_ ?_)
          | fail)
        · intro hc2 hl2
          have HIE : Hid (IdxF (fun j => X j ∨ r2 ≤ j) wq (idxL L) f2 G2 C2) := Lib.hid (by
            have e : (fun s => if left2 (sk s) = true then idxL L0 s else idxL L s) = idxL L := funext (fun s => by rw [hl2]; rfl)
            have := HIQ.out
            rw [e] at this
            exact this)
          have HW : Hid (Onx X w wq) := Lib.hid (((Onx.below HB1.out (fun i h1 h2 => absurd h2 (by omega))).tr (HO.out.mono (fun i h1 _ => by rw [h1]; exact HXM.out))).tr HOQ.out)
          have HX : Hid (IX0 wq b (fun k => X k ∨ ∃ s, idxL L s ≠ [] ∧ k = G2 s) L) := Lib.hid (by
            have hi := HIE.out
            have ht := HGQ.out.tightS ((L 4).map (fun e => (qnOf e).item)) (fun s hs => idx_item (fun e => by rw [hi.no s e] at hs; cases hs))
            rw [List.length_map] at ht
            refine ⟨⟨mb, f2, G2, C2, HBQ.out, ht.mono HL4.out, .inl HXM.out, hi.no, fun s hs => ⟨(hi.yes s hs).1, (hi.yes s hs).2.1, .inr ⟨s, hs, rfl⟩⟩, hi.inj⟩, .inl HIX.out.xb, fun k hk => ?_, HL4.out, fun s e he => mild_idx HHT.out HN6.out HMI.out s e ((idx_mem L s e).1 he)⟩
            rcases hk with hk | ⟨s, hs, rfl⟩
            · exact Nat.lt_of_lt_of_le (HIX.out.lt k hk) HW.out.size
            · exact own_ltS (hi.yes s hs).2.1)
          have HXX : Hid (∀ k, (X k ∨ ∃ s, idxL L s ≠ [] ∧ k = G2 s) → X k ∨ w.heap.size ≤ k) := Lib.hid (fun k hk => by
            rcases hk with hk | ⟨s, hs, rfl⟩
            · exact .inl hk
            · rcases (HIE.out.yes s hs).2.2 with h1 | h1
              · exact .inl h1
              · have := HR2.out; exact .inr (by omega))
          clear hrgq hSq hl2
          go_wp2_with fail
          go_end0
          exact ⟨rfl, HW.out, _, HX.out, HXX.out⟩
        · intro x c kl yd yp w6 cnt6 hkx hlx hvx hatx hrg6 hlt6 hg6 hs6 hen
          obtain ⟨hx, rfl⟩ := key_inv hkx
          have hfx := hSq.next_at hatx hvx
          have hnx : idxM L x ≠ [] := fun e => by rw [HNO.out x e] at hfx; cases hfx
          obtain ⟨hy1, hy2, hy3⟩ := HYN.out x hnx
          rw [hfx] at hy1
          injection hy1 with hy1
          subst hy1
          obtain ⟨n1, hn1⟩ : ∃ z, (idxM L x).length = z := ⟨_, rfl⟩
          obtain ⟨gN, hgN⟩ : ∃ z, GN x = z := ⟨_, rfl⟩
          obtain ⟨cN, hcN⟩ : ∃ z, CN x = z := ⟨_, rfl⟩
          rw [hn1, hgN, hcN] at hen
          have hgl := own_ltS hy2
          rw [hgN] at hgl hy2 hy3
          have hsq := HOQ.out.size
          have hr2 := HR2.out
          have hk6 : ∀ j, j < wq.heap.size → j ≠ r2 → w6.heap[j]? = wq.heap[j]? := fun j h1 h2 => hg6.block j h1 (fun e => h2 (by injection e))
          have hXl : ∀ k, X k → k < w.heap.size := HIX.out.lt
          have hgm : gN ≠ mb := by omega
          have HRN : Hid (RowS w6 gN (CN x) (idxM L x)) := Lib.hid (row_keep hy2 (((hk6 _ (by omega) (by omega)).trans (HOQ.out.block _ (by omega) (fun h1 => by have := hXl _ h1; omega))).trans (HKB.out _ hgl hgm)))
          have HI6 := Lib.hid (HIQ.out.kept (W' := w6) (fun s hs => by
            obtain ⟨cur, hcur⟩ := (HIQ.out.yes s hs).2.1.cells
            exact hk6 _ (own_ltS (HIQ.out.yes s hs).2.1) (HRQ.out.ne_cells hcur)))
          have HG6 := Lib.hid (HGQ.out.kept (hk6 _ HGQ.out.lt (by omega)))
          have HR6 : Hid (GR w6 mbN r2 1000 fN (fun z => left2 z && !z.sameKey (sk x)) cnt6) := Lib.hid ⟨D2, hrg6, hSq⟩
          have HO6 : Hid (Onx X wb w6) := Lib.hid ⟨hg6.os.trans HOQ.out.os, hg6.tape.trans HOQ.out.tape, hg6.output.trans HOQ.out.output, Nat.le_trans HOQ.out.size hg6.size, fun j h1 h2 => (hk6 j (by omega) (by omega)).trans (HOQ.out.block j h1 h2)⟩
          have HB6 : Hid (w6.heap[b]? = some (.cells #[.map (some mb)] 120 (0, 0))) := Lib.hid ((hk6 _ (lt_of_block HBQ.out) (HRQ.out.ne_cells HBQ.out)).trans HBQ.out)
          obtain ⟨A, c0, hv0, ho0, hA0⟩ := HI6.out.row x
          have hZx : (fun s => if left2 (sk s) = true then idxL L0 s else idxL L s) x = idxL L0 x := if_pos hlx
          simp only [hlx, if_true] at hv0 ho0 hA0
          obtain ⟨n0, hn0⟩ : ∃ z, (idxL L0 x).length = z := ⟨_, rfl⟩
          rw [hn0] at hv0 ho0
          have h06 : n0 ≤ 1000 := by rw [← hn0]; exact Nat.le_trans (idx_len L0 x) HIX.out.le
          have h16 : n1 ≤ 1000 := by rw [← hn1]; exact Nat.le_trans (idxM_len L x) HL4.out
          have hAb : ∀ k, Blk A k → k = G2 x ∧ idxL L0 x ≠ [] := fun k hk => by
            obtain ⟨a, ha, rfl⟩ := hk
            rcases hA0 with ⟨rfl, _⟩ | ⟨rfl, h2⟩
            · cases ha
            · injection ha with ha; subst ha; exact ⟨rfl, h2⟩
          have hZn : idxL L0 x ≠ [] → (fun s => if left2 (sk s) = true then idxL L0 s else idxL L s) x ≠ [] := fun h1 => by rw [hZx]; exact h1
          have hAc : ∀ k, Blk A k → ∃ cur : Array Value, w6.heap[k]? = some (.cells cur 112 (0, 0)) := fun k hk => by
            obtain ⟨rfl, h2⟩ := hAb k hk
            exact (HI6.out.yes x (hZn h2)).2.1.cells
          have hAX : ∀ k, Blk A k → X k ∨ r2 ≤ k := fun k hk => by
            obtain ⟨rfl, h2⟩ := hAb k hk
            exact (HI6.out.yes x (hZn h2)).2.2
          have CU : Hid (Calls Tryz.prog 40 #[.slice A n0 c0, .slice (some ⟨gN, 0, none⟩) n1 cN] w6.drew (UpdP A (idxM L x) w6.drew)) := Lib.hid (cupd A (some ⟨gN, 0, none⟩) n0 c0 n1 cN (idxL L0 x) (idxM L x) w6.drew hn0.symm h06 hn1.symm h16 (things_st _ _ _) (things_st _ _ _) (HIX.out.md x) (mild_idx HHT.out HN6.out HMI.out x) (idx_strict L0 x) (fun a ha b hb => idx_two ha hb) ho0 (Rd.of_own HRN.out) (fun k hk hk' => by
            obtain ⟨a, ha, rfl⟩ := hk
            injection ha with ha
            subst ha
            rcases hAX _ hk' with h1 | h1
            · have h2 : X gN := h1
              have := hXl _ h2
              omega
            · have h2 : r2 ≤ gN := h1
              omega))
          have hlkW : ∀ W : World, W.heap[mb]? = w6.heap[mb]? → (Instr.lookup 118 (.map (some mb)) (.string x) false).run Tryz.prog W = .ok (.slice A n0 c0) W := fun W hW => by
            have := (HG6.out.kept hW).look (t := 118) keyedS Tryz.underlying118 (z := .slice none 0 0) (Tryz.zeroValue108 W) hkx
            rw [hv0] at this
            exact this
          have HST : Hid (∀ W : World, W.heap[b]? = w6.heap[b]? → W.heap[mb]? = w6.heap[mb]? → W.cell? ⟨b, 0, none⟩ = some (.map (some mb)) ∧ (Instr.lookup 118 (.map (some mb)) (.string x) false).run Tryz.prog W = .ok (.slice A n0 c0) W) := Lib.hid (fun W h1 h2 => ⟨by rw [cell_of_block (h1.trans HB6.out)]; rfl, hlkW W h2⟩)
          have HSD := Lib.hid (HST.out w6.drew rfl rfl)
          have HAB := Lib.hid hAb
          have HAC := Lib.hid hAc
          have HAX := Lib.hid hAX
          have HA0 := Lib.hid hA0
          have HKX := Lib.hid hkx
          have HLX := Lib.hid hlx
          have HXL := Lib.hid hXl
          have HXS := Lib.hid hx
          have HZN := Lib.hid hZn
          have HZX := Lib.hid hZx
          have HN0 := Lib.hid hn0
          have HNX := Lib.hid hnx
          have hml6 := HG6.out.lt
          have hmN6 := HR6.out.gm.lt
          have hrl6 := HR6.out.lt
          have hbl6 := lt_of_block HB6.out
          clear hlkW hAb hAc hAX hA0 hkx hlx hXl hx hZn hZx hv0 ho0 hn0 hk6 hy2 hfx hatx hvx hn1 hcN hnx hrgq hrg6 hSq hg6
          go_upto_region 14 with fail
          refine lastN_region (S := fun w' => w'.cell? ⟨b, 0, none⟩ = some (.map (some mb)) ∧ (Instr.lookup 118 (.map (some mb)) (.string x) false).run Tryz.prog w' = .ok (.slice A n0 c0) w') (n := 13) (by kernel_rfl) ?_
          refine LastN.pure (i := 0) (v := .pointer (some ⟨b, 0, none⟩)) rfl (by kernel_rfl) (by kernel_rfl) (by kernel_rfl) (by decide) (fun _ _ _ h => h.elim) (.inl ⟨by kernel_rfl, fun w hw => by clear hw; go_simp⟩) (fun _ => HSD.out) ?_
          (try simp only [Act.put, List.getElem_toArray, List.getElem_cons_zero, List.setIfInBounds_toArray, List.set_cons_zero, List.set_cons_succ])
          refine LastN.pure (i := 1) (v := .pointer (some ⟨b, 0, none⟩)) rfl (by kernel_rfl) (by kernel_rfl) (by kernel_rfl) (by decide) (fun _ _ _ h => h.elim) (.inl ⟨by kernel_rfl, fun w hw => by clear hw; go_simp⟩) (fun _ => HSD.out) ?_
          (try simp only [Act.put, List.getElem_toArray, List.getElem_cons_succ, List.getElem_cons_zero, List.setIfInBounds_toArray, List.set_cons_zero, List.set_cons_succ])
          refine LastN.pure (i := 2) (v := .pointer (some ⟨b, 0, none⟩)) rfl (by kernel_rfl) (by kernel_rfl) (by kernel_rfl) (by decide) (fun _ _ _ h => h.elim) (.inl ⟨by kernel_rfl, fun w hw => by clear hw; go_simp⟩) (fun _ => HSD.out) ?_
          (try simp only [Act.put, List.getElem_toArray, List.getElem_cons_succ, List.getElem_cons_zero, List.setIfInBounds_toArray, List.set_cons_zero, List.set_cons_succ])
          refine LastN.take (i := 3) (v := .map (some mb)) rfl (by kernel_rfl) (by kernel_rfl) (by kernel_rfl) (by kernel_rfl) (by kernel_rfl) (by decide) (fun _ _ _ h => h.elim) (.inl ⟨by kernel_rfl, fun w h => by have hw := h.1; clear h; go_simp⟩) HSD.out ?_
          (try simp only [Act.put, List.getElem_toArray, List.getElem_cons_succ, List.getElem_cons_zero, List.setIfInBounds_toArray, List.set_cons_zero, List.set_cons_succ])
          refine LastN.pure (i := 4) (v := .string x) rfl (by kernel_rfl) (by kernel_rfl) (by kernel_rfl) (by decide) (fun _ _ _ h => h.elim) (.inl ⟨by kernel_rfl, fun w hw => by clear hw; go_simp⟩) (fun _ => HSD.out) ?_
          (try simp only [Act.put, List.getElem_toArray, List.getElem_cons_succ, List.getElem_cons_zero, List.setIfInBounds_toArray, List.set_cons_zero, List.set_cons_succ])
          refine LastN.pure (i := 5) (v := .pointer (some ⟨b, 0, none⟩)) rfl (by kernel_rfl) (by kernel_rfl) (by kernel_rfl) (by decide) (fun _ _ _ h => h.elim) (.inl ⟨by kernel_rfl, fun w hw => by clear hw; go_simp⟩) (fun _ => HSD.out) ?_
          (try simp only [Act.put, List.getElem_toArray, List.getElem_cons_succ, List.getElem_cons_zero, List.setIfInBounds_toArray, List.set_cons_zero, List.set_cons_succ])
          refine LastN.pure (i := 6) (v := .pointer (some ⟨b, 0, none⟩)) rfl (by kernel_rfl) (by kernel_rfl) (by kernel_rfl) (by decide) (fun _ _ _ h => h.elim) (.inl ⟨by kernel_rfl, fun w hw => by clear hw; go_simp⟩) (fun _ => HSD.out) ?_
          (try simp only [Act.put, List.getElem_toArray, List.getElem_cons_succ, List.getElem_cons_zero, List.setIfInBounds_toArray, List.set_cons_zero, List.set_cons_succ])
          refine LastN.pure (i := 7) (v := .pointer (some ⟨b, 0, none⟩)) rfl (by kernel_rfl) (by kernel_rfl) (by kernel_rfl) (by decide) (fun _ _ _ h => h.elim) (.inl ⟨by kernel_rfl, fun w hw => by clear hw; go_simp⟩) (fun _ => HSD.out) ?_
          (try simp only [Act.put, List.getElem_toArray, List.getElem_cons_succ, List.getElem_cons_zero, List.setIfInBounds_toArray, List.set_cons_zero, List.set_cons_succ])
          refine LastN.take (i := 8) (v := .map (some mb)) rfl (by kernel_rfl) (by kernel_rfl) (by kernel_rfl) (by kernel_rfl) (by kernel_rfl) (by decide) (fun _ _ _ h => h.elim) (.inl ⟨by kernel_rfl, fun w h => by have hw := h.1; clear h; go_simp⟩) HSD.out ?_
          (try simp only [Act.put, List.getElem_toArray, List.getElem_cons_succ, List.getElem_cons_zero, List.setIfInBounds_toArray, List.set_cons_zero, List.set_cons_succ])
          refine LastN.pure (i := 9) (v := .string x) rfl (by kernel_rfl) (by kernel_rfl) (by kernel_rfl) (by decide) (fun _ _ _ h => h.elim) (.inl ⟨by kernel_rfl, fun w hw => by clear hw; go_simp⟩) (fun _ => HSD.out) ?_
          (try simp only [Act.put, List.getElem_toArray, List.getElem_cons_succ, List.getElem_cons_zero, List.setIfInBounds_toArray, List.set_cons_zero, List.set_cons_succ])
          refine LastN.take (i := 10) (v := .slice A n0 c0) rfl (by kernel_rfl) (by kernel_rfl) (by kernel_rfl) (by kernel_rfl) (by kernel_rfl) (by decide) (fun _ _ _ h => h.elim) (.inl ⟨by kernel_rfl, fun w h => by have hw := h.2; clear h; go_simp⟩) HSD.out ?_
          (try simp only [Act.put, List.getElem_toArray, List.getElem_cons_succ, List.getElem_cons_zero, List.setIfInBounds_toArray, List.set_cons_zero, List.set_cons_succ])
          refine LastN.pure (i := 11) (v := .slice (some ⟨gN, 0, none⟩) n1 cN) rfl (by kernel_rfl) (by kernel_rfl) (by kernel_rfl) (by decide) (fun _ _ _ h => h.elim) (.inl ⟨by kernel_rfl, fun w hw => by clear hw; go_simp⟩) (fun _ => HSD.out) ?_
          (try simp only [Act.put, List.getElem_toArray, List.getElem_cons_succ, List.getElem_cons_zero, List.setIfInBounds_toArray, List.set_cons_zero, List.set_cons_succ])
          refine LastN.one (i := 12) (by kernel_rfl) rfl (fun K hK => ?_)
          go_simp
          refine (CU.out).mono ?_
          rintro e w7 ⟨A', c', Cc, rfl, ho7, hs7, hm7, hbk7, hx7⟩
          obtain rfl := idx_of hs7 hm7
          have hnm : ¬ Blk A mb := fun hk => by
            obtain ⟨cur, hcur⟩ := HAC.out _ hk
            exact HG6.out.ne_cells hcur rfl
          have hnN : ¬ Blk A mbN := fun hk => by
            obtain ⟨cur, hcur⟩ := HAC.out _ hk
            exact HR6.out.gm.ne_cells hcur rfl
          have hnr : ¬ Blk A r2 := fun hk => by
            obtain ⟨cur, hcur⟩ := HAC.out _ hk
            exact HR6.out.ne_cells hcur rfl
          have hnb : ¬ Blk A b := fun hk => by
            obtain ⟨cur, hcur⟩ := HAC.out _ hk
            rw [HB6.out] at hcur
            injection hcur with hcur
            injection hcur with _ ht _
            exact absurd ht (by decide)
          have hg7 := HG6.out.kept (hx7.block _ hml6 hnm)
          obtain ⟨w8, p1, p2, p3⟩ := hg7.store (t := 118) keyedS Tryz.underlying118 (by simp only [maxLen]; omega) HKX.out (.slice A' (idxL L x).length c')
          have HS7 := Lib.hid (HST.out w7 (hx7.block _ hbl6 hnb) (hx7.block _ hml6 hnm))
          have t8 := p3.grown
          have hs67 := hx7.size
          have hs67' : w6.heap.size ≤ w7.heap.size := hs67
          have hk8 : ∀ j, j < w6.heap.size → ¬ Blk A j → j ≠ mb → w8.heap[j]? = w6.heap[j]? := fun j h1 h2 h3 => (t8.block j (by omega) (fun e => h3 (by injection e))).trans (hx7.block j h1 h2)
          have HR8 := Lib.hid (HR6.out.kept (hk8 _ hmN6 hnN hne) (hk8 _ hrl6 hnr (by omega)))
          have HG8 := Lib.hid p2
          have HB8 : Hid (w8.heap[b]? = some (.cells #[.map (some mb)] 120 (0, 0))) := Lib.hid ((hk8 _ hbl6 hnb hbm).trans HB6.out)
          have HO8 : Hid (Onx X wb w8) := Lib.hid ((HO6.out.drew.trans hx7 (fun _ h => h) (fun k h1 h2 => by
            rcases HAX.out k h1 with h3 | h3
            · exact h3
            · omega)).tr (Onx.turned p3 HXM.out))
          obtain ⟨G8, C8, hi8⟩ := IdxF.step (c := 0) (Y := fun j => X j ∨ r2 ≤ j) (Z := fun s => if left2 (sk s) = true then idxL L0 s else idxL L s) (W := w6.drew) (Z' := fun s => if (left2 (sk s) && !(sk s).sameKey (sk x)) = true then idxL L0 s else idxL L s) (m := (idxL L x).length) (s0 := x) (HI6.out.kept (W' := w6.drew) (fun _ _ => rfl)) (HG6.out.kept rfl) (fun k hk => .inr (by
            have hk' : w6.heap.size ≤ k := hk
            omega)) (fun s hs => by
            show (if (left2 (sk s) && !(sk s).sameKey (sk x)) = true then _ else _) = (if left2 (sk s) = true then _ else _)
            rw [sk_diff hs]; simp) (by
            show (if (left2 (sk x) && !(sk x).sameKey (sk x)) = true then _ else _) ≠ _
            rw [sk_same.2 rfl]
            simp only [Bool.not_true, Bool.and_false, Bool.false_eq_true, if_false]
            exact fun e => HNX.out ((idx_nil L x).1 e)) (by
            show _ = (if (left2 (sk x) && !(sk x).sameKey (sk x)) = true then _ else _ : List (List Value)).length
            rw [sk_same.2 rfl]; simp) (by
            rcases HA0.out with ⟨h1, h2⟩ | ⟨h1, h2⟩
            · exact .inl ⟨h1, HZX.out.trans h2⟩
            · exact .inr ⟨h1, HZN.out h2⟩) hx7 (by
            show w7.ownsRow 0 _ 8 _ _ (if (left2 (sk x) && !(sk x).sameKey (sk x)) = true then _ else _ : List (List Value)).flatten
            rw [sk_same.2 rfl]
            simpa using ho7) hbk7 p3
          have HI8 := Lib.hid hi8
          clear hi8 hk8 t8 hs67 hs67' hg7 p2 p3 hnm hnN hnr hnb ho7 hs7 hm7 hbk7 hx7
          refine hK.out _ _ (fun _ _ => HS7.out) (fun _ => ?_)
          clear hK K
          (try simp only [Act.put, List.getElem_toArray, List.getElem_cons_succ, List.getElem_cons_zero, List.setIfInBounds_toArray, List.set_cons_zero, List.set_cons_succ])
          refine LastN.one (i := 13) (by kernel_rfl) rfl (fun K hK => ?_)
          go_simp
          refine hK.out _ _ (fun _ h => absurd rfl h) (fun _ => ?_)
          clear hK K
          (try simp only [Act.put, List.getElem_toArray, List.getElem_cons_succ, List.getElem_cons_zero, List.setIfInBounds_toArray, List.set_cons_zero, List.set_cons_succ])
          refine LastN.done (by kernel_rfl) ?_ _
          refine NoPanic.normal ?_
          clear p1
          go_wp2_with fail
          go_roundw
          case rel => exact ⟨_, cnt6, n2 + 1, _, G8, C8, HR8, HG8, by omega, HI8, HO8, HB8⟩
          case measure => rw [HR8.out.left_eq, HRQ.out.left_eq]; exact hlt6

    · intro x c kl yd yp w3 cnt3 hkx hlx hvx hatx hrg3 hlt3 hg3 hs3 hen
      obtain ⟨hx, rfl⟩ := key_inv hkx
      have hs13 := HO.out.size
      have hk3 : ∀ j, j < w1.heap.size → j ≠ mb → w3.heap[j]? = w1.heap[j]? := fun j h1 h2 => (hg3.block j (by omega) (fun e => by injection e; omega)).trans (HO.out.block j h1 h2)
      have hgn3 := HGN.out.kept (hk3 _ hmNl hne)
      have hlk := hgn3.look_ok (t := 118) keyedS Tryz.underlying118 (z := .slice none 0 0) (Tryz.zeroValue108 w3) hkx
      obtain ⟨vN, hvN⟩ : ∃ z, (fN (sk x)).getD (.slice none 0 0) = z := ⟨_, rfl⟩
      obtain ⟨is, his⟩ : ∃ z, (fN (sk x)).isSome = z := ⟨_, rfl⟩
      rw [hvN, his] at hlk
      have HB3 : Hid (w3.heap[b]? = some (.cells #[.map (some mb)] 120 (0, 0))) := Lib.hid ((hk3 _ (lt_of_block HBX1.out) hbm).trans HBX1.out)
      have hc3 : w3.cell? ⟨b, 0, none⟩ = some (.map (some mb)) := by rw [cell_of_block HB3.out]; rfl
      have hbl3 := lt_of_block HB3.out
      have HO3 : Hid (Onx (fun j => j = mb) w1 w3) := Lib.hid ⟨hg3.os.trans HO.out.os, hg3.tape.trans HO.out.tape, hg3.output.trans HO.out.output, Nat.le_trans hs13 hg3.size, fun j h1 h2 => hk3 j h1 h2⟩
      cases is with
      | true =>
        have HF3 : Hid (∀ s, f' (sk s) = if ((left (sk s) && !(sk s).sameKey (sk x)) || (fN (sk s)).isSome) = true then f (sk s) else none) := Lib.hid (fun s => by
          rw [HF.out s]
          by_cases e : s = x
          · subst e; rw [his]; simp
          · rw [sk_diff e]; simp)
        have HR3 : Hid (GR w3 mb r1 1000 f' (fun z => left z && !z.sameKey (sk x)) cnt3) := Lib.hid ⟨D, hrg3, hS⟩
        clear hk3 hgn3 hvN his hatx
        go_wp2_with fail
        go_roundw
        case rel => exact ⟨_, cnt3, f', HR3, HF3, HO3⟩
        case measure => rw [HR3.out.left_eq, HR.out.left_eq]; exact hlt3
      | false =>
        clear hk3 hgn3 hvN hatx
        go_wp2_with (first
          | (at_delete; refine wpList_delete_ranges _ rfl _ _ 118 9 rfl 108 keyedS Tryz.underlying118 rawR mb r1 1000 _ _ _ rfl hrg3 (.string x) (sk x) rfl hkx ?_; intro w4 cnt4 hrg4 hle4 hturn4; go_frame)
          | fail)
        rw [strike_twice] at hrg4
        have HF4 : Hid (∀ s, updL f' (sk x) none (sk s) = if ((left (sk s) && !(sk s).sameKey (sk x)) || (fN (sk s)).isSome) = true then f (sk s) else none) := Lib.hid (fun s => by
          by_cases e : s = x
          · subst e; rw [updL_same _ (sk_key s), his, sk_same.2 rfl]; simp
          · rw [updL_other (sk_key x) (fun q => e (sk_inj q)), HF.out s, sk_diff e]; simp)
        have HR4 : Hid (GR w4 mb r1 1000 (updL f' (sk x) none) (fun z => left z && !z.sameKey (sk x)) cnt4) := Lib.hid ⟨_, hrg4, hS.del (sk_key x)⟩
        have HO4 : Hid (Onx (fun j => j = mb) w1 w4) := Lib.hid (HO3.out.tr (Onx.turned hturn4 rfl))
        go_roundw
        case rel => exact ⟨_, cnt4, _, HR4, HF4, HO4⟩
        case measure => rw [HR4.out.left_eq, HR.out.left_eq]; omega
end Go.Proofs.YtnkhnbpopdmkhaaGreat

namespace Go.Proofs.YtnkhnbpopdmkhaaGreat
set_option linter.unusedVariables false
open Go.RowKit Go.Maps

theorem cons : ConsX IX0 where
  keep := ix_keep
  lt := fun w b X L h => h.lt
  new := cnew
  follow := fun h L L0 b X w hx hh hn hm hoff => (cfollow h L L0 b X w hx hh (hn 4 (by decide)) hm).mono (by
    rintro e w' ⟨rfl, ho, X', h1, h2⟩
    exact ⟨rfl, fun B hB hX => ho.to_below hB (fun i hi _ => hX i hi), fun k hk hx => ho.block k hk hx, X', h1, h2⟩)
  pick := cpick
  naive := fun h L s i n w hh hn hw => cnaive h L s i n w hh hn hw
  opens := fun h L s i w hh hn => copen h L s i w hh hn
  nilf := fun h L w hh => cnilf h w
  nilp := cnilp
end Go.Proofs.YtnkhnbpopdmkhaaGreat
