/-
  WHAT byItem's loop keeps: the map of lists, the map of twins, up to the k-th quant.
-/
import Derived.Test.YtnkhnbpopdmkhaaNUpd
import Derived.Test.YtnkhnbpopdmkhaaNIx
import Derived.Test.YtnkhnbpopdmkhaaWCon
namespace Go.Proofs.Ytnkhnbpopdmkhaa
set_option linter.unusedVariables false
open Go.RowKit Go.Maps

/-- An item's stands among the first k quants. -/
def idxK (L : Nat → List (List Value)) (item : ByteArray) (k : Nat) : List (List Value) := ((List.range k).filter (elN L item)).map (stA L (twN L))
theorem idxK_succ (L : Nat → List (List Value)) (item : ByteArray) (k : Nat) : idxK L item (k + 1) = idxK L item k ++ if elN L item k = true then [stA L (twN L) k] else [] := by
  unfold idxK
  rw [List.range_succ, List.filter_append, List.map_append]
  congr 1
  by_cases h : elN L item k = true
  · rw [if_pos h]; simp only [List.filter_cons, h, if_true]; rfl
  · rw [if_neg h]; simp only [List.filter_cons, h]; rfl
theorem idxK_all (L : Nat → List (List Value)) (item : ByteArray) : idxK L item (L 4).length = idxM L item := rfl
theorem idxK_len (L : Nat → List (List Value)) (item : ByteArray) (k : Nat) : (idxK L item k).length ≤ k := by
  unfold idxK
  rw [List.length_map]
  refine Nat.le_trans (List.length_filter_le _ _) ?_
  rw [List.length_range]; exact Nat.le_refl _
theorem idxK_things (L : Nat → List (List Value)) (item : ByteArray) (k : Nat) : Things kstand (idxK L item k) := things_st _ _ _
/-- What the maps hold behind k quants. -/
structure ByF (L : Nat → List (List Value)) (B0 mbL mbT k : Nat) (W : World) (f ft : Lit → Option Value) (G C : ByteArray → Nat) : Prop where
  gl : GM 9 W mbL k f
  gt : GM kyT W mbT k ft
  tw : ∀ ky : Ky, ky.mild → ft (kk ky) = if cntK L ky k = 0 then none else some (.int .i64 (cntK L ky k : Nat))
  no : ∀ s, idxK L s k = [] → f (sk s) = none
  yes : ∀ s, idxK L s k ≠ [] → f (sk s) = some (.slice (some ⟨G s, 0, none⟩) (idxK L s k).length (C s)) ∧ RowS W (G s) (C s) (idxK L s k) ∧ B0 ≤ G s
  inj : ∀ s t, idxK L s k ≠ [] → idxK L t k ≠ [] → G s = G t → s = t
def ByI (L : Nat → List (List Value)) (B0 mbL mbT k : Nat) (W : World) : Prop := ∃ f ft G C, ByF L B0 mbL mbT k W f ft G C
theorem cntK_zero (L : Nat → List (List Value)) (ky : Ky) : cntK L ky 0 = 0 := by unfold cntK; simp
theorem ByI.start {L : Nat → List (List Value)} {B0 mbL mbT : Nat} {W : World} (h1 : GM 9 W mbL 0 (fun _ => none)) (h2 : GM kyT W mbT 0 (fun _ => none)) : ByI L B0 mbL mbT 0 W :=
  ⟨_, _, fun _ => 0, fun _ => 0, h1, h2, fun ky _ => by rw [if_pos (cntK_zero L ky)], fun _ _ => rfl, fun s h => absurd rfl h, fun s t h => absurd rfl h⟩
theorem row_keep {w w' : World} {g c : Nat} {S : List (List Value)} (h : RowS w g c S) (e : w'.heap[g]? = w.heap[g]?) : RowS w' g c S := row_kept h e
theorem ByI.skip {L : Nat → List (List Value)} {B0 mbL mbT k : Nat} {W W' : World} (h : ByI L B0 mbL mbT k W) (hk : k < (L 4).length) (he : elB (L 2) (L 3) (qA (L 4) k) = false) (hb : Below W.heap.size W W') : ByI L B0 mbL mbT (k + 1) W' := by
  obtain ⟨f, ft, G, C, h⟩ := h
  have e1 : ∀ s, idxK L s (k + 1) = idxK L s k := fun s => by rw [idxK_succ, if_neg (by unfold elN; rw [he]; simp), List.append_nil]
  have e2 : ∀ ky, cntK L ky (k + 1) = cntK L ky k := fun ky => by rw [cntK_succ L ky hk, if_neg (by rw [he]; simp)]; omega
  exact ⟨f, ft, G, C, (h.gl.kept (hb.block _ h.gl.lt)).mono (Nat.le_succ k), (h.gt.kept (hb.block _ h.gt.lt)).mono (Nat.le_succ k), fun ky m => by rw [e2]; exact h.tw ky m, fun s hs => by rw [e1] at hs; exact h.no s hs,
    fun s hs => by rw [e1] at hs ⊢; exact ⟨(h.yes s hs).1, row_keep (h.yes s hs).2.1 (hb.block _ (own_ltS (h.yes s hs).2.1)), (h.yes s hs).2.2⟩, fun s t hs ht => by rw [e1] at hs ht; exact h.inj s t hs ht⟩
theorem ByF.step {L : Nat → List (List Value)} {B0 mbL mbT k g' c' : Nat} {W W' : World} {f ft : Lit → Option Value} {G C : ByteArray → Nat} (h : ByF L B0 mbL mbT k W f ft G C) (hk : k < (L 4).length) {s0 : ByteArray} (hs0 : (qnOf (qA (L 4) k)).item = s0) (he : elB (L 2) (L 3) (qA (L 4) k) = true) (hm : (qnOf (qA (L 4) k)).ky.mild)
    (e1 : GM 9 W' mbL (k + 1) (updL f (sk s0) (some (.slice (some ⟨g', 0, none⟩) ((idxK L s0 k).length + 1) c')))) (e2 : GM kyT W' mbT (k + 1) (updL ft (kk (qnOf (qA (L 4) k)).ky) (some (.int .i64 ((cntK L (qnOf (qA (L 4) k)).ky k + 1 : Nat) : Int)))))
    (e3 : RowS W' g' c' (idxK L s0 k ++ [stA L (twN L) k])) (e4 : ∀ s, s ≠ s0 → idxK L s k ≠ [] → W'.heap[G s]? = W.heap[G s]?) (e5 : B0 ≤ g') (e6 : ∀ s, s ≠ s0 → idxK L s k ≠ [] → G s ≠ g') : ByI L B0 mbL mbT (k + 1) W' := by
  have el : ∀ s, elN L s k = Pl.eqv s0 s := fun s => by unfold elN itB; rw [he, hs0, Bool.and_true]
  have i0 : idxK L s0 (k + 1) = idxK L s0 k ++ [stA L (twN L) k] := by rw [idxK_succ, if_pos (by rw [el]; exact (Pl.eqv_iff _ _).2 rfl)]
  have i1 : ∀ s, s ≠ s0 → idxK L s (k + 1) = idxK L s k := fun s hs => by
    rw [idxK_succ, if_neg (by rw [el]; intro e; exact hs ((Pl.eqv_iff _ _).1 e).symm), List.append_nil]
  have u1 : ∀ s, s ≠ s0 → updL f (sk s0) (some (.slice (some ⟨g', 0, none⟩) ((idxK L s0 k).length + 1) c')) (sk s) = f (sk s) := fun s hs => updL_other (sk_key s0) (fun e => hs (sk_inj e))
  refine ⟨_, _, fun s => if Pl.eqv s s0 = true then g' else G s, fun s => if Pl.eqv s s0 = true then c' else C s, e1, e2, fun ky m => ?_, fun s hs => ?_, fun s hs => ?_, fun s t hs ht => ?_⟩
  · rw [cntK_succ L ky hk, he]
    simp only [Bool.true_and]
    by_cases hky : ky = (qnOf (qA (L 4) k)).ky
    · subst hky
      rw [if_pos (isKy_iff.2 rfl), updL_same _ (by trivial), if_neg (by omega)]
    · rw [if_neg (fun e => hky (isKy_iff.1 e).symm), updL_other (by trivial) (fun e => hky (kk_inj m hm e)), Nat.add_zero]
      exact h.tw ky m
  · by_cases e : s = s0
    · subst e; rw [i0] at hs; simp at hs
    · rw [u1 s e]; rw [i1 s e] at hs; exact h.no s hs
  · by_cases e : s = s0
    · subst e
      have hv : Pl.eqv s s = true := (Pl.eqv_iff _ _).2 rfl
      simp only [hv, if_true]
      rw [i0, updL_same _ (sk_key s)]
      exact ⟨by rw [List.length_append]; rfl, e3, e5⟩
    · have hv : ¬ Pl.eqv s s0 = true := fun q => e ((Pl.eqv_iff _ _).1 q)
      simp only [if_neg hv]
      rw [i1 s e] at hs ⊢
      rw [u1 s e]
      exact ⟨(h.yes s hs).1, row_keep (h.yes s hs).2.1 (e4 s e hs), (h.yes s hs).2.2⟩
  · by_cases es : s = s0 <;> by_cases et : t = s0
    · exact fun _ => es.trans et.symm
    · subst es
      have hv : Pl.eqv s s = true := (Pl.eqv_iff _ _).2 rfl
      have hw : ¬ Pl.eqv t s = true := fun q => et ((Pl.eqv_iff _ _).1 q)
      rw [i1 t et] at ht
      simp only [hv, if_true, if_neg hw]
      exact fun q => absurd q.symm (e6 t et ht)
    · subst et
      have hv : Pl.eqv t t = true := (Pl.eqv_iff _ _).2 rfl
      have hw : ¬ Pl.eqv s t = true := fun q => es ((Pl.eqv_iff _ _).1 q)
      rw [i1 s es] at hs
      simp only [hv, if_true, if_neg hw]
      exact fun q => absurd q (e6 s es hs)
    · have hv : ¬ Pl.eqv t s0 = true := fun q => et ((Pl.eqv_iff _ _).1 q)
      have hw : ¬ Pl.eqv s s0 = true := fun q => es ((Pl.eqv_iff _ _).1 q)
      rw [i1 s es] at hs
      rw [i1 t et] at ht
      simp only [if_neg hv, if_neg hw]
      exact h.inj s t hs ht
theorem grown_below {w w' : World} {row : Option Nat} {B : Nat} (h : w.grownBy w' row) (hB : B ≤ w.heap.size) (hr : ∀ j, row = some j → B ≤ j) : Below B w w' :=
  ⟨h.os, h.tape, h.output, h.size, fun i hi => h.block i (by omega) (fun e => by have := hr i e.symm; omega)⟩
theorem ByF.close {L : Nat → List (List Value)} {B0 mbL mbT k n c c' : Nat} {A A' : Option Addr} {W W4 W6 W7 W8 W9 : World} {f ft : Lit → Option Value} {G C : ByteArray → Nat} (h : ByF L B0 mbL mbT k W f ft G C) (hk : k < (L 4).length) {s0 : ByteArray} (hs0 : (qnOf (qA (L 4) k)).item = s0) (he : elB (L 2) (L 3) (qA (L 4) k) = true) (hm : (qnOf (qA (L 4) k)).ky.mild)
    (b1 : mbL < B0) (b2 : mbT < B0) (b3 : mbL ≠ mbT) (b4 : B0 ≤ W.heap.size) (h4 : ∀ j, j < W.heap.size → W4.heap[j]? = W.heap[j]?) (h4s : W.heap.size ≤ W4.heap.size) (h6 : W4.mapTurned W6 mbT)
    (hg6 : GM kyT W6 mbT (k + 1) (updL ft (kk (qnOf (qA (L 4) k)).ky) (some (.int .i64 ((cntK L (qnOf (qA (L 4) k)).ky k + 1 : Nat) : Int))))) (h7 : Below W6.heap.size W6 W7) (hA : A = none ∧ idxK L s0 k = [] ∨ A = some ⟨G s0, 0, none⟩ ∧ idxK L s0 k ≠ []) (h8 : W7.grownBy W8 (Value.slice A n c).ownBlock)
    (hb : (Value.slice A' ((idxK L s0 k).length + 1) c').ownBlock = (Value.slice A n c).ownBlock ∨ (Value.slice A' ((idxK L s0 k).length + 1) c').ownBlock = some W7.heap.size) (hown : W8.ownsRow 0 69 8 (.slice A' ((idxK L s0 k).length + 1) c') ((idxK L s0 k).length + 1) ((idxK L s0 k).flatten ++ stA L (twN L) k))
    (hg9 : GM 9 W9 mbL (k + 1) (updL f (sk s0) (some (.slice A' ((idxK L s0 k).length + 1) c')))) (h9 : W8.mapTurned W9 mbL) : ByI L B0 mbL mbT (k + 1) W9 := by
  have t6 := h6.grown
  have t9 := h9.grown
  have s6 := t6.size
  have s7 := h7.size
  have s8 := h8.size
  have s9 := t9.size
  obtain ⟨g', rfl⟩ : ∃ g', A' = some ⟨g', 0, none⟩ := by
    rcases hown.2 with ⟨_, h0⟩ | ⟨g, cap, cur, hv, _⟩
    · omega
    · injection hv with hv _ _; exact ⟨g, hv⟩
  have hlt : ∀ s, idxK L s k ≠ [] → G s < W.heap.size := fun s hs => own_ltS (h.yes s hs).2.1
  have hge : ∀ s, idxK L s k ≠ [] → B0 ≤ G s := fun s hs => (h.yes s hs).2.2
  have hAb : ∀ j, some j = (Value.slice A n c).ownBlock → j = G s0 ∧ idxK L s0 k ≠ [] := fun j hj => by
    rcases hA with ⟨rfl, _⟩ | ⟨rfl, h2⟩
    · simp [Value.ownBlock] at hj
    · simp only [Value.ownBlock, Option.some.injEq] at hj; exact ⟨hj, h2⟩
  have hg' : g' = G s0 ∧ idxK L s0 k ≠ [] ∨ g' = W7.heap.size := by
    rcases hb with hb | hb
    · exact .inl (hAb g' (by rw [← hb]; rfl))
    · right; simpa [Value.ownBlock] using hb
  have hk6 : ∀ j, j < W.heap.size → j ≠ mbT → W6.heap[j]? = W.heap[j]? := fun j hj hne => (t6.block j (by omega) (fun e => hne (by injection e))).trans (h4 j hj)
  have hk8 : ∀ j, j < W6.heap.size → (idxK L s0 k ≠ [] → j ≠ G s0) → W8.heap[j]? = W6.heap[j]? := fun j hj hne => (h8.block j (by omega) (fun e => hne (hAb j e).2 (hAb j e).1)).trans (h7.block j hj)
  have hk9 : ∀ j, j < W8.heap.size → j ≠ mbL → W9.heap[j]? = W8.heap[j]? := fun j hj hne => t9.block j hj (fun e => hne (by injection e))
  have hgL : g' ≠ mbL := by
    rcases hg' with ⟨e, h1⟩ | e
    · have := hge s0 h1; omega
    · omega
  refine h.step hk hs0 he hm hg9 (hg6.kept ((hk9 _ (by omega) (Ne.symm b3)).trans (hk8 _ (by omega) (fun h1 e => by have := hge s0 h1; omega)))) ?_ (fun s hs hne => ?_) ?_ (fun s hs hne => ?_)
  · have hl : ((idxK L s0 k ++ [stA L (twN L) k]).length) = (idxK L s0 k).length + 1 := by rw [List.length_append]; rfl
    have hf : (idxK L s0 k ++ [stA L (twN L) k]).flatten = (idxK L s0 k).flatten ++ stA L (twN L) k := by rw [List.flatten_append]; simp
    unfold RowS
    rw [hl, hf]
    exact row_kept hown (hk9 _ (own_ltS hown) hgL)
  · have h1 := hlt s hne
    have h2 := hge s hne
    exact ((hk9 _ (by omega) (by omega)).trans (hk8 _ (by omega) (fun h3 e => hs (h.inj s s0 hne h3 e)))).trans (hk6 _ h1 (by omega))
  · rcases hg' with ⟨e, h1⟩ | e
    · rw [e]; exact hge s0 h1
    · omega
  · rcases hg' with ⟨e, h1⟩ | e
    · rw [e]; exact fun q => hs (h.inj s s0 hne h1 q)
    · have := hlt s hne; omega
/-- What byItem hands back. -/
def ByP (L : Nat → List (List Value)) (w : World) (e : Ending) (w' : World) : Prop :=
  ∃ (mb : Nat) (f : Lit → Option Value) (G C : ByteArray → Nat), e = .returned (.map (some mb)) ∧ GM 9 w' mb 1000 f ∧ w.heap.size ≤ mb ∧
    (∀ s, idxM L s = [] → f (sk s) = none) ∧ (∀ s, idxM L s ≠ [] → f (sk s) = some (.slice (some ⟨G s, 0, none⟩) (idxM L s).length (C s)) ∧ RowS w' (G s) (C s) (idxM L s) ∧ w.heap.size ≤ G s) ∧ Below w.heap.size w w'
/-! ### what a house holds is as a machine holds it -/
theorem wf_mild {z : Int} (h : Mild (.int .i64 z)) : Wf z := by
  have h : (Lit.int .i64 z).wf = true := h
  have hlo : IntKind.i64.min = -9223372036854775808 := by decide
  have hhi : IntKind.i64.max = 9223372036854775807 := by decide
  simp [Lit.wf, hlo, hhi] at h; exact h
theorem mild_q {L : Nat → List (List Value)} (hm : MildL L) {i : Nat} (hi : i < (L 4).length) (ht : Fits kQuant (qA (L 4) i)) : (qnOf (qA (L 4) i)).ky.mild ∧ Wf (qnOf (qA (L 4) i)).st := by
  have h1 := hm 4 (by decide) (qA (L 4) i) (by rw [qA_at _ _ hi]; exact List.getElem_mem hi)
  have h2 := qn_cells ht
  obtain ⟨x, hx⟩ : ∃ x, qnOf (qA (L 4) i) = x := ⟨_, rfl⟩
  rw [hx] at h2 ⊢
  rw [h2] at h1
  unfold Qn.cells at h1
  have a1 := h1 (.string x.bin) (by simp)
  have a2 := h1 (.string x.item) (by simp)
  have a3 := h1 (.string x.lot) (by simp)
  have a4 := h1 (.int .i64 x.st) (by simp)
  have w4 : Wf x.st := wf_mild a4
  exact ⟨⟨a1, a2, a3, w4⟩, w4⟩
end Go.Proofs.Ytnkhnbpopdmkhaa
