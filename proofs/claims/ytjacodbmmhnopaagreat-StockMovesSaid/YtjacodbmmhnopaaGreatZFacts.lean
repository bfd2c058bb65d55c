/-
  PLAIN: no bin gets overfull; what fits does not make one so.
-/
import Derived.Test.YtjacodbmmhnopaaGreatZPl
namespace Go.Proofs.YtjacodbmmhnopaaGreat
set_option linter.unusedVariables false
open Go.RowKit
open Pl (firstG findG putG It)

theorem firstG_set {α : Type} {f : α → Bool} {L : List α} {i : Nat} {x : α} (hi : i < L.length) (h : f x = f L[i]) : firstG f (L.set i x) = firstG f L := by
  have key : ∀ j (hj : j < L.length), f ((L.set i x)[j]'(by rw [List.length_set]; exact hj)) = f L[j] := fun j hj => by
    by_cases e : i = j
    · subst e; rw [List.getElem_set_self]; exact h
    · rw [List.getElem_set_ne e]
  cases hf : firstG f L with
  | none => exact Pl.firstG_none (fun j hj => by rw [List.length_set] at hj; rw [key j hj]; exact Pl.firstG_all hf j hj)
  | some k =>
    have hk := Pl.firstG_lt hf
    exact Pl.firstG_some (by rw [List.length_set]; exact hk) (fun j hj hjk => by rw [List.length_set] at hj; rw [key j hj]; exact Pl.firstG_before hf j hj hjk) (by rw [key k hk]; exact Pl.firstG_at hf hk)
/-- An item that is put in place of the one of its code: the others are found as before. -/
theorem got_otherItem {L : List (List Value)} {x : List Value} {s : ByteArray} (h : (atItem L (codeOf x)).isSome = true) (hs : Pl.eqv (codeOf x) s = false) : atItem (putG ordItem L x) s = atItem L s ∧ gotItem (putG ordItem L x) s = gotItem L s := by
  cases hc : atItem L (codeOf x) with
  | none => rw [hc] at h; cases h
  | some i =>
    have hf : findG ordItem L x = some i := by rw [findG_atItem]; exact hc
    have hl := Pl.firstG_lt hf
    have hci : Pl.eqv (codeOf L[i]) s = false := by
      rw [atItem_first] at hc
      have := (Pl.eqv_iff _ _).1 (Pl.firstG_at hc hl)
      rw [this]; exact hs
    have ha : atItem (L.set i x) s = atItem L s := by
      rw [atItem_first, atItem_first]
      exact firstG_set hl (by show Pl.eqv (codeOf x) s = Pl.eqv (codeOf L[i]) s; rw [hs, hci])
    rw [Pl.put_set ordItem x L i hf]
    refine ⟨ha, ?_⟩
    unfold gotItem
    rw [ha]
    cases hk : atItem L s with
    | none => rfl
    | some k =>
      have hki : i ≠ k := fun e => by
        subst e
        rw [atItem_first] at hk
        have := Pl.firstG_at hk hl
        rw [hci] at this; cases this
      simp only [List.getD_eq_getElem?_getD, List.getElem?_set_ne hki]
theorem overL_nil {LI LB LQ : List (List Value)} : overL LI LB LQ = [] ↔ ∀ e ∈ LB, fullB LI LQ (bnOf e) = false := by
  unfold overL
  rw [List.map_eq_nil_iff, List.filter_eq_nil_iff]
  exact ⟨fun h e he => by simpa using h e he, fun h e he => by simpa using h e he⟩
theorem loadP_same {LI LI' LQ : List (List Value)} {s t : ByteArray} (hst : standsQ LQ s t = false) (h : ∀ i, Pl.eqv i t = false → atItem LI' i = atItem LI i ∧ gotItem LI' i = gotItem LI i) : loadP LI' LQ s = loadP LI LQ s := by
  unfold loadP
  unfold standsQ at hst
  generalize ((0 : Int), (0 : Int)) = p
  induction LQ generalizing p with
  | nil => rfl
  | cons q LQ ih =>
    rw [List.any_cons, Bool.or_eq_false_iff] at hst
    have hq : loadQ LI' s p q = loadQ LI s p q := by
      unfold loadQ
      cases hb : Pl.eqv (qnOf q).bin s with
      | false => rfl
      | true =>
        rw [hb, Bool.true_and] at hst
        obtain ⟨h1, h2⟩ := h _ hst.1
        rw [h1, h2]
    rw [List.foldl_cons, List.foldl_cons, hq]
    exact ih hst.2 _
theorem eqv_symm (a b : ByteArray) : Pl.eqv a b = Pl.eqv b a := by
  cases h : Pl.eqv a b with
  | true => rw [(Pl.eqv_iff _ _).1 h]; exact ((Pl.eqv_iff _ _).2 rfl).symm
  | false =>
    cases k : Pl.eqv b a with
    | false => rfl
    | true => rw [(Pl.eqv_iff _ _).1 k, (Pl.eqv_iff _ _).2 rfl] at h; cases h
theorem code_bn {e : List Value} (h : Fits kBin e) : codeOf e = (bnOf e).code := by
  have := bn_cells h
  rw [this]; rfl
/-- Another size of an item: no bin gets overfull. -/
theorem hold_res {LI LB LQ : List (List Value)} {t : ByteArray} {v u : Int} (hI : Things kItem LI) (hB : Things kBin LB) (ho : overL LI LB LQ = []) (h : resE LI LB LQ t v u = 0) : overL (resL LI t v u) LB LQ = [] := by
  rw [overL_nil] at ho ⊢
  intro e he
  unfold resE at h
  by_cases h1 : (atItem LI t).isSome = false
  · rw [if_pos h1] at h; cases h
  · rw [if_neg h1] at h
    by_cases h2 : (decide (v < 0) || decide (1000000 < v) || decide (u < 0) || decide (1000000 < u)) = true
    · rw [if_pos h2] at h; cases h
    · rw [if_neg h2] at h
      by_cases h3 : (LB.any (badB (resL LI t v u) LQ t)) = true
      · rw [if_pos h3] at h; cases h
      · have hb : badB (resL LI t v u) LQ t e = false := by
          cases hc : badB (resL LI t v u) LQ t e with
          | false => rfl
          | true => exact absurd (List.any_eq_true.2 ⟨e, he, hc⟩) h3
        unfold badB at hb
        cases hs : standsQ LQ (codeOf e) t with
        | true => rw [hs, Bool.true_and] at hb; exact hb
        | false =>
          have hs1 : (atItem LI t).isSome = true := by cases hq : (atItem LI t).isSome with | true => rfl | false => exact absurd hq h1
          have hx : codeOf (itSize (itOf (gotItem LI t)) v u).cells = t := by
            have hc := gotItem_code hs1
            rw [it_cells (gotItem_fits hI t)] at hc
            exact hc
          have hl := loadP_same (LI := LI) (LI' := resL LI t v u) hs (fun i hi => got_otherItem (by rw [hx]; exact hs1) (by rw [hx, eqv_symm]; exact hi))
          have := ho e he
          unfold fullB at this ⊢
          rw [← code_bn (hB e he)] at this ⊢
          rw [hl]; exact this
/-- Another capacity of a bin: no bin gets overfull. -/
theorem hold_lim {LI LB LQ : List (List Value)} {s : ByteArray} {v u : Int} (ho : overL LI LB LQ = []) (h : limE LI LB LQ s v u = 0) : overL LI (limL LB s v u) LQ = [] := by
  rw [overL_nil] at ho ⊢
  intro e he
  unfold limE at h
  by_cases h1 : (atBin LB s).isSome = false
  · rw [if_pos h1] at h; cases h
  · rw [if_neg h1] at h
    by_cases h2 : (decide (v < 0) || decide (1000000000000 < v) || decide (u < 0) || decide (1000000000000 < u)) = true
    · rw [if_pos h2] at h; cases h
    · rw [if_neg h2] at h
      by_cases h3 : fullB LI LQ (bnSize (bnOf (gotBin LB s)) v u) = true
      · rw [if_pos h3] at h; cases h
      · unfold limL at he
        rcases Pl.putG_mem he with rfl | he
        · rw [bnOf_cells]; simpa using h3
        · exact ho e he
/-- No two bins of one code. -/
def Unlike (LB : List (List Value)) : Prop := ∀ i j (hi : i < LB.length) (hj : j < LB.length), i < j → Pl.eqv (codeOf LB[i]) (codeOf LB[j]) = false
theorem loadP_more (LI LQ : List (List Value)) (s : ByteArray) (q : List Value) : loadP LI (LQ ++ [q]) s = loadQ LI s (loadP LI LQ s) q := by
  unfold loadP; rw [List.foldl_append]; rfl
/-- With a quant more the bin is overfull just if it doesn't fit. -/
theorem adds_over {LI LB LQ : List (List Value)} {s t lot : ByteArray} {st n hd : Int} (hB : Things kBin LB) (hu : Unlike LB) (h : roomE LI LB LQ s t n ≠ 12) :
    ((overL LI LB (LQ ++ [(Qn.mk s t lot st n hd).cells])).any fun c => Pl.eqv c s) = decide (roomE LI LB LQ s t n = 26) ∧ (roomE LI LB LQ s t n = 0 ∨ roomE LI LB LQ s t n = 26) := by
  unfold roomE at h ⊢
  by_cases h1 : ((atBin LB s).isSome && (atItem LI t).isSome) = false
  · rw [if_pos h1] at h; exact absurd rfl h
  · rw [if_neg h1]
    have h2 : (atBin LB s).isSome = true ∧ (atItem LI t).isSome = true := by
      cases ha : (atBin LB s).isSome <;> cases hb : (atItem LI t).isSome <;> simp [ha, hb] at h1 ⊢
    obtain ⟨hs, ht⟩ := h2
    have hload : loadP LI (LQ ++ [(Qn.mk s t lot st n hd).cells]) s = (wrap64 ((loadP LI LQ s).1 + wrap64 (n * (itOf (gotItem LI t)).vol)), wrap64 ((loadP LI LQ s).2 + wrap64 (n * (itOf (gotItem LI t)).wei))) := by
      rw [loadP_more]
      unfold loadQ
      rw [qnOf_cells]
      rw [if_pos (by show (Pl.eqv s s && (atItem LI t).isSome) = true; rw [(Pl.eqv_iff s s).2 rfl, ht]; rfl)]
    cases hc : atBin LB s with
    | none => rw [hc] at hs; cases hs
    | some i =>
      have hc2 := hc
      rw [atBin_first] at hc2
      have hl := Pl.firstG_lt hc2
      have hci := Pl.firstG_at hc2 hl
      have hg : gotBin LB s = LB[i] := by unfold gotBin; rw [hc]; simp only []; rw [List.getD_eq_getElem?_getD, List.getElem?_eq_getElem hl]; rfl
      have hcode : (bnOf LB[i]).code = s := by rw [← code_bn (hB _ (List.getElem_mem hl))]; exact (Pl.eqv_iff _ _).1 hci
      have hfull : fullB LI (LQ ++ [(Qn.mk s t lot st n hd).cells]) (bnOf LB[i]) = decide ((bnOf (gotBin LB s)).vol < wrap64 ((loadP LI LQ s).1 + wrap64 (n * (itOf (gotItem LI t)).vol)) ∨ (bnOf (gotBin LB s)).wei < wrap64 ((loadP LI LQ s).2 + wrap64 (n * (itOf (gotItem LI t)).wei))) := by
        unfold fullB; rw [hcode, hload, hg]; simp only [Bool.decide_or]
      have hany : ((overL LI LB (LQ ++ [(Qn.mk s t lot st n hd).cells])).any fun c => Pl.eqv c s) = fullB LI (LQ ++ [(Qn.mk s t lot st n hd).cells]) (bnOf LB[i]) := by
        unfold overL
        rw [Bool.eq_iff_iff, List.any_eq_true]
        constructor
        · rintro ⟨c, hcm, hcs⟩
          obtain ⟨e, he, rfl⟩ := List.mem_map.1 hcm
          obtain ⟨he1, he2⟩ := List.mem_filter.1 he
          obtain ⟨j, hj, rfl⟩ := List.mem_iff_getElem.1 he1
          have hij : i = j := by
            rcases Nat.lt_trichotomy i j with h' | h' | h'
            · have := hu i j hl hj h'
              rw [(Pl.eqv_iff _ _).1 hci, eqv_symm, hcs] at this; cases this
            · exact h'
            · have := hu j i hj hl h'
              rw [(Pl.eqv_iff _ _).1 hci, hcs] at this; cases this
          subst hij
          exact he2
        · intro hf
          exact ⟨codeOf LB[i], List.mem_map.2 ⟨_, List.mem_filter.2 ⟨List.getElem_mem hl, hf⟩, rfl⟩, hci⟩
      rw [hany, hfull]
      by_cases hq : (bnOf (gotBin LB s)).vol < wrap64 ((loadP LI LQ s).1 + wrap64 (n * (itOf (gotItem LI t)).vol)) ∨ (bnOf (gotBin LB s)).wei < wrap64 ((loadP LI LQ s).2 + wrap64 (n * (itOf (gotItem LI t)).wei))
      · rw [if_pos hq]; exact ⟨by simp [hq], .inr rfl⟩
      · rw [if_neg hq]; exact ⟨by simp [hq], .inl rfl⟩
end Go.Proofs.YtjacodbmmhnopaaGreat
