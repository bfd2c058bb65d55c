/-
  PLAIN: one rule more, of rank 0, behind rules of greater ranks; a house's lists beside a cell that is stored.
-/
import Derived.Test.YtjphjblcahadkaaUPl
import Derived.Test.YtjphjblcahadkaaHLoop
namespace Go.Proofs.Ytjphjblcahadkaa
set_option linter.unusedVariables false
open Go.RowKit

theorem rlA_app (LR : List (List Value)) (x : List Value) (i : Nat) (h : i < LR.length) : rlA (LR ++ [x]) i = rlA LR i := by
  rw [rlA_at _ _ (by rw [List.length_append]; omega), rlA_at _ _ h, List.getElem_append_left h]
theorem rlA_last (LR : List (List Value)) (x : List Value) : rlA (LR ++ [x]) LR.length = rlOf x := by
  rw [rlA_at _ _ (by rw [List.length_append]; exact Nat.lt_succ_self _), List.getElem_append_right (Nat.le_refl _)]; simp
/-- The rule that is tried, as cells. -/
def oneR (it zn : ByteArray) : List Value := [.string it, .string zn, .int .i64 0]
theorem best_one {LI LZ LB LQ LR : List (List Value)} {st it zn : ByteArray} {n : Int} (hr : ∀ q, q < LR.length → 1 ≤ (rlA LR q).rank) :
    bestR LI LZ LB LQ (LR ++ [oneR it zn]) st it n = if takesR LI LZ LB LQ st it n ⟨it, zn, 0⟩ = true then some LR.length else bestR LI LZ LB LQ LR st it n := by
  have hl : (LR ++ [oneR it zn]).length = LR.length + 1 := by rw [List.length_append]; rfl
  have hx : rlA (LR ++ [oneR it zn]) LR.length = ⟨it, zn, 0⟩ := rlA_last LR _
  unfold bestR
  rw [hl]
  by_cases ht : takesR LI LZ LB LQ st it n ⟨it, zn, 0⟩ = true
  · rw [if_pos ht]
    refine Pl.best_of (by rw [hx]; exact ht) (fun j hj _ => ?_) (Nat.lt_succ_self _) (fun j h1 h2 => by omega)
    rw [hx, rlA_app _ _ _ hj]
    have := hr j hj
    unfold aheadR Pl.lex
    have h0 : decide ((0 : Int) < (rlA LR j).rank) = true := by simp; omega
    simp only [h0, Bool.true_or]
  · rw [if_neg ht]
    have hno : takesR LI LZ LB LQ st it n (rlA (LR ++ [oneR it zn]) LR.length) = false := by rw [hx]; simpa using ht
    rw [Pl.best_no hno]
    exact Pl.best_congr (fun i hi => by rw [rlA_app _ _ _ hi]) (fun i j hi hj => by rw [rlA_app _ _ _ hi, rlA_app _ _ _ hj])
theorem bestR_nil (LI LZ LB LQ : List (List Value)) (st it : ByteArray) (n : Int) : bestR LI LZ LB LQ [] st it n = none := rfl
theorem sugE_of {LI LZ LB LQ LR : List (List Value)} {st it : ByteArray} {n : Int} {b : Option Nat} (hi : ¬ (atItem LI it).isSome = false) (hb : bestR LI LZ LB LQ LR st it n = b) : sugE LI LZ LB LQ LR st it n = if b.isNone = true then 30 else 0 := by
  unfold sugE; rw [if_neg hi, hb]
theorem sugT_some {LI LZ LB LQ LR : List (List Value)} {st it : ByteArray} {n : Int} {i : Nat} (hi : ¬ (atItem LI it).isSome = false) (hb : bestR LI LZ LB LQ LR st it n = some i) : sugT LI LZ LB LQ LR st it n = (shelfT LI LZ LB LQ (rlA LR i).zone st it n).getD ⟨#[]⟩ := by
  unfold sugT; rw [if_neg hi, hb]
theorem sugT_none {LI LZ LB LQ LR : List (List Value)} {st it : ByteArray} {n : Int} (hi : ¬ (atItem LI it).isSome = false) (hb : bestR LI LZ LB LQ LR st it n = none) : sugT LI LZ LB LQ LR st it n = ⟨#[]⟩ := by
  unfold sugT; rw [if_neg hi, hb]
theorem rank_fact {LI LZ LB LQ LR : List (List Value)} {st it zn : ByteArray} {n : Int} (hr : ∀ q, q < LR.length → 1 ≤ (rlA LR q).rank) :
    (sugE LI LZ LB LQ [oneR it zn] st it n = 0 ∧ sugE LI LZ LB LQ (LR ++ [oneR it zn]) st it n = 0 ∧ sugT LI LZ LB LQ [oneR it zn] st it n = sugT LI LZ LB LQ (LR ++ [oneR it zn]) st it n) ∨
    (sugE LI LZ LB LQ [oneR it zn] st it n ≠ 0 ∧ sugE LI LZ LB LQ (LR ++ [oneR it zn]) st it n = sugE LI LZ LB LQ LR st it n ∧ sugT LI LZ LB LQ (LR ++ [oneR it zn]) st it n = sugT LI LZ LB LQ LR st it n) := by
  have h1 := best_one (LI := LI) (LZ := LZ) (LB := LB) (LQ := LQ) (LR := []) (st := st) (it := it) (zn := zn) (n := n) (fun q hq => by simp at hq)
  have h2 := best_one (LI := LI) (LZ := LZ) (LB := LB) (LQ := LQ) (st := st) (it := it) (zn := zn) (n := n) hr
  rw [List.nil_append, bestR_nil] at h1
  by_cases hi : (atItem LI it).isSome = false
  · refine .inr ⟨?_, ?_, ?_⟩
    · unfold sugE; rw [if_pos hi]; decide
    · unfold sugE; rw [if_pos hi, if_pos hi]
    · unfold sugT; rw [if_pos hi, if_pos hi]
  · by_cases ht : takesR LI LZ LB LQ st it n ⟨it, zn, 0⟩ = true
    · rw [if_pos ht] at h1 h2
      refine .inl ⟨?_, ?_, ?_⟩
      · rw [sugE_of hi h1]; decide
      · rw [sugE_of hi h2]; rfl
      · rw [sugT_some hi h1, sugT_some hi h2, rlA_last]
        have := rlA_last [] (oneR it zn)
        rw [List.nil_append] at this
        rw [this]
    · rw [if_neg ht] at h1 h2
      refine .inr ⟨?_, ?_, ?_⟩
      · rw [sugE_of hi h1]; decide
      · rw [sugE_of hi h2, sugE_of hi rfl]
      · cases hb : bestR LI LZ LB LQ LR st it n with
        | none => rw [sugT_none hi (h2.trans hb), sugT_none hi hb]
        | some i =>
          have := (Pl.best_lt hb).1
          rw [sugT_some hi (h2.trans hb), sugT_some hi hb, rlA_app _ _ _ this]
theorem HT.setCellOff {a : Hs} {L : Nat → List (List Value)} {W : World} {g : Nat} (h : HT a L W) (ha : Off g a L) (o : Nat) (v : Value) : HT a L (W.setCell ⟨g, o, none⟩ v) := fun i hi => by
  obtain ⟨h1, h2, h3, h4⟩ := h i hi
  refine ⟨h1, h2, h3, fun hx => ?_⟩
  obtain ⟨b, off, hA, hb, hc⟩ := h4 hx
  have hne : L i ≠ [] := fun e => by rw [e] at hx; exact absurd hx (by simp)
  have hg : b ≠ g := ha i hi hne _ hA
  exact ⟨b, off, hA, by simpa [World.setCell] using hb, fun j u hu => (World.cell?_of_block (block_setCell_other hg v)).trans (hc j u hu)⟩
end Go.Proofs.Ytjphjblcahadkaa
