/-
  PLAIN: what takes an item, as the law asks it; where it is stowed.
-/
import Derived.Test.YtjphjblcahadkaaUPl
namespace Go.Proofs.Ytjphjblcahadkaa
set_option linter.unusedVariables false
open Go.RowKit

/-- Does a rule speak of that zone and item? -/
def spokeR (zn it : ByteArray) (r : Rl) : Bool := Pl.eqv r.zone zn && (emp r.item || Pl.eqv r.item it)
def spokeT (LR : List (List Value)) (zn it : ByteArray) : Bool := LR.any fun e => spokeR zn it (rlOf e)
theorem spokeT_snoc (LR : List (List Value)) (zn it : ByteArray) (k : Nat) (hk : k < LR.length) : spokeT (LR.take (k + 1)) zn it = (spokeT (LR.take k) zn it || spokeR zn it (rlA LR k)) := by
  unfold spokeT
  rw [List.take_succ_eq_append_getElem hk, List.any_append, rlA_at _ _ hk]; simp
/-- Does a bin take it, as the law asks? -/
def lawB (LI LZ LB LQ LR : List (List Value)) (st it : ByteArray) (n : Int) (b : Bn) : Bool :=
  spokeT LR b.zone it && b.kind == 1 && !b.frz && Pl.eqv (siteT LZ LB b.code) st && decide (roomE LI LB LQ b.code it n = 0)
theorem fit_cases (LI LZ LB LQ LR : List (List Value)) (st it : ByteArray) (n : Int) :
    (sugE LI LZ LB LQ LR st it n = 12 ∧ sugT LI LZ LB LQ LR st it n = ⟨#[]⟩) ∨
    (sugE LI LZ LB LQ LR st it n = 30 ∧ sugT LI LZ LB LQ LR st it n = ⟨#[]⟩ ∧ ∀ q, q < LB.length → lawB LI LZ LB LQ LR st it n (bnA LB q) = false) ∨
    (sugE LI LZ LB LQ LR st it n = 0 ∧ ∃ j, j < LB.length ∧ lawB LI LZ LB LQ LR st it n (bnA LB j) = true ∧ (bnA LB j).code = sugT LI LZ LB LQ LR st it n) := by
  unfold sugE sugT
  by_cases hi : (atItem LI it).isSome = false
  · exact .inl ⟨if_pos hi, if_pos hi⟩
  · rw [if_neg hi, if_neg hi]
    cases hb : bestR LI LZ LB LQ LR st it n with
    | none =>
      refine .inr (.inl ⟨rfl, rfl, fun q hq => ?_⟩)
      have hn := Pl.best_none.1 hb
      cases hl : lawB LI LZ LB LQ LR st it n (bnA LB q) with
      | false => rfl
      | true =>
        unfold lawB at hl
        simp only [Bool.and_eq_true] at hl
        obtain ⟨⟨⟨⟨h1, h2⟩, h3⟩, h4⟩, h5⟩ := hl
        obtain ⟨e, he, hs⟩ := List.any_eq_true.1 h1
        obtain ⟨i, hi2, rfl⟩ := List.mem_iff_getElem.1 he
        unfold spokeR at hs
        simp only [Bool.and_eq_true] at hs
        have hz : (rlA LR i).zone = (bnA LB q).zone := by rw [rlA_at _ _ hi2]; exact (Pl.eqv_iff _ _).1 hs.1
        have ht : takesR LI LZ LB LQ st it n (rlA LR i) = true := by
          unfold takesR
          rw [Bool.and_eq_true]
          refine ⟨by unfold speaks; rw [rlA_at _ _ hi2]; exact hs.2, ?_⟩
          unfold shelfT
          cases hq2 : bestB LI LZ LB LQ (rlA LR i).zone st it n LB.length with
          | some x => rfl
          | none =>
            have := Pl.best_none.1 hq2 q hq
            unfold takesB at this
            rw [hz, h2, h3, h4, h5, (Pl.eqv_iff _ _).2 rfl] at this
            cases this
        rw [hn i hi2] at ht; cases ht
    | some i =>
      have hl := Pl.best_lt hb
      have ht : takesR LI LZ LB LQ st it n (rlA LR i) = true := hl.2
      unfold takesR at ht
      rw [Bool.and_eq_true] at ht
      refine .inr (.inr ⟨rfl, ?_⟩)
      unfold shelfT at ht ⊢
      cases hq : bestB LI LZ LB LQ (rlA LR i).zone st it n LB.length with
      | none => rw [hq] at ht; cases ht.2
      | some j =>
        have hj := Pl.best_lt hq
        refine ⟨j, hj.1, ?_, by
          show _ = (Option.map (fun i => (bnA LB i).code) (bestB LI LZ LB LQ (rlA LR i).zone st it n LB.length)).getD _
          rw [hq]; rfl⟩
        have htb : takesB LI LZ LB LQ (rlA LR i).zone st it n (bnA LB j) = true := hj.2
        unfold takesB at htb
        unfold lawB
        simp only [Bool.and_eq_true] at htb ⊢
        obtain ⟨⟨⟨⟨h1, h2⟩, h3⟩, h4⟩, h5⟩ := htb
        refine ⟨⟨⟨⟨?_, h1⟩, h2⟩, h4⟩, h5⟩
        refine List.any_eq_true.2 ⟨LR[i], List.getElem_mem hl.1, ?_⟩
        unfold spokeR
        rw [Bool.and_eq_true, ← rlA_at _ _ hl.1]
        exact ⟨by rw [(Pl.eqv_iff _ _).1 h3]; exact (Pl.eqv_iff _ _).2 rfl, ht.1⟩
end Go.Proofs.Ytjphjblcahadkaa
