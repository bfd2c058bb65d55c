/-
  PLAIN: items that rise by their codes; what is among them; what the map says of them.
-/
import Derived.Test.YtcihibmapbigdaaIRFind
import Derived.Test.YtcihibmapbigdaaIAdd
namespace Go.Proofs.Ytcihibmapbigdaa
set_option linter.unusedVariables false
open Go.RowKit
open Pl (firstG findG overG putG)

/-- The codes rise. -/
def UpI (L : List (List Value)) : Prop := L.Pairwise fun a b => Pl.lt (codeOf a) (codeOf b) = true
theorem UpI.at {L : List (List Value)} (h : UpI L) {i j : Nat} (hi : i < L.length) (hj : j < L.length) (hij : i < j) : Pl.lt (codeOf L[i]) (codeOf L[j]) = true := List.pairwise_iff_getElem.1 h i j hi hj hij
theorem eqv_of_lt {a b : ByteArray} (h : Pl.lt a b = true) : Pl.eqv a b = false := by
  rw [Bool.eq_false_iff]; intro e
  have := (Pl.eqv_iff a b).1 e
  subst this
  rw [Pl.lt_irrefl] at h; cases h
theorem atI_at {L : List (List Value)} (h : UpI L) {k : Nat} (hk : k < L.length) : atI L (codeOf L[k]) = some k := by
  rw [atI_first]
  exact Pl.firstG_some hk (fun j hj hjk => eqv_of_lt (h.at hj hk hjk)) ((Pl.eqv_iff _ _).2 rfl)
theorem gotI_at {L : List (List Value)} (h : UpI L) {k : Nat} (hk : k < L.length) : gotI L (codeOf L[k]) = L[k] := by
  unfold gotI
  rw [atI_at h hk]
  simp only []
  rw [List.getD_eq_getElem?_getD, List.getElem?_eq_getElem hk]; rfl
theorem atI_none {L : List (List Value)} {s : ByteArray} (h : atI L s = none) : ∀ e ∈ L, codeOf e ≠ s := fun e he hs => by
  obtain ⟨j, hj, rfl⟩ := List.getElem_of_mem he
  rw [atI_first] at h
  have := Pl.firstG_all h j hj
  rw [hs, (Pl.eqv_iff s s).2 rfl] at this
  cases this
theorem atI_some {L : List (List Value)} {s : ByteArray} {k : Nat} (h : atI L s = some k) : ∃ e ∈ L, codeOf e = s := by
  rw [atI_first] at h
  have hk := Pl.firstG_lt h
  exact ⟨L[k], List.getElem_mem hk, (Pl.eqv_iff _ _).1 (Pl.firstG_at h hk)⟩
theorem findG_atI {L : List (List Value)} {x : List Value} : findG ordI L x = atI L (codeOf x) := by
  rw [atI_first]
  unfold findG
  congr 1
  funext e
  exact Pl.cmp_zero _ _
theorem put_up {L : List (List Value)} {x : List Value} (h : UpI L) (hn : atI L (codeOf x) = none) : UpI (putG ordI L x) := by
  have hne := atI_none hn
  unfold putG
  rw [findG_atI, hn]
  simp only
  cases ho : overG ordI L x with
  | none =>
    refine List.pairwise_append.2 ⟨h, List.pairwise_singleton _ _, fun a ha b hb => ?_⟩
    rw [List.mem_singleton] at hb
    subst hb
    obtain ⟨j, hj, rfl⟩ := List.getElem_of_mem ha
    have := Pl.firstG_all ho j hj
    rw [show decide (0 < ordI L[j] b) = Pl.lt (codeOf b) (codeOf L[j]) from Pl.cmp_pos _ _] at this
    rcases Pl.lt_tri (codeOf L[j]) (codeOf b) with h' | h' | h'
    · exact h'
    · exact absurd h' (hne _ (List.getElem_mem hj))
    · rw [this] at h'; cases h'
  | some i =>
    have hi := Pl.firstG_lt ho
    have hxi : Pl.lt (codeOf x) (codeOf L[i]) = true := by
      have := Pl.firstG_at ho hi
      rwa [show decide (0 < ordI L[i] x) = Pl.lt (codeOf x) (codeOf L[i]) from Pl.cmp_pos _ _] at this
    have hlo : ∀ a ∈ L.take i, Pl.lt (codeOf a) (codeOf x) = true := fun a ha => by
      obtain ⟨j, hj, rfl⟩ := List.getElem_of_mem ha
      rw [List.length_take] at hj
      rw [List.getElem_take]
      have := Pl.firstG_before ho j (by omega) (by omega)
      rw [show decide (0 < ordI L[j] x) = Pl.lt (codeOf x) (codeOf L[j]) from Pl.cmp_pos _ _] at this
      rcases Pl.lt_tri (codeOf L[j]) (codeOf x) with h' | h' | h'
      · exact h'
      · exact absurd h' (hne _ (List.getElem_mem (by omega)))
      · rw [this] at h'; cases h'
    have hhi : ∀ b ∈ L.drop i, Pl.lt (codeOf x) (codeOf b) = true := fun b hb => by
      obtain ⟨j, hj, rfl⟩ := List.getElem_of_mem hb
      rw [List.length_drop] at hj
      rw [List.getElem_drop]
      rcases Nat.eq_zero_or_pos j with h0 | h0
      · subst h0; simpa using hxi
      · exact Pl.lt_trans hxi (h.at hi (by omega) (by omega))
    refine List.pairwise_append.2 ⟨List.pairwise_append.2 ⟨h.sublist (List.take_sublist _ _), List.pairwise_singleton _ _, fun a ha b hb => ?_⟩, h.sublist (List.drop_sublist _ _), fun a ha b hb => ?_⟩
    · rw [List.mem_singleton] at hb; subst hb; exact hlo a ha
    · rcases List.mem_append.1 ha with ha | ha
      · exact Pl.lt_trans (hlo a ha) (hhi b hb)
      · rw [List.mem_singleton] at ha; subst ha; exact hhi b hb
theorem put_len {L : List (List Value)} {x : List Value} (hn : atI L (codeOf x) = none) : (putG ordI L x).length = L.length + 1 := by
  rw [Pl.putG_len, findG_atI, hn]; rfl
theorem put_has {L : List (List Value)} {x e : List Value} (hn : atI L (codeOf x) = none) (h : e = x ∨ e ∈ L) : e ∈ putG ordI L x := by
  unfold putG
  rw [findG_atI, hn]
  simp only
  cases overG ordI L x with
  | none => rcases h with rfl | h <;> simp [*]
  | some i =>
    rcases h with rfl | h
    · simp
    · rw [← List.take_append_drop i L] at h
      simp only [List.mem_append, List.mem_singleton]
      rcases List.mem_append.1 h with h | h
      · exact .inl (.inl h)
      · exact .inr h
/-- The map says just what is among the items. -/
structure Agr (L : List (List Value)) (f : ByteArray → Option Value) : Prop where
  at_ : ∀ e ∈ L, f (codeOf e) = some (.agg e.toArray)
  no : ∀ s, atI L s = none → f s = none
theorem Agr.nil : Agr [] (fun _ => none) := ⟨fun e he => by simp at he, fun _ _ => rfl⟩
theorem Agr.isSome {L : List (List Value)} {f : ByteArray → Option Value} (h : Agr L f) (s : ByteArray) : (f s).isSome = (atI L s).isSome := by
  cases ha : atI L s with
  | none => rw [h.no s ha]; rfl
  | some k =>
    obtain ⟨e, he, rfl⟩ := atI_some ha
    rw [h.at_ e he]; rfl
theorem Agr.put {L : List (List Value)} {f : ByteArray → Option Value} {x : List Value} (h : Agr L f) (hn : atI L (codeOf x) = none) : Agr (putG ordI L x) (fun y => if y = codeOf x then some (.agg x.toArray) else f y) := by
  have hne := atI_none hn
  refine ⟨fun e he => ?_, fun s hs => ?_⟩
  · rcases Pl.putG_mem he with rfl | he
    · simp
    · rw [if_neg (hne e he)]; exact h.at_ e he
  · have hall := atI_none hs
    have h1 : s ≠ codeOf x := fun e => hall x (put_has hn (.inl rfl)) e.symm
    rw [if_neg h1]
    refine h.no s ?_
    rw [atI_first]
    refine Pl.firstG_none fun j hj => ?_
    rw [Bool.eq_false_iff]; intro e
    exact hall _ (put_has hn (.inr (List.getElem_mem hj))) ((Pl.eqv_iff _ _).1 e)
end Go.Proofs.Ytcihibmapbigdaa
