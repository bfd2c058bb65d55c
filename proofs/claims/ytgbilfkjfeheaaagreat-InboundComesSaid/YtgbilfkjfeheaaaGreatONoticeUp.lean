/-
 PLAIN: lists of api.Notice that rise; what was put is found. (By wip/tools/gen_one.py.)
-/
import Derived.Test.YtgbilfkjfeheaaaGreatOPl
namespace Go.Proofs.YtgbilfkjfeheaaaGreat
set_option linter.unusedVariables false
open Go.RowKit
open Pl (firstG findG putG overG)

def UpNotice (L : List (List Value)) : Prop := L.Pairwise fun a b => Pl.lt (codeOf a) (codeOf b) = true
theorem UpNotice.at {L : List (List Value)} (h : UpNotice L) {i j : Nat} (hi : i < L.length) (hj : j < L.length) (hij : i < j) : Pl.lt (codeOf L[i]) (codeOf L[j]) = true := List.pairwise_iff_getElem.1 h i j hi hj hij
theorem atNotice_at {L : List (List Value)} (h : UpNotice L) {k : Nat} (hk : k < L.length) : atNotice L (codeOf L[k]) = some k := by
 rw [atNotice_first]
 exact Pl.firstG_some hk (fun j hj hjk => eqv_of_lt (h.at hj hk hjk)) ((Pl.eqv_iff _ _).2 rfl)
theorem gotNotice_at {L : List (List Value)} (h : UpNotice L) {k : Nat} (hk : k < L.length) : gotNotice L (codeOf L[k]) = L[k] := by
 unfold gotNotice
 rw [atNotice_at h hk]
 simp only []
 rw [List.getD_eq_getElem?_getD, List.getElem?_eq_getElem hk]; rfl
theorem atNotice_none {L : List (List Value)} {s : ByteArray} (h : atNotice L s = none) : ∀ e ∈ L, codeOf e ≠ s := fun e he hs => by
 obtain ⟨j, hj, rfl⟩ := List.getElem_of_mem he
 rw [atNotice_first] at h
 have := Pl.firstG_all h j hj
 rw [hs, (Pl.eqv_iff s s).2 rfl] at this
 cases this
theorem atNotice_some {L : List (List Value)} {s : ByteArray} {k : Nat} (h : atNotice L s = some k) : ∃ e ∈ L, codeOf e = s := by
 rw [atNotice_first] at h
 have hk := Pl.firstG_lt h
 exact ⟨L[k], List.getElem_mem hk, (Pl.eqv_iff _ _).1 (Pl.firstG_at h hk)⟩
theorem findG_atNotice {L : List (List Value)} {x : List Value} : findG ordNotice L x = atNotice L (codeOf x) := by
 rw [atNotice_first]
 unfold findG
 congr 1
 funext e
 exact Pl.cmp_zero _ _
theorem put_upNotice {L : List (List Value)} {x : List Value} (h : UpNotice L) (hn : atNotice L (codeOf x) = none) : UpNotice (putG ordNotice L x) := by
 have hne := atNotice_none hn
 unfold putG
 rw [findG_atNotice, hn]
 simp only
 cases ho : overG ordNotice L x with
 | none =>
  refine List.pairwise_append.2 ⟨h, List.pairwise_singleton _ _, fun a ha b hb => ?_⟩
  rw [List.mem_singleton] at hb
  subst hb
  obtain ⟨j, hj, rfl⟩ := List.getElem_of_mem ha
  have := Pl.firstG_all ho j hj
  rw [show decide (0 < ordNotice L[j] b) = Pl.lt (codeOf b) (codeOf L[j]) from Pl.cmp_pos _ _] at this
  rcases Pl.lt_tri (codeOf L[j]) (codeOf b) with h' | h' | h'
  · exact h'
  · exact absurd h' (hne _ (List.getElem_mem hj))
  · rw [this] at h'; cases h'
 | some i =>
  have hi := Pl.firstG_lt ho
  have hxi : Pl.lt (codeOf x) (codeOf L[i]) = true := by
   have := Pl.firstG_at ho hi
   rwa [show decide (0 < ordNotice L[i] x) = Pl.lt (codeOf x) (codeOf L[i]) from Pl.cmp_pos _ _] at this
  have hlo : ∀ a ∈ L.take i, Pl.lt (codeOf a) (codeOf x) = true := fun a ha => by
   obtain ⟨j, hj, rfl⟩ := List.getElem_of_mem ha
   rw [List.length_take] at hj
   rw [List.getElem_take]
   have := Pl.firstG_before ho j (by omega) (by omega)
   rw [show decide (0 < ordNotice L[j] x) = Pl.lt (codeOf x) (codeOf L[j]) from Pl.cmp_pos _ _] at this
   rcases Pl.lt_tri (codeOf L[j]) (codeOf x) with h' | h' | h'
   · exact h'
   · exact absurd h' (hne _ (List.getElem_mem (by omega)))
   · rw [this] at h'; cases h'
  have hhi : ∀ b ∈ L.drop i, Pl.lt (codeOf x) (codeOf b) = true := fun b hb => by
   obtain ⟨j, hj, rfl⟩ := List.getElem_of_mem hb
   rw [List.length_drop] at hj
   rw [List.getElem_drop]
   rcases Nat.eq_zero_or_pos j with h0 | h0
   · subst h0; simpa using hxi
   · exact Pl.lt_trans hxi (h.at hi (by omega) (by omega))
  refine List.pairwise_append.2 ⟨List.pairwise_append.2 ⟨h.sublist (List.take_sublist _ _), List.pairwise_singleton _ _, fun a ha b hb => ?_⟩, h.sublist (List.drop_sublist _ _), fun a ha b hb => ?_⟩
  · rw [List.mem_singleton] at hb; subst hb; exact hlo a ha
  · rcases List.mem_append.1 ha with ha | ha
    · exact Pl.lt_trans (hlo a ha) (hhi b hb)
    · rw [List.mem_singleton] at ha; subst ha; exact hhi b hb
theorem put_lenNotice {L : List (List Value)} {x : List Value} (hn : atNotice L (codeOf x) = none) : (putG ordNotice L x).length = L.length + 1 := by
 rw [Pl.putG_len, findG_atNotice, hn]; rfl
theorem put_hasNotice {L : List (List Value)} {x e : List Value} (hn : atNotice L (codeOf x) = none) (h : e = x ∨ e ∈ L) : e ∈ putG ordNotice L x := by
 unfold putG
 rw [findG_atNotice, hn]
 simp only
 cases overG ordNotice L x with
 | none => rcases h with rfl | h <;> simp [*]
 | some i =>
  rcases h with rfl | h
  · simp
  · rw [← List.take_append_drop i L] at h
    simp only [List.mem_append, List.mem_singleton]
    rcases List.mem_append.1 h with h | h
    · exact .inl (.inl h)
    · exact .inr h
/-- What was put is found. -/
theorem gotNotice_put (L : List (List Value)) (x : List Value) : (atNotice (putG ordNotice L x) (codeOf x)).isSome = true ∧ gotNotice (putG ordNotice L x) (codeOf x) = x := by
 have hxx : Pl.eqv (codeOf x) (codeOf x) = true := (Pl.eqv_iff _ _).2 rfl
 have key : ∀ i, atNotice (putG ordNotice L x) (codeOf x) = some i → (putG ordNotice L x).getD i zeroNotice = x → (atNotice (putG ordNotice L x) (codeOf x)).isSome = true ∧ gotNotice (putG ordNotice L x) (codeOf x) = x := fun i h1 h2 => by
  unfold gotNotice; rw [h1]; exact ⟨rfl, h2⟩
 cases hf : findG ordNotice L x with
 | some i =>
  have hl := Pl.firstG_lt hf
  have hp := Pl.put_set ordNotice x L i hf
  refine key i ?_ ?_
  · rw [atNotice_first, hp]
    refine Pl.firstG_some (by rw [List.length_set]; exact hl) (fun j hj hji => ?_) ?_
    · rw [List.getElem_set_ne (by omega)]
      have hj' : j < L.length := by rwa [List.length_set] at hj
      have := Pl.firstG_before hf j hj' hji
      rw [show (ordNotice L[j] x == 0) = Pl.eqv (codeOf L[j]) (codeOf x) from Pl.cmp_zero _ _] at this
      exact this
    · rw [List.getElem_set_self]; exact hxx
  · rw [hp, List.getD_eq_getElem?_getD, List.getElem?_eq_getElem (by rw [List.length_set]; exact hl), List.getElem_set_self]; rfl
 | none =>
  have hn : ∀ e ∈ L, Pl.eqv (codeOf e) (codeOf x) = false := fun e he => by
   obtain ⟨j, hj, rfl⟩ := List.mem_iff_getElem.1 he
   have := Pl.firstG_all hf j hj
   rw [show (ordNotice L[j] x == 0) = Pl.eqv (codeOf L[j]) (codeOf x) from Pl.cmp_zero _ _] at this
   exact this
  have hs := put_hasNotice (L := L) (x := x) (e := x) (by rw [← findG_atNotice]; exact hf) (.inl rfl)
  cases hc : atNotice (putG ordNotice L x) (codeOf x) with
  | none =>
   rw [atNotice_first] at hc
   obtain ⟨j, hj, hjx⟩ := List.mem_iff_getElem.1 hs
   have := Pl.firstG_all hc j hj
   rw [hjx, hxx] at this; cases this
  | some i =>
   have h := hc
   rw [atNotice_first] at h
   have hi := Pl.firstG_lt h
   have ht := Pl.firstG_at h hi
   rw [← hc]
   refine key i hc ?_
   rw [List.getD_eq_getElem?_getD, List.getElem?_eq_getElem hi]
   rcases Pl.putG_mem (List.getElem_mem hi) with h1 | h1
   · exact h1
   · rw [hn _ h1] at ht; cases ht
/-- Put another one of its code, then the one that was there: the list is as it was. -/
theorem put_backNotice {L : List (List Value)} {x y : List Value} (h : (atNotice L (codeOf x)).isSome = true) (hg : gotNotice L (codeOf x) = x) (hy : codeOf y = codeOf x) : putG ordNotice (putG ordNotice L y) x = L := by
 cases hc : atNotice L (codeOf x) with
 | none => rw [hc] at h; cases h
 | some i =>
  have hf : findG ordNotice L y = some i := by rw [findG_atNotice, hy]; exact hc
  have hl := Pl.firstG_lt hf
  have hx : L[i] = x := by
   unfold gotNotice at hg
   rw [hc] at hg
   simpa [List.getD_eq_getElem?_getD, List.getElem?_eq_getElem hl] using hg
  have hf2 : findG ordNotice (L.set i y) x = some i := by
   rw [findG_atNotice, atNotice_first]
   refine Pl.firstG_some (by rw [List.length_set]; exact hl) (fun j hj hji => ?_) ?_
   · rw [List.getElem_set_ne (by omega)]
     have hj' : j < L.length := by rwa [List.length_set] at hj
     rw [atNotice_first] at hc
     exact Pl.firstG_before hc j hj' hji
   · rw [List.getElem_set_self]; exact (Pl.eqv_iff _ _).2 hy
  rw [Pl.put_set ordNotice y L i hf, Pl.put_set ordNotice x _ i hf2, List.set_set]
  rw [← hx]
  exact List.set_getElem_self hl
end Go.Proofs.YtgbilfkjfeheaaaGreat
