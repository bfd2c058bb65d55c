/-
  PLAIN: things of api.Item by their code. (By wip/tools/gen_one.py.)
  PLAIN: lists of api.Item that rise; what was put is found. (By wip/tools/gen_one.py.)
  (By wip/tools/merge.py.)
-/
import Derived.Test.YtjacodbmmhnopaaGreatOBase
namespace Go.Proofs.YtjacodbmmhnopaaGreat
set_option linter.unusedVariables false
open Go.RowKit
open Pl (firstG findG putG overG)

def ordItem (a b : List Value) : Int := Pl.cmp (codeOf a) (codeOf b)
theorem code_Item {x : List Value} (h : Fits kItem x) : ∃ r, x = .string (codeOf x) :: r := by
  match x, h with
  | v :: r, h => obtain ⟨d, rfl⟩ := h.1; exact ⟨r, rfl⟩
def zeroItem : List Value := [.string ⟨#[]⟩, .string ⟨#[]⟩, .int .i64 0, .string ⟨#[]⟩, .int .i64 0, .string ⟨#[]⟩, .int .i64 0, .string ⟨#[]⟩, .int .i64 0, .int .i64 0, .int .i64 0, .bool false, .bool false, .bool false]
def keyItem (s : ByteArray) : List Value := [.string s, .string ⟨#[]⟩, .int .i64 0, .string ⟨#[]⟩, .int .i64 0, .string ⟨#[]⟩, .int .i64 0, .string ⟨#[]⟩, .int .i64 0, .int .i64 0, .int .i64 0, .bool false, .bool false, .bool false]
theorem keyItem_fits (s : ByteArray) : Fits kItem (keyItem s) := ⟨⟨_, rfl⟩, ⟨_, rfl⟩, ⟨_, rfl⟩, ⟨_, rfl⟩, ⟨_, rfl⟩, ⟨_, rfl⟩, ⟨_, rfl⟩, ⟨_, rfl⟩, ⟨_, rfl⟩, ⟨_, rfl⟩, ⟨_, rfl⟩, ⟨_, rfl⟩, ⟨_, rfl⟩, ⟨_, rfl⟩, trivial⟩
theorem zeroItem_fits : Fits kItem zeroItem := keyItem_fits _
/-- Where an item of a code stands; the item. -/
def atItem (L : List (List Value)) (s : ByteArray) : Option Nat := findG ordItem L (keyItem s)
def gotItem (L : List (List Value)) (s : ByteArray) : List Value := match atItem L s with | some i => L.getD i zeroItem | none => zeroItem
theorem gotItem_fits {L : List (List Value)} (h : Things kItem L) (s : ByteArray) : Fits kItem (gotItem L s) := by
  unfold gotItem
  split
  · rename_i i hi
    have hl : i < L.length := Pl.firstG_lt hi
    rw [List.getD_eq_getElem?_getD, List.getElem?_eq_getElem hl]
    exact h _ (List.getElem_mem hl)
  · exact zeroItem_fits
theorem atItem_first (L : List (List Value)) (s : ByteArray) : atItem L s = firstG (fun e => Pl.eqv (codeOf e) s) L := by
  unfold atItem findG
  congr 1
  funext e
  exact Pl.cmp_zero _ _
theorem gotItem_none {L : List (List Value)} {s : ByteArray} (h : (atItem L s).isSome = false) : gotItem L s = zeroItem := by
  unfold gotItem
  cases hc : atItem L s with
  | none => rfl
  | some i => rw [hc] at h; cases h
theorem gotItem_code {L : List (List Value)} {s : ByteArray} (h : (atItem L s).isSome = true) : codeOf (gotItem L s) = s := by
  unfold gotItem
  cases hc : atItem L s with
  | none => rw [hc] at h; cases h
  | some i =>
    rw [atItem_first] at hc
    have hl := Pl.firstG_lt hc
    have ha := Pl.firstG_at hc hl
    simp only [List.getD_eq_getElem?_getD, List.getElem?_eq_getElem hl, Option.getD_some]
    exact (Pl.eqv_iff _ _).1 ha
end Go.Proofs.YtjacodbmmhnopaaGreat

namespace Go.Proofs.YtjacodbmmhnopaaGreat
set_option linter.unusedVariables false
open Go.RowKit
open Pl (firstG findG putG overG)

def UpItem (L : List (List Value)) : Prop := L.Pairwise fun a b => Pl.lt (codeOf a) (codeOf b) = true
theorem UpItem.at {L : List (List Value)} (h : UpItem L) {i j : Nat} (hi : i < L.length) (hj : j < L.length) (hij : i < j) : Pl.lt (codeOf L[i]) (codeOf L[j]) = true := List.pairwise_iff_getElem.1 h i j hi hj hij
theorem atItem_at {L : List (List Value)} (h : UpItem L) {k : Nat} (hk : k < L.length) : atItem L (codeOf L[k]) = some k := by
  rw [atItem_first]
  exact Pl.firstG_some hk (fun j hj hjk => eqv_of_lt (h.at hj hk hjk)) ((Pl.eqv_iff _ _).2 rfl)
theorem gotItem_at {L : List (List Value)} (h : UpItem L) {k : Nat} (hk : k < L.length) : gotItem L (codeOf L[k]) = L[k] := by
  unfold gotItem
  rw [atItem_at h hk]
  simp only []
  rw [List.getD_eq_getElem?_getD, List.getElem?_eq_getElem hk]; rfl
theorem atItem_none {L : List (List Value)} {s : ByteArray} (h : atItem L s = none) : ∀ e ∈ L, codeOf e ≠ s := fun e he hs => by
  obtain ⟨j, hj, rfl⟩ := List.getElem_of_mem he
  rw [atItem_first] at h
  have := Pl.firstG_all h j hj
  rw [hs, (Pl.eqv_iff s s).2 rfl] at this
  cases this
theorem atItem_some {L : List (List Value)} {s : ByteArray} {k : Nat} (h : atItem L s = some k) : ∃ e ∈ L, codeOf e = s := by
  rw [atItem_first] at h
  have hk := Pl.firstG_lt h
  exact ⟨L[k], List.getElem_mem hk, (Pl.eqv_iff _ _).1 (Pl.firstG_at h hk)⟩
theorem findG_atItem {L : List (List Value)} {x : List Value} : findG ordItem L x = atItem L (codeOf x) := by
  rw [atItem_first]
  unfold findG
  congr 1
  funext e
  exact Pl.cmp_zero _ _
theorem put_upItem {L : List (List Value)} {x : List Value} (h : UpItem L) (hn : atItem L (codeOf x) = none) : UpItem (putG ordItem L x) := by
  have hne := atItem_none hn
  unfold putG
  rw [findG_atItem, hn]
  simp only
  cases ho : overG ordItem L x with
  | none =>
    refine List.pairwise_append.2 ⟨h, List.pairwise_singleton _ _, fun a ha b hb => ?_⟩
    rw [List.mem_singleton] at hb
    subst hb
    obtain ⟨j, hj, rfl⟩ := List.getElem_of_mem ha
    have := Pl.firstG_all ho j hj
    rw [show decide (0 < ordItem L[j] b) = Pl.lt (codeOf b) (codeOf L[j]) from Pl.cmp_pos _ _] at this
    rcases Pl.lt_tri (codeOf L[j]) (codeOf b) with h' | h' | h'
    · exact h'
    · exact absurd h' (hne _ (List.getElem_mem hj))
    · rw [this] at h'; cases h'
  | some i =>
    have hi := Pl.firstG_lt ho
    have hxi : Pl.lt (codeOf x) (codeOf L[i]) = true := by
      have := Pl.firstG_at ho hi
      rwa [show decide (0 < ordItem L[i] x) = Pl.lt (codeOf x) (codeOf L[i]) from Pl.cmp_pos _ _] at this
    have hlo : ∀ a ∈ L.take i, Pl.lt (codeOf a) (codeOf x) = true := fun a ha => by
      obtain ⟨j, hj, rfl⟩ := List.getElem_of_mem ha
      rw [List.length_take] at hj
      rw [List.getElem_take]
      have := Pl.firstG_before ho j (by omega) (by omega)
      rw [show decide (0 < ordItem L[j] x) = Pl.lt (codeOf x) (codeOf L[j]) from Pl.cmp_pos _ _] at this
      rcases Pl.lt_tri (codeOf L[j]) (codeOf x) with h' | h' | h'
      · exact h'
      · exact absurd h' (hne _ (List.getElem_mem (by omega)))
      · rw [this] at h'; cases h'
    have hhi : ∀ b ∈ L.drop i, Pl.lt (codeOf x) (codeOf b) = true := fun b hb => by
      obtain ⟨j, hj, rfl⟩ := List.getElem_of_mem hb
      rw [List.length_drop] at hj
      rw [List.getElem_drop]
      rcases Nat.eq_zero_or_pos j with h0 | h0
      · subst h0; simpa using hxi
      · exact Pl.lt_trans hxi (h.at hi (by omega) (by omega))
    refine List.pairwise_append.2 ⟨List.pairwise_append.2 ⟨h.sublist (List.take_sublist _ _), List.pairwise_singleton _ _, fun a ha b hb => ?_⟩, h.sublist (List.drop_sublist _ _), fun a ha b hb => ?_⟩
    · rw [List.mem_singleton] at hb; subst hb; exact hlo a ha
    · rcases List.mem_append.1 ha with ha | ha
      · exact Pl.lt_trans (hlo a ha) (hhi b hb)
      · rw [List.mem_singleton] at ha; subst ha; exact hhi b hb
theorem put_lenItem {L : List (List Value)} {x : List Value} (hn : atItem L (codeOf x) = none) : (putG ordItem L x).length = L.length + 1 := by
  rw [Pl.putG_len, findG_atItem, hn]; rfl
theorem put_hasItem {L : List (List Value)} {x e : List Value} (hn : atItem L (codeOf x) = none) (h : e = x ∨ e ∈ L) : e ∈ putG ordItem L x := by
  unfold putG
  rw [findG_atItem, hn]
  simp only
  cases overG ordItem L x with
  | none => rcases h with rfl | h <;> simp [*]
  | some i =>
    rcases h with rfl | h
    · simp
    · rw [← List.take_append_drop i L] at h
      simp only [List.mem_append, List.mem_singleton]
      rcases List.mem_append.1 h with h | h
      · exact .inl (.inl h)
      · exact .inr h
/-- What was put is found. -/
theorem gotItem_put (L : List (List Value)) (x : List Value) : (atItem (putG ordItem L x) (codeOf x)).isSome = true ∧ gotItem (putG ordItem L x) (codeOf x) = x := by
  have hxx : Pl.eqv (codeOf x) (codeOf x) = true := (Pl.eqv_iff _ _).2 rfl
  have key : ∀ i, atItem (putG ordItem L x) (codeOf x) = some i → (putG ordItem L x).getD i zeroItem = x → (atItem (putG ordItem L x) (codeOf x)).isSome = true ∧ gotItem (putG ordItem L x) (codeOf x) = x := fun i h1 h2 => by
    unfold gotItem; rw [h1]; exact ⟨rfl, h2⟩
  cases hf : findG ordItem L x with
  | some i =>
    have hl := Pl.firstG_lt hf
    have hp := Pl.put_set ordItem x L i hf
    refine key i ?_ ?_
    · rw [atItem_first, hp]
      refine Pl.firstG_some (by rw [List.length_set]; exact hl) (fun j hj hji => ?_) ?_
      · rw [List.getElem_set_ne (by omega)]
        have hj' : j < L.length := by rwa [List.length_set] at hj
        have := Pl.firstG_before hf j hj' hji
        rw [show (ordItem L[j] x == 0) = Pl.eqv (codeOf L[j]) (codeOf x) from Pl.cmp_zero _ _] at this
        exact this
      · rw [List.getElem_set_self]; exact hxx
    · rw [hp, List.getD_eq_getElem?_getD, List.getElem?_eq_getElem (by rw [List.length_set]; exact hl), List.getElem_set_self]; rfl
  | none =>
    have hn : ∀ e ∈ L, Pl.eqv (codeOf e) (codeOf x) = false := fun e he => by
      obtain ⟨j, hj, rfl⟩ := List.mem_iff_getElem.1 he
      have := Pl.firstG_all hf j hj
      rw [show (ordItem L[j] x == 0) = Pl.eqv (codeOf L[j]) (codeOf x) from Pl.cmp_zero _ _] at this
      exact this
    have hs := put_hasItem (L := L) (x := x) (e := x) (by rw [← findG_atItem]; exact hf) (.inl rfl)
    cases hc : atItem (putG ordItem L x) (codeOf x) with
    | none =>
      rw [atItem_first] at hc
      obtain ⟨j, hj, hjx⟩ := List.mem_iff_getElem.1 hs
      have := Pl.firstG_all hc j hj
      rw [hjx, hxx] at this; cases this
    | some i =>
      have h := hc
      rw [atItem_first] at h
      have hi := Pl.firstG_lt h
      have ht := Pl.firstG_at h hi
      rw [← hc]
      refine key i hc ?_
      rw [List.getD_eq_getElem?_getD, List.getElem?_eq_getElem hi]
      rcases Pl.putG_mem (List.getElem_mem hi) with h1 | h1
      · exact h1
      · rw [hn _ h1] at ht; cases ht
/-- Put another one of its code, then the one that was there: the list is as it was. -/
theorem put_backItem {L : List (List Value)} {x y : List Value} (h : (atItem L (codeOf x)).isSome = true) (hg : gotItem L (codeOf x) = x) (hy : codeOf y = codeOf x) : putG ordItem (putG ordItem L y) x = L := by
  cases hc : atItem L (codeOf x) with
  | none => rw [hc] at h; cases h
  | some i =>
    have hf : findG ordItem L y = some i := by rw [findG_atItem, hy]; exact hc
    have hl := Pl.firstG_lt hf
    have hx : L[i] = x := by
      unfold gotItem at hg
      rw [hc] at hg
      simpa [List.getD_eq_getElem?_getD, List.getElem?_eq_getElem hl] using hg
    have hf2 : findG ordItem (L.set i y) x = some i := by
      rw [findG_atItem, atItem_first]
      refine Pl.firstG_some (by rw [List.length_set]; exact hl) (fun j hj hji => ?_) ?_
      · rw [List.getElem_set_ne (by omega)]
        have hj' : j < L.length := by rwa [List.length_set] at hj
        rw [atItem_first] at hc
        exact Pl.firstG_before hc j hj' hji
      · rw [List.getElem_set_self]; exact (Pl.eqv_iff _ _).2 hy
    rw [Pl.put_set ordItem y L i hf, Pl.put_set ordItem x _ i hf2, List.set_set]
    rw [← hx]
    exact List.set_getElem_self hl
end Go.Proofs.YtjacodbmmhnopaaGreat
