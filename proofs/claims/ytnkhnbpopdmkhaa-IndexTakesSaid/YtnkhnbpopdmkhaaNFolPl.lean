/-
  WHAT Follow's loops keep: a range over a map by keys; an item's list renewed; stands are as a machine holds them.
-/
import Derived.Test.YtnkhnbpopdmkhaaNByPl
import Derived.Test.YtnkhnbpopdmkhaaKL
import Derived.Sort.MapsRangeIn
namespace Go.Proofs.Ytnkhnbpopdmkhaa
set_option linter.unusedVariables false
open Go.RowKit Go.Maps
open Pl (firstG findG putG It)

/-- Block r ranges over the map at b, whose entries are as f says; those of which left says so are still to come. -/
def GR (w : World) (b r n : Nat) (f : Lit → Option Value) (left : Lit → Bool) (cnt : Nat) : Prop := ∃ D, w.ranges Try.prog 9 rawR b r n D left cnt ∧ SaysL D f
section
variable {w w' : World} {b r n cnt : Nat} {f : Lit → Option Value} {left : Lit → Bool}
theorem GR.gm (h : GR w b r n f left cnt) : GM 9 w b n f := by obtain ⟨D, h, s⟩ := h; exact ⟨D, h.owns, s⟩
theorem GR.kept (h : GR w b r n f left cnt) (hb : w'.heap[b]? = w.heap[b]?) (hr : w'.heap[r]? = w.heap[r]?) : GR w' b r n f left cnt := by
  obtain ⟨D, ⟨es, clock, since, seen, c0, h1, F, hs, hD, h2, rest⟩, s⟩ := h
  exact ⟨D, ⟨es, clock, since, seen, c0, hb.trans h1, F, hs, hD, hr.trans h2, rest⟩, s⟩
theorem GR.lt (h : GR w b r n f left cnt) : r < w.heap.size := by obtain ⟨D, h, _⟩ := h; exact h.lt
theorem GR.left_eq (h : GR w b r n f left cnt) : w.rangeLeft b r = cnt := by obtain ⟨D, h, _⟩ := h; exact h.left_eq
theorem GR.ne (h : GR w b r n f left cnt) : r ≠ b := by obtain ⟨D, h, _⟩ := h; exact h.ne
theorem GR.ne_cells {j : Nat} (h : GR w b r n f left cnt) {c : Array Value} {t : TypeId} {fr : Nat × Nat} (hb : w.heap[j]? = some (.cells c t fr)) : j ≠ r := by
  obtain ⟨D, ⟨es, clock, since, seen, c0, h1, F, hs, hD, h2, rest⟩, s⟩ := h
  rintro rfl; rw [hb] at h2; cases h2
end
theorem size_le {K : TypeId} {w : World} {b n : Nat} {D : DV} (h : w.ownsMap Try.prog K rawR b n D) : Maps.size D ≤ n := by
  obtain ⟨es, clock, hb, F, hs, rfl⟩ := h
  simp [Maps.size, length_sorted]
  exact hs
theorem key_inv {x : ByteArray} {kl : Lit} (h : keyOf Try.prog 9 (.string x) = some kl) : x.size ≤ 9223372036854775807 ∧ kl = sk x := by
  by_cases hx : x.size ≤ 9223372036854775807
  · rw [key_s hx] at h; injection h with h; exact ⟨hx, h.symm⟩
  · have hx' : ¬ x.size ≤ maxLen := hx
    simp [keyOf, Try.underlying9, mapKey, hx'] at h
theorem sk_same {s x : ByteArray} : (sk s).sameKey (sk x) = true ↔ s = x := ⟨fun h => sk_inj ((WideAt.sameKey_iff (sk_key x)).1 h), fun h => by subst h; exact WideAt.sameKey_self (sk_key s)⟩
theorem sk_diff {s x : ByteArray} (h : s ≠ x) : (sk s).sameKey (sk x) = false := by
  cases e : (sk s).sameKey (sk x) with
  | false => rfl
  | true => exact absurd (sk_same.1 e) h
/-- What the range hands out is what the map says. -/
theorem SaysL.next_at {D : DV} {f : Lit → Option Value} (h : SaysL D f) {x : ByteArray} {c : Value} {yd : DV} {yp : List MemPlace} (ha : ∀ zd, D.atKey (sk x) zd = yd) (hc : rawR c = some (yd, yp)) : f (sk x) = some c := by
  have h1 := rawR_inv hc
  cases hf : f (sk x) with
  | none =>
    have h2 : Maps.has D (sk x) = false := by rw [h.has _ (sk_key x), hf]; rfl
    have a1 := ha (.held (.bool true))
    have a2 := ha (.held (.bool false))
    rw [atKey_of_not_has h2] at a1 a2
    rw [← a2] at a1
    have := DataW.held.inj a1
    cases this
  | some v =>
    have a1 := ha (.held v)
    rw [h.at_ _ v _ (sk_key x) hf, h1] at a1
    rw [DataW.held.inj a1]
/-- No more entries than items. -/
theorem GM.tightS {w : World} {b n : Nat} {f : Lit → Option Value} (h : GM 9 w b n f) (S : List ByteArray) (hS : ∀ s, (f (sk s)).isSome = true → s ∈ S) : GM 9 w b S.length f := by
  obtain ⟨D, ho, hD⟩ := h
  have hstr : ∀ es', D = .map es' → ∀ p ∈ es', ∃ s, p.1 = sk s := by
    rintro es' rfl p hp
    obtain ⟨es, clock, hb, F, hs, hE⟩ := ho
    injection hE with hE
    subst hE
    obtain ⟨x, hx, rfl⟩ := List.mem_map.1 (mem_sorted.1 hp)
    obtain ⟨y, hy⟩ := F.reads x hx
    rw [WideElems.rg_of hy]
    obtain ⟨kl, hk⟩ := F.keys x hx
    have h1 := hk
    obtain ⟨s, hs'⟩ := Maps.keyOf_string_inv Try.underlying9 hk
    rw [hs'] at hk
    have h2 := WideElems.rd_key hy
    rw [hs'] at h2
    exact ⟨s, (key_inv h2).2⟩
  obtain ⟨es', rfl, hpw, hkl⟩ := ho.entries keyedS
  have hgm : GM 9 w b n f := ⟨_, ho, hD⟩
  have hl : (S.map sk).length = S.length := List.length_map ..
  rw [← hl]
  refine ⟨_, ?_, hD⟩
  obtain ⟨es, clock, hb, F, hs, hE⟩ := ho
  refine ⟨es, clock, hb, F, ?_, hE⟩
  have e1 : es.size = es'.length := by
    have := congrArg Maps.size hE
    simp [Maps.size, length_sorted] at this
    exact this.symm
  rw [e1]
  have hnd : (es'.map (·.1)).Nodup := List.pairwise_map.2 hpw
  have hsub : ∀ l ∈ es'.map (·.1), l ∈ S.map sk := fun l hl => by
    obtain ⟨p, hp, rfl⟩ := List.mem_map.1 hl
    obtain ⟨s, hs⟩ := hstr _ rfl p hp
    rw [hs]
    refine List.mem_map.2 ⟨s, hS s ?_, rfl⟩
    rw [← hs, ← hD.has _ (hkl p hp), has_eq, List.any_eq_true]
    exact ⟨p, hp, WideAt.sameKey_self (hkl p hp)⟩
  have := nodup_le _ _ hnd hsub
  simpa using this
/-- What a map of items says: the list Z s at each item s, each in a row of its own, of blocks of which Y holds. -/
structure IdxF (Y : Nat → Prop) (W : World) (Z : ByteArray → List (List Value)) (f : Lit → Option Value) (G C : ByteArray → Nat) : Prop where
  no : ∀ s, Z s = [] → f (sk s) = none
  yes : ∀ s, Z s ≠ [] → f (sk s) = some (.slice (some ⟨G s, 0, none⟩) (Z s).length (C s)) ∧ RowS W (G s) (C s) (Z s) ∧ Y (G s)
  inj : ∀ s t, Z s ≠ [] → Z t ≠ [] → G s = G t → s = t
theorem IdxF.row {Y : Nat → Prop} {W : World} {Z : ByteArray → List (List Value)} {f : Lit → Option Value} {G C : ByteArray → Nat} (h : IdxF Y W Z f G C) (s : ByteArray) :
    ∃ A c, (f (sk s)).getD (.slice none 0 0) = .slice A (Z s).length c ∧ W.ownsRow 0 69 8 (.slice A (Z s).length c) (Z s).length (Z s).flatten ∧ (A = none ∧ Z s = [] ∨ A = some ⟨G s, 0, none⟩ ∧ Z s ≠ []) := by
  by_cases hz : Z s = []
  · exact ⟨none, 0, by rw [h.no s hz, hz]; rfl, by rw [hz]; exact ⟨rfl, .inl ⟨rfl, rfl⟩⟩, .inl ⟨rfl, hz⟩⟩
  · exact ⟨_, _, by rw [(h.yes s hz).1]; rfl, (h.yes s hz).2.1, .inr ⟨rfl, hz⟩⟩
theorem IdxF.kept {Y : Nat → Prop} {W W' : World} {Z : ByteArray → List (List Value)} {f : Lit → Option Value} {G C : ByteArray → Nat} (h : IdxF Y W Z f G C) (hk : ∀ s, Z s ≠ [] → W'.heap[G s]? = W.heap[G s]?) : IdxF Y W' Z f G C :=
  ⟨h.no, fun s hs => ⟨(h.yes s hs).1, row_keep (h.yes s hs).2.1 (hk s hs), (h.yes s hs).2.2⟩, h.inj⟩
theorem RowS.cells {w : World} {g c : Nat} {S : List (List Value)} (h : RowS w g c S) : ∃ cur : Array Value, w.heap[g]? = some (.cells cur 69 (0, 0)) := by
  obtain ⟨cur, hc, _⟩ := row_cells h
  exact ⟨cur, hc⟩
/-- One item's list is renewed. -/
theorem IdxF.step {Y : Nat → Prop} {W W2 W3 : World} {Z Z' : ByteArray → List (List Value)} {f : Lit → Option Value} {G C : ByteArray → Nat} {mb n m c c' : Nat} {A A' : Option Addr} {s0 : ByteArray} (h : IdxF Y W Z f G C) (hg : GM 9 W mb n f)
    (hY : ∀ k, W.heap.size ≤ k → Y k) (hZ : ∀ s, s ≠ s0 → Z' s = Z s) (hne : Z' s0 ≠ []) (hm : m = (Z' s0).length) (hA : A = none ∧ Z s0 = [] ∨ A = some ⟨G s0, 0, none⟩ ∧ Z s0 ≠ []) (hc : Onx (Blk A) W W2)
    (hown : W2.ownsRow 0 69 8 (.slice A' m c') m (Z' s0).flatten) (hbk : ∀ k, Blk A' k → Blk A k ∨ W.heap.size ≤ k) (ht : W2.mapTurned W3 mb) :
    ∃ G' C', IdxF Y W3 Z' (updL f (sk s0) (some (.slice A' m c'))) G' C' := by
  obtain ⟨g', rfl⟩ : ∃ g', A' = some ⟨g', 0, none⟩ := by
    rcases hown.2 with ⟨_, h0⟩ | ⟨g, cap, cur, hv, _⟩
    · exact absurd (List.length_eq_zero_iff.1 (hm.symm.trans h0)) hne
    · injection hv with hv _ _; exact ⟨g, hv⟩
  have t3 := ht.grown
  have hlt : ∀ s, Z s ≠ [] → G s < W.heap.size := fun s hs => own_ltS (h.yes s hs).2.1
  have hnm : ∀ s, Z s ≠ [] → G s ≠ mb := fun s hs => by
    obtain ⟨cur, hcur⟩ := (h.yes s hs).2.1.cells
    exact fun e => hg.ne_cells hcur e.symm
  have hAb : ∀ k, Blk A k → k = G s0 ∧ Z s0 ≠ [] := fun k hk => by
    obtain ⟨a, ha, rfl⟩ := hk
    rcases hA with ⟨rfl, _⟩ | ⟨rfl, h2⟩
    · cases ha
    · injection ha with ha; subst ha; exact ⟨rfl, h2⟩
  have hg' : (g' = G s0 ∧ Z s0 ≠ []) ∨ W.heap.size ≤ g' := (hbk g' ⟨_, rfl, rfl⟩).imp (fun k => hAb g' k) id
  have hgm : g' ≠ mb := by
    rcases hg' with ⟨e, h1⟩ | e
    · rw [e]; exact hnm s0 h1
    · have := hg.lt; omega
  have hkk : ∀ s, s ≠ s0 → Z s ≠ [] → W3.heap[G s]? = W.heap[G s]? := fun s hs hz => (t3.block _ (Nat.lt_of_lt_of_le (hlt s hz) hc.size) (fun e => hnm s hz (by injection e))).trans (hc.block _ (hlt s hz) (fun hb => hs (h.inj s s0 hz (hAb _ hb).2 (hAb _ hb).1)))
  have hne' : ∀ s, s ≠ s0 → Z s ≠ [] → G s ≠ g' := fun s hs hz => by
    rcases hg' with ⟨e, h1⟩ | e
    · rw [e]; exact fun q => hs (h.inj s s0 hz h1 q)
    · have := hlt s hz; omega
  have hrow : RowS W3 g' c' (Z' s0) := by
    unfold RowS
    rw [← hm]
    exact row_kept hown (t3.block _ (own_ltS hown) (fun e => hgm (by injection e)))
  have hYg : Y g' := by
    rcases hg' with ⟨e, h1⟩ | e
    · rw [e]; exact (h.yes s0 h1).2.2
    · exact hY _ e
  have hv : Pl.eqv s0 s0 = true := (Pl.eqv_iff _ _).2 rfl
  have hn : ∀ s, s ≠ s0 → ¬ Pl.eqv s s0 = true := fun s hs q => hs ((Pl.eqv_iff _ _).1 q)
  have u1 : ∀ s, s ≠ s0 → updL f (sk s0) (some (.slice (some ⟨g', 0, none⟩) m c')) (sk s) = f (sk s) := fun s hs => updL_other (sk_key s0) (fun e => hs (sk_inj e))
  refine ⟨fun s => if Pl.eqv s s0 = true then g' else G s, fun s => if Pl.eqv s s0 = true then c' else C s, fun s hs => ?_, fun s hs => ?_, fun s t hs ht => ?_⟩
  · by_cases e : s = s0
    · subst e; exact absurd hs hne
    · rw [u1 s e]; rw [hZ s e] at hs; exact h.no s hs
  · by_cases e : s = s0
    · subst e
      simp only [hv, if_true]
      rw [updL_same _ (sk_key s), ← hm]
      exact ⟨rfl, hrow, hYg⟩
    · simp only [if_neg (hn s e)]
      rw [hZ s e] at hs ⊢
      rw [u1 s e]
      exact ⟨(h.yes s hs).1, row_keep (h.yes s hs).2.1 (hkk s e hs), (h.yes s hs).2.2⟩
  · by_cases es : s = s0 <;> by_cases et : t = s0
    · exact fun _ => es.trans et.symm
    · subst es
      rw [hZ t et] at ht
      simp only [hv, if_true, if_neg (hn t et)]
      exact fun q => absurd q.symm (hne' t et ht)
    · subst et
      rw [hZ s es] at hs
      simp only [hv, if_true, if_neg (hn s es)]
      exact fun q => absurd q (hne' s es hs)
    · rw [hZ s es] at hs
      rw [hZ t et] at ht
      simp only [if_neg (hn s es), if_neg (hn t et)]
      exact h.inj s t hs ht
/-! ### stands are as a machine holds them -/
theorem mild_mem {L : Nat → List (List Value)} (hm : MildL L) {i : Nat} (hi : i < 14) {e : List Value} (he : e ∈ L i) {u : Value} (hu : u ∈ e) : Mild u := hm i hi e he u hu
theorem zone_mild {L : Nat → List (List Value)} (hm : MildL L) (t : Things kZone (L 2)) (s : ByteArray) : (siteZ (gotZone (L 2) s)).size ≤ 9223372036854775807 := by
  have hc := zone_cells (gotZone_fits t s)
  have hu : ∀ u ∈ gotZone (L 2) s, Mild u := by
    unfold gotZone
    split
    · rename_i i hi
      have hl : i < (L 2).length := Pl.firstG_lt hi
      rw [List.getD_eq_getElem?_getD, List.getElem?_eq_getElem hl]
      exact fun u hu => hm 2 (by decide) _ (List.getElem_mem hl) u hu
    · intro u hu
      simp only [zeroZone, List.mem_cons, List.not_mem_nil, or_false, or_self] at hu
      subst hu; exact Nat.zero_le _
  obtain ⟨z, hz⟩ : ∃ z, siteZ (gotZone (L 2) s) = z := ⟨_, rfl⟩
  rw [hz] at hc ⊢
  have h1 := hu (.string z) (by rw [hc]; simp)
  exact h1
theorem lot_mild {L : Nat → List (List Value)} (hm : MildL L) (t : Things kLot (L 1)) (a c : ByteArray) : Wf (expL (gotL (L 1) a c)) := by
  have hc := lot_cells (gotL_fits t a c)
  have hu : ∀ u ∈ gotL (L 1) a c, Mild u := by
    unfold gotL
    split
    · rename_i i hi
      have hl : i < (L 1).length := Pl.firstG_lt hi
      rw [List.getD_eq_getElem?_getD, List.getElem?_eq_getElem hl]
      exact fun u hu => hm 1 (by decide) _ (List.getElem_mem hl) u hu
    · intro u hu
      simp only [zeroL, List.mem_cons, List.not_mem_nil, or_false] at hu
      rcases hu with rfl | rfl | rfl
      · exact Nat.zero_le _
      · exact Nat.zero_le _
      · exact (by decide : (Lit.int .i64 0).wf = true)
  obtain ⟨z, hz⟩ : ∃ z, expL (gotL (L 1) a c) = z := ⟨_, rfl⟩
  rw [hz] at hc ⊢
  exact wf_mild (hu (.int .i64 z) (by rw [hc]; simp))
theorem mild_st {h : Hs} {L : Nat → List (List Value)} {w : World} (hh : HT h L w) (hn6 : h.n 4 ≤ 1000) (hm : MildL L) {i : Nat} (hi : i < (L 4).length) : (sdOf (stA L (twN L) i)).mild := by
  have hfq : Fits kQuant (qA (L 4) i) := by rw [qA_at (L 4) i hi]; exact (hh 4 (by decide)).2.2.1 _ (List.getElem_mem hi)
  obtain ⟨hq, _⟩ := mild_q hm hi hfq
  have hl4 : (L 4).length ≤ 1000 := by rw [← (hh 4 (by decide)).1]; exact hn6
  unfold stA
  rw [stE_of]
  refine ⟨hq, ?_, ?_, ?_, ?_⟩
  · show (siteT (L 2) (L 3) _).size ≤ _
    unfold siteT
    split
    · exact zone_mild hm (hh 2 (by decide)).2.2.1 _
    · exact Nat.zero_le _
  · show Wf (dayQ (L 1) _)
    unfold dayQ dayZ
    split
    · exact ⟨by decide, by decide⟩
    · exact lot_mild hm (hh 1 (by decide)).2.2.1 _ _
  · show Wf ((cntK L _ i : Nat) : Int)
    have := cntK_le L (qnOf (qA (L 4) i)).ky i
    constructor <;> omega
  · show Wf (wrap64 _)
    unfold wrap64
    constructor <;> omega
theorem mild_idx {h : Hs} {L : Nat → List (List Value)} {w : World} (hh : HT h L w) (hn6 : h.n 4 ≤ 1000) (hm : MildL L) (s : ByteArray) : ∀ e ∈ idxM L s, (sdOf e).mild := fun e he => by
  unfold idxM at he
  obtain ⟨i, hi, rfl⟩ := List.mem_map.1 he
  exact mild_st hh hn6 hm (List.mem_range.1 (List.mem_filter.1 hi).1)
/-- An item of the index is an item of a quant. -/
theorem idx_item {L : Nat → List (List Value)} {s : ByteArray} (h : idxL L s ≠ []) : s ∈ (L 4).map (fun e => (qnOf e).item) := by
  have h1 : idxM L s ≠ [] := fun e => h ((idx_nil L s).2 e)
  obtain ⟨x, hx⟩ := List.exists_mem_of_ne_nil _ h1
  unfold idxM at hx
  obtain ⟨i, hi, rfl⟩ := List.mem_map.1 hx
  obtain ⟨h2, h3⟩ := List.mem_filter.1 hi
  have h4 := List.mem_range.1 h2
  unfold elN itB at h3
  simp only [Bool.and_eq_true] at h3
  refine List.mem_map.2 ⟨(L 4)[i], List.getElem_mem h4, ?_⟩
  rw [← qA_at (L 4) i h4]
  exact (Pl.eqv_iff _ _).1 h3.1
end Go.Proofs.Ytnkhnbpopdmkhaa
